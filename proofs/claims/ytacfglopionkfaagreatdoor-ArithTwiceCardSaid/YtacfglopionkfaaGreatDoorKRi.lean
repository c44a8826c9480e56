import Derived.Test.YtacfglopionkfaaGreatDoorKRf
namespace Go.Proofs.YtacfglopionkfaaGreatDoor
set_option maxHeartbeats 8000000
set_option maxRecDepth 100000
open Go.RowKit
theorem aaM {l:List Int} {k:Nat} (h:0<fC (l.drop (ay l k))):tok l k=⟨3,ay l k,ay l k+fC (l.drop (ay l k)),dI ((l.drop (ay l k)).take (fC (l.drop (ay l k)))),0,false⟩:=by
 rcases lg l k with ⟨e,_,_⟩ | ⟨_,_,e,_⟩ | ⟨e,_,_,_⟩ | ⟨e,_,_,_⟩ | ⟨e,_,_,_,_⟩
 ·rw [e] at h;exact absurd h (by decide)
 ·exact e
 ·omega
 ·omega
 ·omega
theorem aaL {l:List Int} {k:Nat} (h:fC (l.drop (ay l k))=0): ¬(tok l k).kind=3:=by
 rcases lg l k with ⟨_,e,_⟩ | ⟨e,_,_,_⟩ | ⟨_,_,e,_⟩ | ⟨_,_,_,e⟩ | ⟨_,_,_,_,e⟩
 ·rw [e];show¬(0:Int)=3;decide
 ·omega
 ·rw [e];show¬(2:Int)=3;decide
 ·rw [e];show¬(4:Int)=3;decide
 ·rw [e];show¬(1:Int)=3;decide
theorem KR {l:List Int} (hb:nN l) {k:Nat} (h: ¬fB l k=ak):(tok l k).text=fB l k∧(tok l k).stop=ay l k+(fB l k).size∧(tok l k).start=ay l k:=by
 refine ⟨?_,oC l k h⟩
 rcases tN hb k with e | ⟨e,_⟩
 ·exact e
 ·exact absurd e h
theorem XG {l:List Int} {bv:Value} {rb n k:Nat} {res:Rs} {w:World} (ih:Bh l bv rb n) (hrd:rd l (n+1) .expr (tok l k)=some res) (h:gU l bv rb k 0 0 w) (hk:k≤l.length):
  Calls Tryz.prog 41 #[.pointer (some ⟨rb,0,none⟩)] w fun e w'=>Ak l bv rb (n+1) w.heap.size res e w'∧Ch rb w w':=by
 have hb:=h.sl.1
 simp only [rd] at hrd
 rcases Nat.eq_zero_or_pos (fC (l.drop (ay l k))) with h0 | h0
 ·rw [if_neg (fun hh=>aaL h0 hh.1)] at hrd
  exact NR ih hrd h0 h hk
 ·have hn:=aaM h0
  have hs:(tok l k).stop=ay l k+fC (l.drop (ay l k)):=by rw [hn]
  rw [hs,aau hb] at hrd
  cases ha:fZ (fB l (ay l k+fC (l.drop (ay l k)))) with
  | false=>
   rw [ha,if_neg (fun hh=>Bool.noConfusion hh.2)] at hrd
   exact NS ih hrd h0 ha h hk
  | true=>
   have hne: ¬fB l (ay l k+fC (l.drop (ay l k)))=ak:=og ha
   obtain ⟨t1,t2,t3⟩:=KR hb hne
   rw [ha,if_pos ⟨by rw [hn],rfl⟩,t1,t2,t3] at hrd
   have htt:(tok l k).text=dI ((l.drop (ay l k)).take (fC (l.drop (ay l k)))):=by rw [hn]
   have hts:(tok l k).start=ay l k:=KE l k
   rw [htt,hts] at hrd
   cases hx:rd l n .expr (tok l (ay l (ay l k+fC (l.drop (ay l k)))+(fB l (ay l k+fC (l.drop (ay l k)))).size)) with
   | none=>rw [hx] at hrd;cases hrd
   | some r=>
    have hc:=MS ih hx h0 ha h hk
    have he:res=r.map (.eF (fB l (ay l k+fC (l.drop (ay l k)))) (dI ((l.drop (ay l k)).take (fC (l.drop (ay l k))))) (ay l k) (ay l (ay l k+fC (l.drop (ay l k))))):=by
     rw [hx] at hrd
     cases r<;>exact (Option.some.inj hrd).symm
    rw [he]
    exact hc
theorem XH {l:List Int} {bv:Value} {rb n k:Nat} {res:Rs} {w:World} (ih:Bh l bv rb n) (hrd:rd l (n+1) .cond (tok l k)=some res) (h:gU l bv rb k 0 0 w) (hk:k≤l.length):
  Calls Tryz.prog 77 #[.pointer (some ⟨rb,0,none⟩)] w fun e w'=>Ak l bv rb (n+1) w.heap.size res e w'∧Ch rb w w':=by
 simp only [rd] at hrd
 cases h1:rd l n (.bin 1) (tok l k) with
 | none=>rw [h1] at hrd;cases hrd
 | some r1=>
  rw [h1] at hrd
  cases r1 with
  | bad c q=>
   obtain rfl:Rs.bad c q=res:=Option.some.inj hrd
   exact MV ih h1 h hk
  | ok a t1=>
   dsimp only at hrd
   by_cases hq:t1.text=iE
   ·rw [if_pos hq] at hrd
    cases h2:rd l n .expr (tok l t1.stop) with
    | none=>rw [h2] at hrd;cases hrd
    | some r2=>
     rw [h2] at hrd
     cases r2 with
     | bad c q=>
      obtain rfl:Rs.bad c q=res:=Option.some.inj hrd
      exact QH ih h1 hq h2 h hk
     | ok y t2=>
      dsimp only at hrd
      by_cases hc:t2.text=o8
      ·rw [if_pos hc] at hrd
       cases h3:rd l n .cond (tok l t2.stop) with
       | none=>rw [h3] at hrd;cases hrd
       | some r3=>
        have hh:=MW ih h1 hq h2 hc h3 h hk
        have he:res=r3.map (.cond t1.text t1.start a y):=by
         rw [h3] at hrd
         cases r3<;>exact (Option.some.inj hrd).symm
        rw [he]
        exact hh
      ·rw [if_neg hc] at hrd
       obtain rfl:refuse t2=res:=Option.some.inj hrd
       exact QI ih h1 hq h2 hc h hk
   ·rw [if_neg hq] at hrd
    obtain rfl:Rs.ok a t1=res:=Option.some.inj hrd
    exact F8 ih h1 hq h hk
theorem Xp:jo ⟨#[43]⟩=(⟨#[117]⟩++⟨#[43]⟩):=if_pos (Or.inl rfl)
theorem UY:jo ⟨#[45]⟩=(⟨#[117]⟩++⟨#[45]⟩):=if_pos (Or.inr rfl)
theorem Xr:jo ⟨#[33]⟩=⟨#[33]⟩:=by decide
theorem UW:jo ⟨#[126]⟩=⟨#[126]⟩:=by decide
theorem aaH {l:List Int} {bv:Value} {rb n k:Nat} {res:Rs} {w:World} (ih:Bh l bv rb n) (hN:n≤100000) (hrd:rd l (n+1) .iR (tok l k)=some res) (h:gU l bv rb k 0 0 w) (hk:k≤l.length):
  Calls Tryz.prog 147 #[.pointer (some ⟨rb,0,none⟩)] w fun e w'=>Ak l bv rb (n+1) w.heap.size res e w'∧Ch rb w w':=by
 have hb:=h.sl.1
 simp only [rd] at hrd
 by_cases hse:fB l k=ak
 ·have hno: ∀x:ByteArray,x∈aF→ ¬fB l k=x:=fun x hx e=>by rw [hse] at e;rw [←e] at hx;exact L8 hx
  have n1:=hno ⟨#[43]⟩ (kQ (by decide))
  have n2:=hno ⟨#[45]⟩ (kQ (by decide))
  have n3:=hno ⟨#[33]⟩ (kQ (by decide))
  have n4:=hno ⟨#[126]⟩ (kQ (by decide))
  have n5:=hno ⟨#[40]⟩ (kQ (by decide))
  have hu:jo (tok l k).text=ak:=by rw [tx_un hb,hse];decide
  have ho: ¬(tok l k).text=jy:=fun e=>n5 ((zn hb k XJ).1 e)
  rcases lg l k with ⟨hd,e,_⟩ | ⟨hn,_,e,_⟩ | ⟨hn,hc,e,_⟩ | ⟨_,_,hs,_⟩ | ⟨hn,hc,_,_,e⟩
  ·rw [if_neg (by rw [e];show¬(0:Int)=2;decide),if_neg (by rw [e];show¬(0:Int)=3;decide),if_neg (by rw [hu];exact fun hh=>hh rfl),if_neg ho] at hrd
   obtain rfl:refuse (tok l k)=res:=Option.some.inj hrd
   exact AO ih n1 n2 n3 n4 n5 (by rw [hd];decide) (by rw [hd];exact vF fun x m e=>by cases e) h hk
  ·rw [if_neg (by rw [e];show¬(3:Int)=2;decide),if_pos (by rw [e])] at hrd
   have hh:=QE ih n1 n2 n3 n4 n5 hn h hk
   have he:res= .ok (.name (dI ((l.drop (ay l k)).take (fC (l.drop (ay l k))))) (ay l k)) (tok l (ay l k+fC (l.drop (ay l k)))):=by
    rw [e] at hrd
    exact (Option.some.inj hrd).symm
   rw [he]
   exact hh
  ·rw [if_pos (by rw [e])] at hrd
   cases hov:cO (l.drop (ay l k)) with
   | true=>
    rw [if_pos (by rw [e];exact hov)] at hrd
    obtain rfl:refuse (tok l k)=res:=Option.some.inj hrd
    exact QF ih n1 n2 n3 n4 n5 hn hc hov h hk
   | false=>
    rw [if_neg (by rw [e];show¬cO _=true;rw [hov];decide)] at hrd
    have hs:(tok l k).stop=ay l k+cN (l.drop (ay l k)):=by rw [e]
    rw [hs] at hrd
    cases hg:gG l (ay l k+cN (l.drop (ay l k))) with
    | true=>
     rw [if_pos hg] at hrd
     obtain rfl:=Option.some.inj hrd
     exact QG ih n1 n2 n3 n4 n5 hn hc hov hg h hk
    | false=>
     rw [if_neg (by rw [hg];decide)] at hrd
     have he:res= .ok (.num (cV (l.drop (ay l k))) (ay l k)) (tok l (ay l k+cN (l.drop (ay l k)))):=by
      rw [e] at hrd
      exact (Option.some.inj hrd).symm
     rw [he]
     exact QD ih n1 n2 n3 n4 n5 hn hc hov hg h hk
  ·exact absurd hse hs
  ·rw [if_neg (by rw [e];show¬(1:Int)=2;decide),if_neg (by rw [e];show¬(1:Int)=3;decide),if_neg (by rw [hu];exact fun hh=>hh rfl),if_neg ho] at hrd
   obtain rfl:refuse (tok l k)=res:=Option.some.inj hrd
   exact AO ih n1 n2 n3 n4 n5 hn hc h hk
 ·obtain ⟨t1,t2,t3⟩:=KR hb hse
  have hk4:(tok l k).kind=4∧fC (l.drop (ay l k))=0∧cN (l.drop (ay l k))=0:=by
   rcases lg l k with ⟨_,_,s⟩ | ⟨_,_,_,s⟩ | ⟨_,_,_,s⟩ | ⟨h1,h2,_,e⟩ | ⟨_,_,s,_,_⟩
   ·exact absurd s hse
   ·exact absurd s hse
   ·exact absurd s hse
   ·rw [e];exact ⟨rfl,h1,h2⟩
   ·exact absurd s hse
  rw [if_neg (by rw [hk4.1];decide),if_neg (by rw [hk4.1];decide),t1,t2,t3] at hrd
  have HU: ∀(s op:ByteArray),fB l k=s→s.size=1→jo s=op→ ¬op=ak→ ∃r,rd l n .iR (tok l (ay l k+1))=some r∧res=r.map (.un op (ay l k)):=fun s op hs h1 hu ho=>by
   rw [hs,if_pos (by rw [hu];exact ho),h1,hu] at hrd
   cases hx:rd l n .iR (tok l (ay l k+1)) with
   | none=>rw [hx] at hrd;cases hrd
   | some r=>
    refine ⟨r,rfl,?_⟩
    rw [hx] at hrd
    cases r<;>exact (Option.some.inj hrd).symm
  by_cases s1:fB l k=⟨#[43]⟩
  ·obtain ⟨r,hx,he⟩:=HU _ _ s1 rfl Xp (by decide)
   rw [he]
   exact MQ ih s1 hx h hk
  by_cases s2:fB l k=⟨#[45]⟩
  ·obtain ⟨r,hx,he⟩:=HU _ _ s2 rfl UY (by decide)
   rw [he]
   exact Jj ih s2 hx h hk
  by_cases s3:fB l k=⟨#[33]⟩
  ·obtain ⟨r,hx,he⟩:=HU _ _ s3 rfl Xr (by decide)
   rw [he]
   exact MR ih s3 hx h hk
  by_cases s4:fB l k=⟨#[126]⟩
  ·obtain ⟨r,hx,he⟩:=HU _ _ s4 rfl UW (by decide)
   rw [he]
   exact Ji ih s4 hx h hk
  have hun:jo (fB l k)=ak:=by
   unfold jo
   rw [if_neg (fun hh=>hh.elim s1 s2),if_neg (fun hh=>hh.elim s3 s4)]
  rw [if_neg (by rw [hun];exact fun hh=>hh rfl)] at hrd
  by_cases s5:fB l k=⟨#[40]⟩
  ·have hz:(fB l k).size=1:=by rw [s5];rfl
   rw [if_pos (show fB l k=jy from s5),hz] at hrd
   cases hx:rd l n .expr (tok l (ay l k+1)) with
   | none=>rw [hx] at hrd;cases hrd
   | some r=>
    rw [hx] at hrd
    cases r with
    | bad c q=>
     obtain rfl:Rs.bad c q=res:=Option.some.inj hrd
     exact QA ih s5 hx hN h hk
    | ok e t1=>
     dsimp only at hrd
     by_cases hc:t1.text=jw
     ·rw [if_pos hc] at hrd
      obtain rfl:Rs.ok e (tok l t1.stop)=res:=Option.some.inj hrd
      exact QB ih s5 hx hc h hk
     ·rw [if_neg hc] at hrd
      obtain rfl:refuse t1=res:=Option.some.inj hrd
      exact QC ih s5 hx hc h hk
  ·rw [if_neg (show¬fB l k=jy from s5)] at hrd
   obtain rfl:refuse (tok l k)=res:=Option.some.inj hrd
   exact AO ih s1 s2 s3 s4 s5 hk4.2.1 hk4.2.2 h hk
theorem aaJ (l:List Int) (bv:Value) (rb:Nat): ∀n,n≤100000→Bh l bv rb n:=by
 intro n
 induction n using Nat.strongRecOn with
 | _ n IH=>
  intro hN
  cases n with
  | zero=>exact ⟨fun _ _ _ h=>by simp [rd] at h,fun _ _ _ h=>by simp [rd] at h,fun _ _ _ _ h=>by simp [rd] at h,fun _ _ _ h=>by simp [rd] at h⟩
  | succ n=>
   have ih: ∀m,m≤n→Bh l bv rb m:=fun m hm=>IH m (by omega) (by omega)
   exact ⟨fun k res w h hr hk=>XG (ih n (Nat.le_refl _)) h hr hk,fun k res w h hr hk=>XH (ih n (Nat.le_refl _)) h hr hk,fun least k res w h h1 h2 hr hk=>aaI ih h h1 h2 hr hk,fun k res w h hr hk=>aaH (ih n (Nat.le_refl _)) (by omega) h hr hk⟩
theorem Ja:(Tryz.prog.info? 32).map (·.size)=some 3:=by kernel_rfl
theorem uU {ops:Array Oper} {rest:List Oper} {o:Oper} {a:Act} {w:World} {Q:Exit→Act→World→Prop} (hgd:o.guard=none) (x y:Operand) (ho:o.op= .store 32 x y)
  (hd:o.dst=none) (g:Nat) (c p q:Int) (hx:a.eval x= .pointer (some ⟨g,0,none⟩)) (hy:a.eval y= .agg #[.int .i64 c,.int .i64 p,.int .i64 q])
  (old:Array Value) (hg:w.heap[g]? =some (.cells old 32 (0,0))) (hold:old.size=3)
  (h:wpList Tryz.prog ops Q rest a (w.setRow g #[.int .i64 c,.int .i64 p,.int .i64 q])):wpList Tryz.prog ops Q (o::rest) a w:=
 wpList_store_rowTo hgd _ x y ho hd g _ hx hy _ old hg Ja hold (by simp [Value.oneCell']) h
theorem uH {fn:Func} {p q:Tmp} (h:fn.results= #[.cell p 30,.cell q 32]) (tmps:Array Value) (w:World) (g f:Nat) (cs ds:Array Value)
  (hp:tmps.getD p undef= .pointer (some ⟨g,0,none⟩)) (hq:tmps.getD q undef= .pointer (some ⟨f,0,none⟩)) (hg:w.heap[g]? =some (.cells cs 30 (0,0))) (hf:w.heap[f]? =some (.cells ds 32 (0,0))) (hs:cs.size=6) (ht:ds.size=3):
  (results fn tmps).run Tryz.prog w= .ok (.tuple #[.agg cs,.agg ds]) w:=by
 have hp':tmps[p]?.getD undef= .pointer (some ⟨g,0,none⟩):=by simpa using hp
 have hq':tmps[q]?.getD undef= .pointer (some ⟨f,0,none⟩):=by simpa using hq
 have h1:=run_loadVar_row (P:=Tryz.prog) w g 30 30 cs (0,0) _ hg Tryz.underlying30 rfl (by rw [hs];exact Bd)
 have h2:=run_loadVar_row (P:=Tryz.prog) w f 32 32 ds (0,0) _ hf Tryz.underlying32 rfl (by rw [ht];exact Ja)
 simp [results,h,hp',hq',asAddr,h1,h2]
def PsO (lo:Nat):Rs→Ending→World→Prop
 | .ok t _,e,w'=> ∃(oa:Option Addr) (na:Nat),e= .returned (.tuple #[.agg #[.string t.op,.int .i64 t.val,.string t.nm,.int .i64 t.pos,.int .i64 t.aG,.slice oa na na],.agg #[.int .i64 0,.int .i64 0,.int .i64 0]])∧t.In w' lo (.slice oa na na)
 | .bad c q,e,_=>0<c∧e= .returned (.tuple #[.agg zA,.agg #[.int .i64 c,.int .i64 q,.int .i64 1]])
theorem Ef:Tryz.prog.built 32 []=some #[.int .i64 0,.int .i64 0,.int .i64 0]:=by kernel_rfl
def zF:Obj:= .cells #[.int .i64 0,.int .i64 0,.int .i64 0] 32
theorem F7 (v:Value) (l:List Int) (w:World) (hlong:1024<l.length) (hs:Sl w v l):
  Calls Tryz.prog 10 #[v] w fun e w'=>PsO w.heap.size (.bad 2 0) e w'∧Below w.heap.size w w':=by
 obtain ⟨aa,cap,rfl⟩: ∃a cap,v= .slice a l.length cap:=by
  obtain ⟨hy,hl,⟨rfl,a,cap,hv⟩ | ⟨x,o,cap,hv,hcl,hcm,hr⟩⟩:=hs
  ·exact ⟨a,cap,hv⟩
  ·exact ⟨_,cap,hv⟩
 obtain ⟨W,hW⟩: ∃W,W=(w.alloc dw).alloc zF:=⟨_,rfl⟩
 have HB0:Hid (Below w.heap.size w W):=Lib.hid (by rw [hW];exact ((Below.refl _ _).alloc (Nat.le_refl _) _).alloc (by simp) _)
 have HG:Hid (W.heap[w.heap.size]? =some dw):=Lib.hid (by rw [hW];exact aN (heap_alloc_last w _) _)
 have HF:Hid (W.heap[w.heap.size+1]? =some zF):=Lib.hid (by rw [hW];have:=heap_alloc_last (w.alloc dw) zF;simpa using this)
 have dR:=Lib.hid hW
 have hli:(1024:Int)<l.length:=by omega
 have ZY:=Lib.hid D9
 clear hs hW
 unfold dw zF at dR
 go_enter Tryz.func10,Tryz.ntmps10
 go_upto_region 1 with fail
 rw [←dR.out]
 go_wp2_with (first | (refine wpList_buildTo rfl 30 _ rfl _ rfl _ ZY.out ?_) | fail)
 refine (I8 2 0 1 _).mono ?_
 rintro x w2 ⟨rfl,hb2⟩
 have hs1:=lt_of_heap HF.out
 have HB2:=Lib.hid (HB0.out.trans (hb2.mono HB0.out.size))
 have HG2:=Lib.hid ((hb2.block _ (by omega)).trans HG.out)
 have HF2:=Lib.hid ((hb2.block _ (by omega)).trans HF.out)
 have HF3:Hid (∀c,(w2.setRow w.heap.size c).heap[w.heap.size+1]? =some zF):=Lib.hid fun c=>by
  show (w2.heap.modify w.heap.size _)[w.heap.size+1]? =_
  rw [Array.getElem?_modify,if_neg (by omega)]
  exact HF2.out
 have Rf:Hid (∀c d,((w2.setRow w.heap.size c).setRow (w.heap.size+1) d).heap[w.heap.size]? =some (.cells c 30 (0,0))):=Lib.hid fun c d=>by
  show ((w2.setRow w.heap.size c).heap.modify (w.heap.size+1) _)[w.heap.size]? =_
  rw [Array.getElem?_modify,if_neg (by omega)]
  exact setRow_self HG2.out c
 unfold dw at HG2
 unfold zF at HF3
 clear hb2
 go_wp2_with (first | (refine aC rfl _ _ rfl rfl w.heap.size ⟨#[]⟩ 0 ⟨#[]⟩ 0 0 (.slice none 0 0) rfl rfl rfl _ HG2.out rfl ?_) | (refine uU rfl _ _ rfl rfl (w.heap.size+1) 2 0 1 rfl rfl _ (HF3.out _) rfl ?_) | fail)
 exact bodyPost_ret (uH rfl _ _ w.heap.size (w.heap.size+1) _ _ rfl rfl (Rf.out _ _) (setRow_self (HF3.out _) _) rfl rfl) rfl ⟨⟨by decide,rfl⟩,below_setRow (below_setRow HB2.out (Nat.le_refl _) _) (by omega) _⟩
def qm (w:World) (f:Nat) (a b c:Value):World:=((w.setCell ⟨f,0,none⟩ a).setCell ⟨f,1,none⟩ b).setCell ⟨f,2,none⟩ c
theorem kW (w:World) (f:Nat) (a b c:Value) (k:Nat) (hk:k≠f):(qm w f a b c).heap[k]? =w.heap[k]? :=by
 unfold qm
 rw [Below.heap_setCell _ _ _ _ hk,Below.heap_setCell _ _ _ _ hk,Below.heap_setCell _ _ _ _ hk]
theorem yu {w:World} {f:Nat} {x0 x1 x2:Value} {t:TypeId} (h:w.heap[f]? =some (.cells #[x0,x1,x2] t (0,0))) (a b c:Value):(qm w f a b c).heap[f]? =some (.cells #[a,b,c] t (0,0)):=by
 have:=aU (aU (aU h 0 a) 1 b) 2 c
 simpa [qm] using this
theorem pU {B:Nat} {w w':World} (h:Below B w w') {f:Nat} (hb:B≤f) (a b c:Value):Below B w (qm w' f a b c):=
 ((h.setCell (p:=⟨f,0,none⟩) hb _).setCell (p:=⟨f,1,none⟩) hb _).setCell (p:=⟨f,2,none⟩) hb _
theorem kY {w:World} {b:Nat} {x0 x1 x2:Value} {t:TypeId} (h:w.heap[b]? =some (.cells #[x0,x1,x2] t (0,0))):
  (w.cell? ⟨b,0,none⟩=some x0∧w.cell? ⟨b,1,none⟩=some x1∧w.cell? ⟨b,2,none⟩=some x2)∧w.frozen? ⟨b,0,none⟩=false∧w.frozen? ⟨b,1,none⟩=false∧w.frozen? ⟨b,2,none⟩=false:=by
 refine ⟨⟨?_,?_,?_⟩,?_,?_,?_⟩<;>simp [World.cell?,World.frozen?,h]
theorem dG (w:World):w.drew.heap=w.heap:=rfl
theorem EZ (v:Value) (l:List Int) (n:Nat) (res:Rs) (w:World) (hle:l.length≤1024) (hN:n≤100000) (h:mF l n=some res) (hs:Sl w v l):
  Calls Tryz.prog 10 #[v] w fun e w'=>PsO w.heap.size res e w'∧Below w.heap.size w w':=by
 have hap:=Uf hs
 obtain ⟨aa,cap,rfl⟩: ∃a cap,v= .slice a l.length cap:=by
  obtain ⟨hy,hl,⟨rfl,a,cap,hv⟩ | ⟨x,o,cap,hv,hcl,hcm,hr⟩⟩:=hs
  ·exact ⟨a,cap,hv⟩
  ·exact ⟨_,cap,hv⟩
 obtain ⟨W,hW⟩: ∃W,W=(w.alloc dw).alloc zF:=⟨_,rfl⟩
 obtain ⟨V,hV⟩: ∃V,V=W.alloc (.cells #[.slice aa l.length cap,.int .i64 0,.int .i64 0,.int .i64 0,.int .i64 0] 81):=⟨_,rfl⟩
 obtain ⟨rb,hrb⟩: ∃rb,w.heap.size+2=rb:=⟨_,rfl⟩
 have hWs:W.heap.size=rb:=by rw [hW, ←hrb];simp
 have hVs:V.heap.size=rb+1:=by rw [hV, ←hWs];simp
 have HB0:Hid (Below w.heap.size w W):=Lib.hid (by rw [hW];exact ((Below.refl _ _).alloc (Nat.le_refl _) _).alloc (by simp) _)
 have RJ:Hid (Below w.heap.size w V):=Lib.hid (by rw [hV];exact HB0.out.alloc (by omega) _)
 have HG:Hid (V.heap[w.heap.size]? =some dw):=Lib.hid (by rw [hV,hW];exact aN (aN (heap_alloc_last w _) _) _)
 have HF:Hid (V.heap[w.heap.size+1]? =some zF):=Lib.hid (by rw [hV];exact aN (by rw [hW];have:=heap_alloc_last (w.alloc dw) zF;simpa using this) _)
 have HR:Hid (gU l (.slice aa l.length cap) rb 0 0 0 V):=Lib.hid ⟨by rw [hV, ←hWs];exact heap_alloc_last W _,hs.below RJ.out,hle,by omega,fun x o n' cap' e=>by
  rcases hap with ⟨_,_,_,hl⟩ | hx
  ·exact Or.inl hl
  ·exact Or.inr (by have:=hx x o n' cap' e;omega)⟩
 have dR:=Lib.hid hW
 have HVE:=Lib.hid hV
 unfold mF at h
 obtain ⟨r1,hr1⟩: ∃r1,rd l n .expr (tok l 0)=some r1:=by
  cases h':rd l n .expr (tok l 0) with
  | none=>rw [h'] at h;cases h
  | some r=>exact ⟨r,rfl⟩
 have HEX:=Lib.hid ((aaJ l (.slice aa l.length cap) rb n hN).expr 0 r1 V hr1 HR.out (Nat.zero_le _))
 rw [hr1] at h
 have HH:=Lib.hid h
 have hli: ¬(1024:Int)<l.length:=by omega
 have ZY:=Lib.hid D9
 have hVr:rb<V.heap.size:=by omega
 have hwr:w.heap.size+2=rb:=hrb
 have HWR:=Lib.hid hwr
 clear hs hW hV h hr1 hap hwr
 unfold dw zF at dR
 go_enter Tryz.func10,Tryz.ntmps10
 go_upto_region 1 with fail
 rw [←dR.out]
 clear hrb
 go_wp2_with fail
 rw [←HVE.out]
 refine HEX.out.mono ?_
 rintro x w4 ⟨⟨y,oa,na,rfl,hq⟩,hch⟩
 have hwr:=HWR.out
 have HQ:=Lib.hid hq
 have HC5:=Lib.hid (hch.alloc (.cells #[.string y.op,.int .i64 y.val,.string y.nm,.int .i64 y.pos,.int .i64 y.aG,.slice oa na na] 30) (by have:=hch.1.size;omega))
 have Z9:Hid (V.heap.size≤w4.heap.size):=Lib.hid hch.1.size
 have Aq:=Lib.hid hch
 clear hq hch HEX
 cases r1 with
 | bad c q=>
  obtain rfl:Rs.bad c q=res:=Option.some.inj HH.out
  obtain ⟨hc0,kk,hr4,hkl⟩:=HQ.out
  obtain ⟨c1,rfl⟩: ∃c1,c=c1+1:=⟨c - 1,by omega⟩
  have lM:=Lib.hid (qJ (hr4.next ((Below.refl _ _).alloc (Nat.le_refl _) (.cells #[.string y.op,.int .i64 y.val,.string y.nm,.int .i64 y.pos,.int .i64 y.aG,.slice oa na na] 30))))
  clear hr4 HQ
  go_wp2_with fail
  refine lM.out.mono ?_
  rintro x w6 ⟨rfl,Jz,hc6⟩
  have Aw:=Lib.hid Jz
  have Xa:=Lib.hid (HC5.out.trans hc6)
  have hcz:((((c1+1:Nat):Int))==0)=false:=by simp;omega
  clear Jz hc6 lM
  obtain ⟨d0,d1,d2,d3,d4⟩:=Aw.out.cells
  have hcn:((((c1+1:Nat):Int)) !=0)=true:=by simp;omega
  have hlg:WV (c1+1)=1:=if_neg (by omega)
  rw [hlg] at d4
  have HGX:Hid (w6.heap[w.heap.size]? =some dw):=Lib.hid ((Xa.out.2 _ (by omega) (by omega)).trans HG.out)
  have Qr:Hid (w6.heap[w.heap.size+1]? =some zF):=Lib.hid ((Xa.out.2 _ (by omega) (by omega)).trans HF.out)
  have Xb:Hid (Below w.heap.size w w6):=Lib.hid (RJ.out.trans (Xa.out.1.mono (by omega)))
  go_wp2_with fail
  have Fa:Hid (∀X:World,X.heap[rb]? =w6.heap[rb]?→X.cell? ⟨rb,2,none⟩=some (.int .i64 ((c1+1:Nat):Int))∧X.cell? ⟨rb,3,none⟩=some (.int .i64 (q:Nat))∧X.cell? ⟨rb,4,none⟩=some (.int .i64 1)):=Lib.hid fun X hX=>by
   rw [World.cell?_of_block (w:=w6) (a:=⟨rb,2,none⟩) hX,World.cell?_of_block (w:=w6) (a:=⟨rb,3,none⟩) hX,World.cell?_of_block (w:=w6) (a:=⟨rb,4,none⟩) hX]
   exact ⟨d2,d3,d4⟩
  have fD:=Lib.hid (Fa.out w6 rfl)
  have dZ:=Lib.hid (Fa.out w6.drew (by rw [dG]))
  have HS2:=Lib.hid (fun v0 v1 v2 v3 v4 v5=>Fa.out (jJ w6 w.heap.size v0 v1 v2 v3 v4 v5).drew (by rw [dG];exact bg _ _ _ _ _ _ _ _ _ (by omega)))
  have yE:=Lib.hid (fun v0 v1 v2 v3 v4 v5 u0 u1 u2=>Fa.out (qm (jJ w6 w.heap.size v0 v1 v2 v3 v4 v5) (w.heap.size+1) u0 u1 u2).drew (by rw [dG];exact (kW _ _ _ _ _ _ (by omega)).trans (bg _ _ _ _ _ _ _ _ _ (by omega))))
  unfold jJ at HS2
  unfold qm jJ at yE
  obtain ⟨⟨z0,z1,z2,z3,z4,z5⟩,y0,y1,y2,y3,y4,y5⟩:=aA HGX.out
  obtain ⟨⟨u0,u1,u2⟩,w0,w1,w2⟩:=kY Qr.out
  have hne1:w.heap.size+1≠w.heap.size:=by omega
  clear d0 d1 d2 d3 d4
  go_region_held3 (fun X=>X.cell? ⟨rb,2,none⟩=some (.int .i64 ((c1+1:Nat):Int))∧X.cell? ⟨rb,3,none⟩=some (.int .i64 (q:Nat))∧X.cell? ⟨rb,4,none⟩=some (.int .i64 1))
   (first | with_reducible exact fD.out | with_reducible exact dZ.out | with_reducible exact HS2.out _ _ _ _ _ _ | with_reducible exact yE.out _ _ _ _ _ _ _ _ _)
   (fail)
  obtain ⟨U,hU⟩: ∃U:World,U=(qm (jJ w6 w.heap.size (.string ⟨#[]⟩) (.int .i64 0) (.string ⟨#[]⟩) (.int .i64 0) (.int .i64 0) (.slice none 0 0)) (w.heap.size+1) (.int .i64 ((c1:Int)+1)) (.int .i64 (q:Nat)) (.int .i64 1)).drew:=⟨_,rfl⟩
  have JA:=hU
  unfold qm jJ at JA
  rw [←JA]
  have HUG:Hid (U.heap[w.heap.size]? =some (.cells zA 30 (0,0))):=Lib.hid (by rw [hU,dG];exact (kW _ _ _ _ _ _ (by omega)).trans (pF HGX.out _ _ _ _ _ _))
  have YJ:Hid (U.heap[w.heap.size+1]? =some (.cells #[.int .i64 ((c1:Int)+1),.int .i64 (q:Nat),.int .i64 1] 32 (0,0))):=Lib.hid (by rw [hU,dG];exact yu ((bg _ _ _ _ _ _ _ _ _ (by omega)).trans Qr.out) _ _ _)
  have YK:Hid (Below w.heap.size w U):=Lib.hid (by rw [hU];exact (pU (qM Xb.out (Nat.le_refl _) _ _ _ _ _ _) (by omega) _ _ _).drew)
  clear hU JA z0 z1 z2 z3 z4 z5 y0 y1 y2 y3 y4 y5 u0 u1 u2 w0 w1 w2 HS2 yE
  go_wp2_with fail
  exact bodyPost_ret (uH rfl _ _ w.heap.size (w.heap.size+1) _ _ rfl rfl HUG.out YJ.out rfl rfl) rfl ⟨⟨by omega,rfl⟩,YK.out⟩
 | ok t t1=>
  obtain ⟨rfl,hi,kx,hr4,hkx,rfl⟩:=HQ.out
  have HI:=Lib.hid hi
  have lM:=Lib.hid (qJ (hr4.next ((Below.refl _ _).alloc (Nat.le_refl _) (.cells #[.string y.op,.int .i64 y.val,.string y.nm,.int .i64 y.pos,.int .i64 y.aG,.slice oa na na] 30))))
  have hpk:=bJ l kx hkx
  have Qq:=Lib.hid (kS l kx)
  have hk0:(tok l kx).kind=0↔l.length≤ay l kx:=by
   constructor
   ·intro e
    rcases lg l kx with ⟨hd,_,_⟩ | ⟨_,_,e',_⟩ | ⟨_,_,e',_⟩ | ⟨_,_,_,e'⟩ | ⟨_,_,_,_,e'⟩
    ·have:=congrArg List.length hd
     rw [List.length_drop] at this
     simp at this
     omega
    ·rw [e'] at e;exact absurd e (by show¬(3:Int)=0;decide)
    ·rw [e'] at e;exact absurd e (by show¬(2:Int)=0;decide)
    ·rw [e'] at e;exact absurd e (by show¬(4:Int)=0;decide)
    ·rw [e'] at e;exact absurd e (by show¬(1:Int)=0;decide)
   ·intro e
    have hd:l.drop (ay l kx)=[]:=List.drop_eq_nil_of_le e
    rcases lg l kx with ⟨_,e',_⟩ | ⟨h1,_,_,_⟩ | ⟨_,h1,_,_⟩ | ⟨_,_,h1,_⟩ | ⟨_,_,_,h1,_⟩
    ·rw [e']
    ·rw [hd] at h1;exact absurd h1 (by decide)
    ·rw [hd,vF fun x m e=>by cases e] at h1;exact absurd h1 (by decide)
    ·unfold fB at h1;rw [hd,I9] at h1;exact absurd rfl h1
    ·exact absurd hd h1
  have ql:=Lib.hid hk0
  clear hr4 hi HQ hk0
  go_wp2_with fail
  refine lM.out.mono ?_
  rintro x w6 ⟨rfl,Jz,hc6⟩
  have Aw:=Lib.hid Jz
  have Xa:=Lib.hid (HC5.out.trans hc6)
  have HC56:=Lib.hid hc6
  have Bj:=Qq.out
  obtain ⟨p,hp⟩: ∃p,ay l kx=p:=⟨_,rfl⟩
  rw [hp] at Aw ql hpk Bj
  have AY:=Lib.hid Bj
  clear Jz hc6 lM Qq Bj hp
  obtain ⟨d0,d1,d2,d3,d4⟩:=Aw.out.cells
  have h4s:=Z9.out
  by_cases hlt:p<l.length
  ·have uF:(p:Int)<l.length:=by omega
   have hdec:decide ((p:Int)<l.length)=true:=by simpa using uF
   have hres:res=refuse (tok l kx):=by
    have hh:=HH.out
    rw [if_neg (fun e=>by have:=ql.out.1 e;omega)] at hh
    exact (Option.some.inj hh).symm
   have hcd:0<(tok l kx).code:=by unfold Tk.code;split<;>omega
   have Dq:=Lib.hid (DZ Aw.out hpk)
   rw [AY.out] at Dq
   have hz0:zT.v (.slice none 0 0)= .agg #[.string ⟨#[]⟩,.int .i64 0,.string ⟨#[]⟩,.int .i64 0,.int .i64 0,.slice none 0 0]:=rfl
   rw [hz0] at Dq
   unfold refuse at hres
   generalize (tok l kx).code=c at*
   generalize (tok l kx).start=q at*
   subst hres
   obtain ⟨c1,rfl⟩: ∃c1,c=c1+1:=⟨c - 1,by omega⟩
   go_wp2_with fail
   refine Dq.out.mono ?_
   rintro x w7 ⟨rfl,N9,_,Ob⟩
   have JE:=Lib.hid N9
   have HC7:=Lib.hid (Xa.out.trans Ob)
   clear N9 Ob Dq d0 d1 d2 d3 d4
   obtain ⟨d0,d1,d2,d3,d4⟩:=JE.out.cells
   have hcn:((((c1+1:Nat):Int)) !=0)=true:=by simp;omega
   have hlg:WV (c1+1)=1:=if_neg (by omega)
   rw [hlg] at d4
   have HGX:Hid (w7.heap[w.heap.size]? =some dw):=Lib.hid ((HC7.out.2 _ (by omega) (by omega)).trans HG.out)
   have Qr:Hid (w7.heap[w.heap.size+1]? =some zF):=Lib.hid ((HC7.out.2 _ (by omega) (by omega)).trans HF.out)
   have Xb:Hid (Below w.heap.size w w7):=Lib.hid (RJ.out.trans (HC7.out.1.mono (by omega)))
   go_wp2_with fail
   have Fa:Hid (∀X:World,X.heap[rb]? =w7.heap[rb]?→X.cell? ⟨rb,2,none⟩=some (.int .i64 ((c1+1:Nat):Int))∧X.cell? ⟨rb,3,none⟩=some (.int .i64 (q:Nat))∧X.cell? ⟨rb,4,none⟩=some (.int .i64 1)):=Lib.hid fun X hX=>by
    rw [World.cell?_of_block (w:=w7) (a:=⟨rb,2,none⟩) hX,World.cell?_of_block (w:=w7) (a:=⟨rb,3,none⟩) hX,World.cell?_of_block (w:=w7) (a:=⟨rb,4,none⟩) hX]
    exact ⟨d2,d3,d4⟩
   have fD:=Lib.hid (Fa.out w7 rfl)
   have dZ:=Lib.hid (Fa.out w7.drew (by rw [dG]))
   have HS2:=Lib.hid (fun v0 v1 v2 v3 v4 v5=>Fa.out (jJ w7 w.heap.size v0 v1 v2 v3 v4 v5).drew (by rw [dG];exact bg _ _ _ _ _ _ _ _ _ (by omega)))
   have yE:=Lib.hid (fun v0 v1 v2 v3 v4 v5 u0 u1 u2=>Fa.out (qm (jJ w7 w.heap.size v0 v1 v2 v3 v4 v5) (w.heap.size+1) u0 u1 u2).drew (by rw [dG];exact (kW _ _ _ _ _ _ (by omega)).trans (bg _ _ _ _ _ _ _ _ _ (by omega))))
   unfold jJ at HS2
   unfold qm jJ at yE
   obtain ⟨⟨z0,z1,z2,z3,z4,z5⟩,y0,y1,y2,y3,y4,y5⟩:=aA HGX.out
   obtain ⟨⟨u0,u1,u2⟩,w0,w1,w2⟩:=kY Qr.out
   have hne1:w.heap.size+1≠w.heap.size:=by omega
   clear d0 d1 d2 d3 d4
   go_region_held3 (fun X=>X.cell? ⟨rb,2,none⟩=some (.int .i64 ((c1+1:Nat):Int))∧X.cell? ⟨rb,3,none⟩=some (.int .i64 (q:Nat))∧X.cell? ⟨rb,4,none⟩=some (.int .i64 1))
    (first | with_reducible exact fD.out | with_reducible exact dZ.out | with_reducible exact HS2.out _ _ _ _ _ _ | with_reducible exact yE.out _ _ _ _ _ _ _ _ _)
    (fail)
   obtain ⟨U,hU⟩: ∃U:World,U=(qm (jJ w7 w.heap.size (.string ⟨#[]⟩) (.int .i64 0) (.string ⟨#[]⟩) (.int .i64 0) (.int .i64 0) (.slice none 0 0)) (w.heap.size+1) (.int .i64 ((c1:Int)+1)) (.int .i64 (q:Nat)) (.int .i64 1)).drew:=⟨_,rfl⟩
   have JA:=hU
   unfold qm jJ at JA
   rw [←JA]
   have HUG:Hid (U.heap[w.heap.size]? =some (.cells zA 30 (0,0))):=Lib.hid (by rw [hU,dG];exact (kW _ _ _ _ _ _ (by omega)).trans (pF HGX.out _ _ _ _ _ _))
   have YJ:Hid (U.heap[w.heap.size+1]? =some (.cells #[.int .i64 ((c1:Int)+1),.int .i64 (q:Nat),.int .i64 1] 32 (0,0))):=Lib.hid (by rw [hU,dG];exact yu ((bg _ _ _ _ _ _ _ _ _ (by omega)).trans Qr.out) _ _ _)
   have YK:Hid (Below w.heap.size w U):=Lib.hid (by rw [hU];exact (pU (qM Xb.out (Nat.le_refl _) _ _ _ _ _ _) (by omega) _ _ _).drew)
   clear hU JA z0 z1 z2 z3 z4 z5 y0 y1 y2 y3 y4 y5 u0 u1 u2 w0 w1 w2 HS2 yE
   go_wp2_with fail
   exact bodyPost_ret (uH rfl _ _ w.heap.size (w.heap.size+1) _ _ rfl rfl HUG.out YJ.out rfl rfl) rfl ⟨⟨by omega,rfl⟩,YK.out⟩
  ·have uF: ¬(p:Int)<l.length:=by omega
   have hdec:decide ((p:Int)<l.length)=false:=by simpa using uF
   have hres:res= .ok y (tok l kx):=by
    have hh:=HH.out
    rw [if_pos (ql.out.2 (by omega))] at hh
    exact (Option.some.inj hh).symm
   subst hres
   have h6Y:w6.heap[w4.heap.size]? =some (.cells #[.string y.op,.int .i64 y.val,.string y.nm,.int .i64 y.pos,.int .i64 y.aG,.slice oa na na] 30):=(HC56.out.2 _ (by simp) (by omega)).trans (heap_alloc_last w4 _)
   obtain ⟨⟨k0,k1,k2,k3,k4,k5⟩,_⟩:=aA h6Y
   have HG6:=Lib.hid ((Xa.out.2 _ (by omega) (by omega)).trans HG.out)
   have HF6:=Lib.hid ((Xa.out.2 _ (by omega) (by omega)).trans HF.out)
   have W9:Hid (∀c,(w6.setRow w.heap.size c).heap[w.heap.size+1]? =some zF):=Lib.hid fun c=>by
    show (w6.heap.modify w.heap.size _)[w.heap.size+1]? =_
    rw [Array.getElem?_modify,if_neg (by omega)]
    exact HF6.out
   have HG8:Hid (∀c d,((w6.setRow w.heap.size c).setRow (w.heap.size+1) d).heap[w.heap.size]? =some (.cells c 30 (0,0))):=Lib.hid fun c d=>by
    show ((w6.setRow w.heap.size c).heap.modify (w.heap.size+1) _)[w.heap.size]? =_
    rw [Array.getElem?_modify,if_neg (by omega)]
    exact setRow_self HG6.out c
   have HFB:=Lib.hid Ef
   have HB6:=Lib.hid (RJ.out.trans (Xa.out.1.mono (by omega)))
   have HI6:Hid (∀c d,y.In ((w6.setRow w.heap.size c).setRow (w.heap.size+1) d) w.heap.size (.slice oa na na)):=Lib.hid fun c d=>(((HI.out.kept (fun k' _ hs=>aB _ (.cells #[.string y.op,.int .i64 y.val,.string y.nm,.int .i64 y.pos,.int .i64 y.aG,.slice oa na na] 30) k' hs) _ _).ch (by omega) HC56.out |>.setRow (g:=w.heap.size) (by omega) c).setRow (g:=w.heap.size+1) (by omega) d).mono (by omega) _ _
   unfold dw at HG6
   unfold zF at W9
   clear h6Y
   go_wp2_with (first | (refine wpList_buildTo rfl 32 _ rfl _ rfl _ HFB.out ?_) | (refine aC rfl _ _ rfl rfl w.heap.size y.op y.val y.nm y.pos y.aG (.slice oa na na) rfl rfl rfl _ HG6.out rfl ?_) | (refine uU rfl _ _ rfl rfl (w.heap.size+1) 0 0 0 rfl rfl _ (W9.out _) rfl ?_) | fail)
   exact bodyPost_ret (uH rfl _ _ w.heap.size (w.heap.size+1) _ _ rfl rfl (HG8.out _ _) (setRow_self (W9.out _) _) rfl rfl) rfl ⟨⟨oa,na,rfl,HI6.out _ _⟩,below_setRow (below_setRow HB6.out (Nat.le_refl _) _) (by omega) _⟩
theorem Qh (v:Value) (l:List Int) (n:Nat) (res:Rs) (w:World) (hN:n≤100000) (h:cZ l n=some res) (hs:Sl w v l):
  Calls Tryz.prog 10 #[v] w fun e w'=>PsO w.heap.size res e w'∧Below w.heap.size w w':=by
 unfold cZ at h
 by_cases hb:1024<l.length
 ·rw [if_pos hb] at h
  obtain rfl:=Option.some.inj h
  exact F7 v l w hb hs
 ·rw [if_neg hb] at h
  exact EZ v l n res w (by omega) hN h hs
theorem QS (a b c:Int) (w:World):
  (Op.equalIn 10000 32 (.agg #[.int .i64 a,.int .i64 b,.int .i64 c]) (.agg #[.int .i64 a,.int .i64 b,.int .i64 c])).run Tryz.prog w= .ok true w:=by
 have hf:(Tryz.prog.fieldsOf 32).toList.map (fun f=>(f.name,f.type,f.offset))=[("Code",3,0),("Pos",3,1),("Lang",3,2)]:=by kernel_rfl
 have hu:Tryz.prog.underlying 32=some (.struct (Tryz.prog.fieldsOf 32)):=by kernel_rfl
 have hs:Tryz.prog.stoodInHeld 32=false:=by kernel_rfl
 obtain ⟨f0,r0,e0,hf0,hr0⟩:=List.map_eq_cons_iff.1 hf
 obtain ⟨f1,r1,e1,hf1,hr1⟩:=List.map_eq_cons_iff.1 hr0
 obtain ⟨f2,r2,e2,hf2,hr2⟩:=List.map_eq_cons_iff.1 hr1
 have er:r2=[]:=List.map_eq_nil_iff.1 hr2
 subst er
 subst e2
 subst e1
 simp only [Prod.mk.injEq] at hf0 hf1 hf2
 have hp0: ∀(a b c:Value) (w:World),(part 3 #[a,b,c] 0).run Tryz.prog w= .ok a w:=fun a b c w=>by kernel_rfl
 have hp1: ∀(a b c:Value) (w:World),(part 3 #[a,b,c] 1).run Tryz.prog w= .ok b w:=fun a b c w=>by kernel_rfl
 have hp2: ∀(a b c:Value) (w:World),(part 3 #[a,b,c] 2).run Tryz.prog w= .ok c w:=fun a b c w=>by kernel_rfl
 have hi: ∀(d:Nat) (a b:Int) (w:World),(Op.equalIn (d+1) 3 (.int .i64 a) (.int .i64 b)).run Tryz.prog w= .ok (a==b) w:=fun d a b w=>run_equalIn_int w d _ .i64 .i64 a b Tryz.underlying3
 rw [show (10000:Nat)=9999+1 from rfl,run_equalIn_agg w 9999 _ _ _ hu hs,e0]
 simp only [Op.eqFields,hf0.1,hf0.2.1,hf0.2.2,hf1.1,hf1.2.1,hf1.2.2,hf2.1,hf2.2.1,hf2.2.2]
 have hi9:=fun (a b:Int) (w:World)=>hi 9998 a b w
 simp [Sem.run_bind,Sem.run_ite,hp0,hp1,hp2,hi9]
end Go.Proofs.YtacfglopionkfaaGreatDoor
