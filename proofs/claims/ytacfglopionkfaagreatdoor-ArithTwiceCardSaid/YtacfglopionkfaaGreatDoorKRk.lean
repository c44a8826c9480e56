import Derived.Test.YtacfglopionkfaaGreatDoorKSp
import Derived.Test.YtacfglopionkfaaGreatDoorKCo
import Derived.Deep.LoopGhost
import Derived.Maps.RangeWalk
import Derived.Test.YtacfglopionkfaaGreatDoorKTx
namespace Go.Proofs.YtacfglopionkfaaGreatDoor
set_option maxHeartbeats 8000000
set_option maxRecDepth 100000
open Go.RowKit Go.WideMaps Go.Maps
structure yG (i:Ins):Prop where
 nm:i.nm.size≤maxLen
 n:i.k=0→I64 i.n
structure rQ (m:Ms):Prop where
 st: ∀x∈m.st,I64 x
 h:m.st.length≤1024
 se:m.se.length≤m.a
theorem rQ.push {a:Nat} {st:List Int} {se:Asc} {x:Int} (h:rQ ⟨a,st,se⟩) (hx:I64 x) (hl:st.length<1024):rQ ⟨a,x::st,se⟩:=
 ⟨fun y hy=>by rcases List.mem_cons.1 hy with rfl | hy;exact hx;exact h.st y hy,by simp only [List.length_cons];omega,h.se⟩
theorem rQ.pop {a:Nat} {st:List Int} {se:Asc} {x:Int} (h:rQ ⟨a,x::st,se⟩):rQ ⟨a,st,se⟩∧st.length<1024∧I64 x:=
 ⟨⟨fun y hy=>h.st y (List.mem_cons_of_mem _ hy),by have:=h.h;simp only [List.length_cons] at this;show st.length≤1024;omega,h.se⟩,by have:=h.h;simp only [List.length_cons] at this;omega,h.st x List.mem_cons_self⟩
theorem rQ.to {a b:Nat} {st:List Int} {se:Asc} (h:rQ ⟨a,st,se⟩) (hab:a≤b):rQ ⟨b,st,se⟩:=⟨h.st,h.h,Nat.le_trans h.se hab⟩
def Rq (B mb mp:Nat) (v:Option Addr) (w0:World) (sn:Nat→Addr) (s a:Nat):So→Ending→World→Prop
 | .go m',e,w'=>e= .returned .nilIface∧bf B mb mp v w0 m' s w'∧rQ m'∧a≤m'.a
 | .bad c p,e,w'=> ∃pv,e= .returned (.iface 89 pv)∧ErrAt w' sn c p (.iface 89 pv)∧Below B w0 w'∧w'.cell? ⟨mb,1028,none⟩=some (.int .i64 s)
theorem KO (B mb mp:Nat) (v:Option Addr) (w0 X:World) (val:ByteArray→ByteArray) (NV:ByteArray→Int × Nat) (sn:Nat→Addr) (hE:zl B v w0 val NV) (hsn: ∀Y,Below B w0 Y→Er Y sn)
  (i:Ins) (m:Ms) (out:So) (s:Nat) (hs:Bf NV i m=some out) (hi:yG i) (hm:rQ m) (hse:m.se.length+1≤m.a) (ha:m.a≤1000000) (h:bf B mb mp v w0 m s X):
  Calls Tryz.prog 98 #[.pointer (some ⟨mb,0,none⟩),.agg i.cells.toArray] X fun e w'=>Rq B mb mp v w0 sn s m.a out e w':=by
 obtain ⟨k,n,nm,op,p,tg⟩:=i
 obtain ⟨a,st,se⟩:=m
 have hnm:nm.size≤maxLen:=hi.nm
 simp only [] at hse ha
 match k,hs,hi with
 | 0,hs,hi=>
  have hs:kN n ⟨a,st,se⟩=some out:=hs
  unfold kN at hs
  by_cases hl:st.length<1024
  ·rw [if_pos hl] at hs
   obtain rfl:=Option.some.inj hs
   refine (GN B mb mp v w0 X n nm op p tg st a se s h hl).mono ?_
   rintro e w' ⟨rfl,hr⟩
   exact ⟨rfl,hr,hm.push (hi.n rfl) hl,Nat.le_refl _⟩
  ·rw [if_neg hl] at hs;cases hs
 | 1,hs,hi=>
  have hs:(match jZ NV nm p se with | .ok v _=>kN v ⟨a,st,se⟩ | .bad c p=>some (.bad c p) | .no=>none)=some out:=hs
  have hl: ∀x,jZ NV nm p se= .ok x se→st.length<1024:=fun x hx=>by
   rw [hx] at hs
   have hs:kN x ⟨a,st,se⟩=some out:=hs
   unfold kN at hs
   by_cases hl:st.length<1024
   ·exact hl
   ·rw [if_neg hl] at hs;cases hs
  refine (GU B mb mp v w0 X n nm op p tg st val NV sn a se s h hE hl hnm hsn).mono ?_
  rintro e w' (⟨x,hx,hix,rfl,hr⟩ | ⟨c,pv,hx,rfl,her,hb,hsc⟩)
  ·have hlx:=hl x hx
   rw [hx] at hs
   have hs:kN x ⟨a,st,se⟩=some out:=hs
   unfold kN at hs
   rw [if_pos hlx] at hs
   obtain rfl:=Option.some.inj hs
   exact ⟨rfl,hr,hm.push hix hlx,Nat.le_refl _⟩
  ·rw [hx] at hs
   obtain rfl:=Option.some.inj hs
   exact ⟨pv,rfl,her,hb,hsc⟩
 | 2,hs,hi=>
  cases st with
  | nil=>cases hs
  | cons x st=>
   obtain rfl:=Option.some.inj (show some (So.go ⟨a,x::st,(nm,x)::se⟩)=some out from hs)
   obtain ⟨hm2,hl,hx⟩:=hm.pop
   refine (Ej B mb mp v w0 X n nm op p tg x st a se s h hl hx hnm (by omega)).mono ?_
   rintro e w' ⟨rfl,hr⟩
   exact ⟨rfl,hr,⟨hm.st,hm.h,hse⟩,Nat.le_refl _⟩
 | 3,hs,hi=>
  cases st with
  | nil=>cases hs
  | cons x st=>
   have hs:Gn (ig op x se) ⟨a,x::st,se⟩ st=some out:=hs
   obtain ⟨hm2,hl,hx⟩:=hm.pop
   unfold ig at hs
   cases hy:kK op 0 x with
   | none=>rw [hy] at hs;cases hs
   | some y=>
    rw [hy] at hs
    obtain rfl:=Option.some.inj (show some (So.go ⟨a,y::st,se⟩)=some out from hs)
    refine (KN B mb mp v w0 X n nm op p tg x y st a se s h hl hy).mono ?_
    rintro e w' ⟨rfl,hr⟩
    exact ⟨rfl,hr,hm2.push (rW hy (by unfold I64;omega)) hl,Nat.le_refl _⟩
 | 4, hs,hi=>
  match st,hs,hm,h with
  | [],hs,_,_=>cases hs
  | [_],hs,_,_=>cases hs
  | r ::x::st,hs,hm,h=>
   have hs:Gn (gq op p x r se) ⟨a,r::x::st,se⟩ st=some out:=hs
   obtain ⟨hm2,hl,hr⟩:=hm.pop
   obtain ⟨YA,hl3,hx⟩:=hm2.pop
   unfold gq at hs
   by_cases c:r=0∧(op=Jv∨op=Ju)
   ·rw [if_pos c] at hs
    obtain rfl:=Option.some.inj (show some (So.bad 12 p)=some out from hs)
    obtain ⟨rfl,c⟩:=c
    rcases c with c | c
    ·refine (GY B mb mp v w0 X n nm op p tg x st sn a se s h hl hsn c).mono ?_
     rintro e w' ⟨pv,rfl,her,hb,hsc⟩
     exact ⟨pv,rfl,her,hb,hsc⟩
    ·refine (GR B mb mp v w0 X n nm op p tg x st sn a se s h hl hsn c).mono ?_
     rintro e w' ⟨pv,rfl,her,hb,hsc⟩
     exact ⟨pv,rfl,her,hb,hsc⟩
   ·rw [if_neg c] at hs
    cases hy:kK op x r with
    | none=>rw [hy] at hs;cases hs
    | some y=>
     rw [hy] at hs
     obtain rfl:=Option.some.inj (show some (So.go ⟨a,y::st,se⟩)=some out from hs)
     by_cases h0:r=0
     ·have o1: ¬op=⟨#[47]⟩:=fun e=>c ⟨h0,Or.inl e⟩
      have o2: ¬op=⟨#[37]⟩:=fun e=>c ⟨h0,Or.inr e⟩
      refine (GL B mb mp v w0 X n nm op p tg x r y st a se s h hl hy o1 o2 h0).mono ?_
      rintro e w' ⟨rfl,hr⟩
      exact ⟨rfl,hr,YA.push (rW hy hx) hl3,Nat.le_refl _⟩
     ·refine (GK B mb mp v w0 X n nm op p tg x r y st a se s h hl hy h0).mono ?_
      rintro e w' ⟨rfl,hr⟩
      exact ⟨rfl,hr,YA.push (rW hy hx) hl3,Nat.le_refl _⟩
 | 5,hs,hi=>
  cases st with
  | nil=>
   have hs:(if a≤tg then (none:Option So) else none)=some out:=hs
   split at hs<;>cases hs
  | cons x st=>
   have hs:(if a≤tg then some (So.go ⟨if x=0 then tg else a,st,se⟩) else none)=some out:=hs
   obtain ⟨hm2,hl,hx⟩:=hm.pop
   by_cases ht:a≤tg
   ·rw [if_pos ht] at hs
    obtain rfl:=Option.some.inj hs
    by_cases h0:x=0
    ·refine (Em B mb mp v w0 X n nm op p tg x st a se s h h0 hl).mono ?_
     rintro e w' ⟨rfl,hr⟩
     rw [if_pos h0]
     exact ⟨rfl,hr,hm2.to ht,ht⟩
    ·refine (GX B mb mp v w0 X n nm op p tg x st a se s h h0 hl).mono ?_
     rintro e w' ⟨rfl,hr⟩
     rw [if_neg h0]
     exact ⟨rfl,hr,hm2,Nat.le_refl _⟩
   ·rw [if_neg ht] at hs;cases hs
 | 6,hs,hi=>
  have hs:(if a≤tg then some (So.go ⟨tg,st,se⟩) else none)=some out:=hs
  by_cases ht:a≤tg
  ·rw [if_pos ht] at hs
   obtain rfl:=Option.some.inj hs
   refine (GV B mb mp v w0 X n nm op p tg st a se s h).mono ?_
   rintro e w' ⟨rfl,hr⟩
   exact ⟨rfl,hr,hm.to ht,ht⟩
  ·rw [if_neg ht] at hs;cases hs
 | k+7,hs,hi=>cases hs
def NM (B mb mp:Nat) (v:Option Addr) (w0:World) (sn:Nat→Addr) (len:Nat):So→Ending→World→Prop
 | .go m',e,w'=>e= .returned .nilIface∧(∃s,bf B mb mp v w0 m' s w')∧rQ m'∧m'.a≤len
 | .bad c p,e,w'=> ∃pv,e= .returned (.iface 89 pv)∧ErrAt w' sn c p (.iface 89 pv)∧Below B w0 w'
def StpQ (mb len:Nat) (w':World):Prop:= ∃s,s≤len∧w'.cell? ⟨mb,1028,none⟩=some (.int .i64 (s:Nat))
theorem Ins.all (i:Ins):i.cells.toArray.all (·.oneCell')=true:=by simp [Ins.cells,Value.oneCell']
theorem Ins.size (i:Ins):(Tryz.prog.info? 156).map (·.size)=some i.cells.toArray.size:=by show _=some 6;kernel_rfl
theorem LU:(Tryz.prog.info? 156).map (·.size)=some 6:=by kernel_rfl
structure D8 (B mb mp:Nat) (v:Option Addr) (w0:World) (NV:ByteArray→Int × Nat) (code:List Ins) (f:So) (r:Nat) (m:Ms) (s:Nat) (X:World):Prop where
 ru:runs NV code r m=some f
 at_:bf B mb mp v w0 m s X
 ok:rQ m
 le:s≤m.a
theorem Nb (B mb mp:Nat) (v:Option Addr) (w0 W:World) (val:ByteArray→ByteArray) (NV:ByteArray→Int × Nat) (sn:Nat→Addr) (hE:zl B v w0 val NV) (hsn: ∀Y,Below B w0 Y→Er Y sn)
  (code:List Ins) (cv:Value) (hcv: ∃g cap cur,cv= .slice (some ⟨g,0,none⟩) code.length cap∧code.length≤cap∧g<B∧w0.heap[g]? =some (.cells cur 156 (0,0))∧ ∀(k:Nat) (i:Ins),code[k]? =some i→ ∀j u,i.cells[j]? =some u→cur[k*6+j]? =some u)
  (hok: ∀i∈code,yG i) (hlen:code.length≤900000) (r:Nat) (m:Ms) (f:So) (s:Nat) (h:D8 B mb mp v w0 NV code f r m s W):
  Calls Tryz.prog 63 #[.pointer (some ⟨mb,0,none⟩),cv] W fun e w'=>NM B mb mp v w0 sn code.length f e w'∧StpQ mb code.length w':=by
 obtain ⟨g,cap,cur,rfl,hcap,hgB,hg,hat⟩:=hcv
 have HG:=Lib.hid hg
 have xq:=Lib.hid hgB
 have HAT:=Lib.hid hat
 have HOK:=Lib.hid hok
 have HLEN:=Lib.hid hlen
 have HST:Hid (∀(i:Ins) (m:Ms) (out:So) (s:Nat) (X:World),Bf NV i m=some out→yG i→rQ m→m.se.length+1≤m.a→m.a≤1000000→bf B mb mp v w0 m s X→Calls Tryz.prog 98 #[.pointer (some ⟨mb,0,none⟩),.agg i.cells.toArray] X fun e w'=>Rq B mb mp v w0 sn s m.a out e w'):=Lib.hid (fun i m out s X h1 h2 h3 h4 h5 h6=>KO B mb mp v w0 X val NV sn hE hsn i m out s h1 h2 h3 h4 h5 h6)
 have H0:=Lib.hid h
 obtain ⟨d0,_,_,_,_,_,hml⟩:=h.at_.ma.facts
 clear hg hgB hat hok hE hsn h
 go_enter Tryz.func63,Tryz.ntmps63
 go_wp2_with fail
 go_loopg [6] r (fun gr _ wr=> ∃m s,Aside (D8 B mb mp v w0 NV code f gr m s wr))
 case atStart=>exact ⟨m,s,H0.out⟩
 case round=>
  obtain ⟨m1,s1,A1⟩:=hrel
  have HL:=Lib.hid A1.out
  clear A1
  have Dl:=HL.out.ru
  have hsz:=HL.out.at_.size
  obtain ⟨d0,f0,d1,f1,_,_,hml⟩:=HL.out.at_.ma.facts
  cases gk with
  | zero=>
   by_cases hae:m1.a=code.length
   ·have hf:f= .go m1:=by
     simp only [runs] at Dl
     rw [if_pos hae] at Dl
     exact (Option.some.inj Dl).symm
    have HF:=Lib.hid hf
    have hlt: ¬((m1.a:Int)<(code.length:Int)):=by omega
    have HAE:=Lib.hid hae
    clear Dl hf hae
    go_wp2_with fail
    go_ret
    rw [HF.out]
    exact ⟨⟨rfl,⟨s1,HL.out.at_⟩,HL.out.ok,Nat.le_of_eq HAE.out⟩,s1,by have:=HAE.out;have:=HL.out.le;omega,HL.out.at_.ma.facts.2.2.1⟩
   ·simp only [runs] at Dl
    rw [if_neg hae] at Dl
    cases Dl
  | succ gr=>
   simp only [runs] at Dl
   cases hi:code[m1.a]? with
   | none=>rw [hi] at Dl;cases Dl
   | some i=>
    rw [hi] at Dl
    have hal:m1.a<code.length:=(List.getElem?_eq_some_iff.1 hi).1
    have hmem:i∈code:=List.mem_of_getElem? hi
    cases hst:Bf NV i ⟨m1.a+1,m1.st,m1.se⟩ with
    | none=>simp only [hst] at Dl;cases Dl
    | some out=>
     simp only [hst] at Dl
     have YX:=HL.out.le
     have hgX:wr.heap[g]? =some (.cells cur 156 (0,0)):=(HL.out.at_.ch.block g xq.out).trans HG.out
     have hcl:=HAT.out m1.a i hi
     have JD:=Lib.hid Dl
     have nY:=Lib.hid (HOK.out i hmem)
     have HSTP:=Lib.hid hst
     have Gm:=Lib.hid hcl
     have hlt:(m1.a:Int)<(code.length:Int):=by omega
     have hla:(m1.a:Int)+1≤9223372036854775807:=by have:=HLEN.out;omega
     have hls:(s1:Int)+1≤9223372036854775807:=by have:=HLEN.out;omega
     obtain ⟨W1,hW1⟩: ∃W1,W1=wr.alloc (.cells #[.int .i64 0,.int .i64 0,.string ⟨#[]⟩,.string ⟨#[]⟩,.int .i64 0,.int .i64 0] 156):=⟨_,rfl⟩
     obtain ⟨W2,hW2⟩: ∃W2,W2=W1.setRow wr.heap.size i.cells.toArray:=⟨_,rfl⟩
     have h1:W1.heap[wr.heap.size]? =some (.cells #[.int .i64 0,.int .i64 0,.string ⟨#[]⟩,.string ⟨#[]⟩,.int .i64 0,.int .i64 0] 156 (0,0)):=by rw [hW1];exact dN wr _
     have h2:W2.heap[wr.heap.size]? =some (.cells i.cells.toArray 156 (0,0)):=by rw [hW2];exact setRow_self h1 _
     have hb2:Below wr.heap.size wr W2:=by rw [hW2];exact below_setRow (by rw [hW1];exact (Below.refl _ _).alloc (Nat.le_refl _) _) (Nat.le_refl _) _
     have HR2:=Lib.hid (HL.out.at_.below hsz hb2)
     have HB1:=Lib.hid h1
     have HB2:=Lib.hid h2
     have HW1:=Lib.hid hW1
     have HW2:=Lib.hid hW2
     have Z4:=Lib.hid hla
     have HLS:=Lib.hid hls
     have HAL:=Lib.hid hal
     have Zf:=Lib.hid YX
     clear Dl hst hcl hW1 hW2 h1 h2 hb2 hi hmem hla hls hal YX
     go_upto_region 3 with (first
      | (refine jE rfl 156 _ rfl g (m1.a*6) rfl 156 cur i.cells (0,0) _ hgX Gm.out Tryz.underlying156 rfl (by rw [Ins.aT];exact LU) ?_)
      | (refine wpList_store_rowTo rfl 156 _ _ rfl rfl wr.heap.size i.cells.toArray rfl rfl 156 #[.int .i64 0,.int .i64 0,.string ⟨#[]⟩,.string ⟨#[]⟩,.int .i64 0,.int .i64 0] (by rw [←HW1.out];exact HB1.out) i.size rfl i.all ?_))
     rw [←HW1.out, ←HW2.out]
     clear d0 f0 d1 f1 hml hgX
     obtain ⟨d0,f0,d1,f1,_,_,hml⟩:=HR2.out.ma.facts
     have hla:=Z4.out
     go_upto_region 4 with fail
     clear hla
     obtain ⟨W3,hW3⟩: ∃W3,W3=W2.setCell ⟨mb,1027,none⟩ (.int .i64 ((m1.a:Int)+1)):=⟨_,rfl⟩
     have HR3:Hid (bf B mb mp v w0 ⟨m1.a+1,m1.st,m1.se⟩ s1 W3):=Lib.hid (by rw [hW3];have:=HR2.out.place (m1.a+1);simpa using this)
     have hbx:mb≠wr.heap.size:=fun e=>by have:=HL.out.at_.ma.lt;omega
     have HB3:Hid (W3.heap[wr.heap.size]? =some (.cells i.cells.toArray 156 (0,0))):=Lib.hid (by rw [hW3];exact (Below.heap_setCell _ _ _ _ (by simpa using fun e=>hbx e.symm)).trans HB2.out)
     rw [←hW3]
     clear hW3 d0 f0 d1 f1 hml
     obtain ⟨d0,f0,d1,f1,_,_,hml⟩:=HR3.out.ma.facts
     have hls:=HLS.out
     go_upto_region 5 with fail
     clear hls
     obtain ⟨W4,N8⟩: ∃W4,W4=W3.setCell ⟨mb,1028,none⟩ (.int .i64 ((s1:Int)+1)):=⟨_,rfl⟩
     have HR4:Hid (bf B mb mp v w0 ⟨m1.a+1,m1.st,m1.se⟩ (s1+1) W4):=Lib.hid (by rw [N8];have:=HR3.out.stepped (s1+1);simpa using this)
     have HB4:Hid (W4.heap[wr.heap.size]? =some (.cells i.cells.toArray 156 (0,0))):=Lib.hid (by rw [N8];exact (Below.heap_setCell _ _ _ _ (by simpa using fun e=>hbx e.symm)).trans HB3.out)
     rw [←N8]
     clear N8 d0 f0 d1 f1 hml
     obtain ⟨c0,c1,c2,c3,c4,c5,hz1⟩:=aH (show W4.heap[wr.heap.size]? =some (.cells #[.int .i64 i.k,.int .i64 i.n,.string i.nm,.string i.op,.int .i64 i.p,.int .i64 i.tg] 156 (0,0)) from HB4.out)
     have Tc:=HL.out.ok.se
     have Oe:=Lib.hid (HST.out i ⟨m1.a+1,m1.st,m1.se⟩ out (s1+1) W4 HSTP.out nY.out ⟨HL.out.ok.st,HL.out.ok.h,Nat.le_succ_of_le Tc⟩ (Nat.succ_le_succ Tc) (by have:=HLEN.out;have:=HAL.out;show m1.a+1≤1000000;omega) HR4.out)
     clear Tc
     go_wp2_with fail
     refine Oe.out.mono ?_
     intro e w5 hq
     clear c0 c1 c2 c3 c4 c5 hz1
     cases out with
     | go m2=>
      obtain ⟨rfl,Jw,hm5,ha5⟩:=hq
      have Jr:=Lib.hid Jw
      have HM5:=Lib.hid hm5
      have HA5:=Lib.hid ha5
      clear Jw hm5 ha5
      go_wp2_with fail
      go_roundg gr
      case measure=>omega
      case rel=>exact ⟨m2,s1+1,JD.out,Jr.out,HM5.out,by have:=HA5.out;have h9:=Zf.out;show s1+1≤m2.a;have h8:m1.a+1≤m2.a:=this;omega⟩
     | bad c p=>
      obtain ⟨pv,rfl,her,hb5,hsc⟩:=hq
      have Oe:=Lib.hid hsc
      have DC:=Lib.hid her
      have FX:=Lib.hid hb5
      have hf:f= .bad c p:=(Option.some.inj JD.out).symm
      have HF:=Lib.hid hf
      clear her hb5 hf hsc
      go_wp2_with fail
      go_ret
      rw [HF.out]
      exact ⟨⟨pv,rfl,DC.out,FX.out⟩,s1+1,by have:=HAL.out;have:=Zf.out;omega,Oe.out⟩
theorem run_any (B mb mp:Nat) (v:Option Addr) (w0 W:World) (val:ByteArray→ByteArray) (NV:ByteArray→Int × Nat) (sn:Nat→Addr) (hE:zl B v w0 val NV) (hsn: ∀Y,Below B w0 Y→Er Y sn)
  (code:List Ins) (cv:Value) (hcv: ∃g cap cur,cv= .slice (some ⟨g,0,none⟩) code.length cap∧code.length≤cap∧g<B∧w0.heap[g]? =some (.cells cur 156 (0,0))∧ ∀(k:Nat) (i:Ins),code[k]? =some i→ ∀j u,i.cells[j]? =some u→cur[k*6+j]? =some u)
  (hok: ∀i∈code,yG i) (hlen:code.length≤900000) (r:Nat) (m:Ms) (f:So) (s:Nat) (h:D8 B mb mp v w0 NV code f r m s W):
  Calls Tryz.prog 63 #[.pointer (some ⟨mb,0,none⟩),cv] W fun e w'=>NM B mb mp v w0 sn code.length f e w':=
 (Nb B mb mp v w0 W val NV sn hE hsn code cv hcv hok hlen r m f s h).mono fun _ _ h=>h.1
end Go.Proofs.YtacfglopionkfaaGreatDoor
namespace Go.Proofs.YtacfglopionkfaaGreatDoor
set_option maxHeartbeats 8000000
set_option maxRecDepth 100000
open Go.RowKit Go.WideMaps Go.Maps
theorem oZ {w w':World} (h:Below w.heap.size w w'):w.grownBy w' none:=⟨h.os,h.tape,h.output,h.size,fun i hi _=>h.block i hi⟩
theorem BZ {key:Value} {kl:Lit} (h:keyOf Tryz.prog 9 key=some kl): ∃x,key= .string x:=by
 have hk:Tryz.prog.underlying 9=some .string:=Tryz.underlying9
 cases key<;>simp [keyOf,hk,mapKey] at h
 exact ⟨_,rfl⟩
theorem EJ {H:Type} {P:Program} {k:TypeId} {R:Value→Option (DataW H × List MemPlace)} {w:World} {b:Nat} {D:DataW H} (h:w.ownsMap P k R b 0 D) (kl:Lit):Maps.has D kl=false:=by
 obtain ⟨es,clock,_,_,hs,rfl⟩:=h
 have he:es= #[]:=Array.eq_empty_of_size_eq_zero (by omega)
 subst he
 rfl
set_option maxHeartbeats 1000000 in
theorem set_nil (n s:ByteArray) (w:World):Calls Tryz.prog 17 #[.pointer none,.string n,.string s] w fun e w'=>e= .returned (.bool false)∧w=w':=by
 go_enter Tryz.func17,Tryz.ntmps17
 go_wp2_with fail
 go_ret
 exact ⟨rfl,rfl⟩
structure YH (mb mp:Nat) (X:World) (n:Nat) (D:DataW Unit) (left:Lit→Bool) (cnt:Nat) (Y:World):Prop where
 rg:Y.ranges Tryz.prog 9 (plainElem (H:=Unit) Tryz.prog 2) mp X.heap.size n D left cnt
 bl:Below X.heap.size X Y
 vs:Y.cell? ⟨mb,0,none⟩=some (.pointer none)
theorem YH.below {mb mp:Nat} {X:World} {n:Nat} {D:DataW Unit} {left:Lit→Bool} {cnt:Nat} {Y Y':World} (h:YH mb mp X n D left cnt Y) (hb:Below Y.heap.size Y Y'):YH mb mp X n D left cnt Y':=
 ⟨h.rg.kept (oZ hb) (by simp) (by simp),h.bl.trans (hb.mono h.bl.size),by rw [World.cell?_of_block (w:=Y) (hb.block mb (nZ h.vs))];exact h.vs⟩
theorem keep_any (B mb mp:Nat) (v:Option Addr) (w0 X:World) (m:Ms) (s:Nat) (h:bf B mb mp v w0 m s X) (hv:v=none∨m.se=[]) (htp: ∀Y,Below B w0 Y→TP Y):
  Calls Tryz.prog 65 #[.pointer (some ⟨mb,0,none⟩)] X fun e w'=>e= .returned (.tuple #[])∧bf B mb mp v w0 m s w':=by
 have HR:=Lib.hid h
 obtain ⟨D,hown,hrep⟩:=h.se
 have HEMP:Hid (m.se=[]→ ∀kl,Maps.has D kl=false):=Lib.hid (fun hse kl=>EJ (by rw [hse] at hown;exact hown) kl)
 have AY:=Lib.hid htp
 have HV:=Lib.hid hv
 obtain ⟨st,hm,_⟩:=h.ma
 have c0:=hm.vs
 have c1:=hm.ms
 have Du:=hm.lt
 clear h hrep htp hm hv
 go_enter Tryz.func65,Tryz.ntmps65
 go_wp2_with (first | (at_range;refine wpList_range_own _ rfl _ 118 rfl 9 2 rM Tryz.underlying118 _ mp _ _ rfl hown ?_;intro w1 hrg hg hs))
 go_frame
 have HRG:=Lib.hid hrg
 have hbl:Below X.heap.size X w1:=(Below.refl _ _).grown hg (Nat.le_refl _) (fun k hk=>by cases hk)
 have lM:=Lib.hid hbl
 have Nu:=Lib.hid c0
 clear hrg hg hbl hown c1
 go_loopw [2] (fun _ wr=> ∃(left:Lit→Bool) (cnt:Nat),wr.ranges Tryz.prog 9 (plainElem (H:=Unit) Tryz.prog 2) mp X.heap.size m.se.length D left cnt∧(m.se=[]→ ∀kl,left kl=false)∧Below X.heap.size X wr) (fun _ wr=>wr.rangeLeft mp X.heap.size)
 case atStart=>exact ⟨_,_,HRG.out,fun hse kl=>HEMP.out hse kl,lM.out⟩
 case round=>
  obtain ⟨left,cnt,hrg,hem,hnx⟩:=hrel
  have SG:=Lib.hid hnx
  have HEM:=Lib.hid hem
  clear hnx hem
  go_wp2_with (first | (at_next;refine wpList_next_ranges _ rfl _ rfl 9 rM (plainElem (H:=Unit) Tryz.prog 2) Value.string (Value.int .i64) (fun key kl hk=>?_) (fun u y hu=>?_) mp X.heap.size m.se.length D left cnt rfl hrg ?_ ?_))
  ·exact BZ hk
  ·obtain ⟨c,rfl,_⟩:=plainElem_int_inv Tryz.underlying2 hu
   exact ⟨c,rfl⟩
  ·intro _ hl0
   go_wp2_with fail
   go_end0
   exact ⟨rfl,HR.out.below HR.out.size SG.out⟩
  ·intro x c kl yd yp w2 cnt2 hkey hlk YD hat hrg2 hlt hg2 hs2 hen
   rcases HV.out with hv | hse
   case inr=>rw [HEM.out hse kl] at hlk;cases hlk
   subst hv
   obtain ⟨c',ec,_,hwc⟩:=plainElem_int_inv Tryz.underlying2 YD
   obtain rfl:c=c':=by injection ec
   obtain ⟨hc0,hc1⟩:=I64.JU hwc
   have TB:Below X.heap.size X w2:=SG.out.grown hg2 SG.out.size (fun k hk=>by rw [←Option.some.inj hk];exact Nat.le_refl _)
   have fD:Hid (YH mb mp X m.se.length D (fun z=>left z && !z.sameKey kl) cnt2 w2):=Lib.hid ⟨hrg2,TB,by rw [World.cell?_of_block (w:=X) (TB.block mb Du)];exact Nu.out⟩
   have Bj:Hid (∀Y,Below X.heap.size X Y→Calls Tryz.prog 99 #[.int .i64 c] Y fun e w'=>e= .returned (.string ⟨(Lib.itoa c).toArray⟩)∧Below Y.heap.size Y w'):=Lib.hid (fun Y hY=>qL c Y hc0 hc1 (AY.out Y (HR.out.ch.trans (hY.mono HR.out.size))))
   have HLT:Hid (cnt2<cnt):=Lib.hid hlt
   have Jl:Hid (wr.rangeLeft mp X.heap.size=cnt):=Lib.hid hrg.left_eq
   have YM:Hid (m.se=[]→ ∀z,(left z && !z.sameKey kl)=false):=Lib.hid (fun h z=>by rw [HEM.out h z];rfl)
   clear hkey hlk YD hat hrg2 hlt hg2 hs2 TB hwc ec hrg hc0 hc1
   go_wp2_with fail
   refine Reg.bI (fun Y=>YH mb mp X m.se.length D (fun z=>left z && !z.sameKey kl) cnt2 Y) (fun j=>([some (.pointer (some ⟨mb,0,none⟩)),some (.pointer (some ⟨mb,0,none⟩)),some (.pointer (some ⟨mb,0,none⟩)),some (.pointer none),some (.string x),some (.int .i64 c),some (.string ⟨(Lib.itoa c).toArray⟩),some (.bool false)]:List (Option Value)).getD j none) (fun _ _ _=>True) (by kernel_rfl) (by kernel_rfl) (by kernel_rfl) (by kernel_rfl) ?iY ?rsE ?iW
   case iY=>exact fD.out.below (Below.refl _ _).drew
   case rsE=>
    refine Reg.ah.plain rfl (fun T Y hS hk K hK=>?_) ?_
    ·have g0:=hk.old 0 rfl
     have hK:=hK _ Y hS (Reg.Is.aj rfl) (fun _ _ _ h=>h)
     clear hk
     go_simp
     exact hK
    refine Reg.ah.plain rfl (fun T Y hS hk K hK=>?_) ?_
    ·have g14:=hk.val 0 14 rfl
     have c0:=hS.vs
     have hK:=hK _ Y hS (Reg.Is.aj rfl) (fun _ _ _ h=>h)
     clear hk
     go_simp
     exact hK
    refine Reg.ah.plain rfl (fun T Y hS hk K hK=>?_) ?_
    ·have g15:=hk.val 1 15 rfl
     have c0:=hS.vs
     have hml:=nZ c0
     have hK:=hK _ Y hS (Reg.Is.aj rfl) (fun _ _ _ h=>h)
     clear hk
     go_simp
     exact hK
    refine Reg.ah.plain rfl (fun T Y hS hk K hK=>?_) ?_
    ·have g16:=hk.val 2 16 rfl
     have c0:=hS.vs
     have hK:=hK _ Y hS (Reg.Is.aj rfl) (fun _ _ _ h=>h)
     clear hk
     go_simp
     exact hK
    refine Reg.ah.plain rfl (fun T Y hS hk K hK=>?_) ?_
    ·have g2:=hk.old 2 rfl
     have hK:=hK _ Y hS (Reg.Is.aj rfl) (fun _ _ _ h=>h)
     clear hk
     go_simp
     exact hK
    refine Reg.ah.plain rfl (fun T Y hS hk K hK=>?_) ?_
    ·have g3:=hk.old 3 rfl
     have hK:=hK _ Y hS (Reg.Is.aj rfl) (fun _ _ _ h=>h)
     clear hk
     go_simp
     exact hK
    refine Reg.ah.plain rfl (fun T Y hS hk K hK=>?_) ?_
    ·have g19:=hk.val 5 19 rfl
     clear hk
     go_simp
     refine (Bj.out Y hS.bl).mono ?_
     rintro e w1 ⟨rfl,hb⟩
     exact hK _ _ (hS.below hb) (Reg.Is.aj rfl) (fun _ _ _ h=>h)
    refine Reg.ah.plain rfl (fun T Y hS hk K hK=>?_) ?_
    ·have g17:=hk.val 3 17 rfl
     have g18:=hk.val 4 18 rfl
     have g20:=hk.val 6 20 rfl
     clear hk
     go_simp
     refine (set_nil _ _ Y).mono ?_
     rintro e w1 ⟨rfl,rfl⟩
     exact hK _ _ (hS) (Reg.Is.aj rfl) (fun _ _ _ h=>h)
    exact Reg.ah.nil
   case iW=>
    intro u w5 hS hI
    have e0:u 0= .pointer (some ⟨mb,0,none⟩):=(hI 0 (by decide)).val rfl
    have e1:u 1= .pointer (some ⟨mb,0,none⟩):=(hI 1 (by decide)).val rfl
    have e2:u 2= .pointer (some ⟨mb,0,none⟩):=(hI 2 (by decide)).val rfl
    have e3:u 3= .pointer none:=(hI 3 (by decide)).val rfl
    have e4:u 4= .string x:=(hI 4 (by decide)).val rfl
    have e5:u 5= .int .i64 c:=(hI 5 (by decide)).val rfl
    have e6:u 6= .string ⟨(Lib.itoa c).toArray⟩:=(hI 6 (by decide)).val rfl
    have e7:u 7= .bool false:=(hI 7 (by decide)).val rfl
    clear hI
    simp only [Reg.aK,Act.put,List.setIfInBounds_toArray,List.set_cons_succ,List.set_cons_zero,Nat.zero_add,Nat.reduceAdd,e0,e1,e2,e3,e4,e5,e6,e7]
    clear e0 e1 e2 e3 e4 e5 e6 e7
    have dZ:=Lib.hid hS
    clear hS
    go_wp2_with fail
    go_roundw
    case rel=>exact ⟨_,cnt2,dZ.out.rg,YM.out,dZ.out.bl⟩
    case measure=>rw [dZ.out.rg.left_eq,Jl.out];exact HLT.out
end Go.Proofs.YtacfglopionkfaaGreatDoor
namespace Go.Proofs.YtacfglopionkfaaGreatDoor
set_option maxHeartbeats 8000000
set_option maxRecDepth 100000
open Go.RowKit Go.WideMaps Go.Maps
theorem jW.parts {w:World} {c:Nat} {l:List Ins} (h:jW w c l) (hl:l≠[]): ∃g cap cur,w.heap[c]? =some (.cells #[.slice (some ⟨g,0,none⟩) l.length cap] 112 (0,0))∧l.length≤cap∧g<w.heap.size∧w.heap[g]? =some (.cells cur 156 (0,0))∧ ∀(k:Nat) (i:Ins),l[k]? =some i→ ∀j u,i.cells[j]? =some u→cur[k*6+j]? =some u:=by
 obtain ⟨v,hv,_,⟨rfl,hz⟩ | ⟨g,cap,cur,rfl,_,hg,hnc,_,hcs,htk⟩⟩:=h
 ·exact absurd (List.length_eq_zero_iff.1 hz) hl
 ·refine ⟨g,cap,cur,hv,hnc,aV hg,hg,fun k i hk j u hu=>?_⟩
  have hj:j<6:=by have:=(List.getElem?_eq_some_iff.1 hu).1;rwa [Ins.aT] at this
  have hkl:=(List.getElem?_eq_some_iff.1 hk).1
  have h1:=FK l k i hk j hj
  rw [←htk,hu,List.getElem?_take,if_pos (by omega)] at h1
  rw [←Array.getElem?_toList]
  exact h1
theorem mD: ∀(t:Tr) (k:Nat),comp t k≠[]
 | .num _ _,_=>by simp [comp]
 | .name _ _,_=>by simp [comp]
 | .un _ _ _,_=>by simp [comp]
 | .bin op p a b,k=>by simp only [comp];split<;>(try split)<;>simp [jH,lK]
 | .cond _ _ _ _ _,_=>by simp [comp,mY]
 | .eF op s p q a,k=>by simp only [comp];split<;>simp
def Tr.Fits:Tr→Prop
 | .num n _=>I64 n
 | .name s _=>s.size≤maxLen
 | .un _ _ a=>a.Fits
 | .bin _ _ a b=>a.Fits∧b.Fits
 | .cond _ _ a b c=>a.Fits∧b.Fits∧c.Fits
 | .eF _ s _ _ a=>s.size≤maxLen∧a.Fits
theorem fA {i:Ins} (h:i.nm=ak) (hk:i.k=0→I64 i.n):yG i:=⟨by rw [h];decide,hk⟩
theorem dH: ∀(t:Tr) (k:Nat),t.Fits→ ∀i∈comp t k,yG i
 | .num n p,k,h,i,hi=>by
  simp only [comp,List.mem_singleton] at hi
  subst hi
  exact fA rfl (fun _=>h)
 | .name s p,k,h,i,hi=>by
  simp only [comp,List.mem_singleton] at hi
  subst hi
  exact ⟨h,fun h=>by cases h⟩
 | .un op p a,k,h,i,hi=>by
  simp only [comp,List.mem_append,List.mem_singleton] at hi
  rcases hi with hi | rfl
  ·exact dH a _ h i hi
  ·exact fA rfl (fun h=>by cases h)
 | .bin op p a b,k,h,i,hi=>by
  simp only [comp] at hi
  split at hi
  ·simp only [jH,List.mem_append,List.mem_cons,List.not_mem_nil,or_false] at hi
   rcases hi with hi | rfl | hi | rfl | rfl | rfl
   ·exact dH a _ h.1 i hi
   ·exact fA rfl (fun h=>by cases h)
   ·exact dH b _ h.2 i hi
   ·exact fA rfl (fun h=>by cases h)
   ·exact fA rfl (fun h=>by cases h)
   ·exact fA rfl (fun _=>by show I64 0;unfold I64;omega)
  ·split at hi
   ·simp only [lK,List.mem_append,List.mem_cons,List.not_mem_nil,or_false] at hi
    rcases hi with hi | rfl | rfl | rfl | hi | rfl
    ·exact dH a _ h.1 i hi
    ·exact fA rfl (fun h=>by cases h)
    ·exact fA rfl (fun _=>by show I64 1;unfold I64;omega)
    ·exact fA rfl (fun h=>by cases h)
    ·exact dH b _ h.2 i hi
    ·exact fA rfl (fun h=>by cases h)
   ·simp only [List.mem_append,List.mem_singleton] at hi
    rcases hi with hi | hi | rfl
    ·exact dH a _ h.1 i hi
    ·exact dH b _ h.2 i hi
    ·exact fA rfl (fun h=>by cases h)
 | .cond op p a b c,k,h,i,hi=>by
  simp only [comp,mY,List.mem_append,List.mem_cons] at hi
  rcases hi with hi | rfl | hi | rfl | hi
  ·exact dH a _ h.1 i hi
  ·exact fA rfl (fun h=>by cases h)
  ·exact dH b _ h.2.1 i hi
  ·exact fA rfl (fun h=>by cases h)
  ·exact dH c _ h.2.2 i hi
 | .eF op s p q a,k,h,i,hi=>by
  simp only [comp] at hi
  split at hi
  ·simp only [List.mem_append,List.mem_singleton] at hi
   rcases hi with hi | rfl
   ·exact dH a _ h.2 i hi
   ·exact ⟨h.1,fun h=>by cases h⟩
  ·simp only [List.mem_append,List.mem_cons,List.not_mem_nil,or_false] at hi
   rcases hi with rfl | hi | rfl | rfl
   ·exact ⟨h.1,fun h=>by cases h⟩
   ·exact dH a _ h.2 i hi
   ·exact fA rfl (fun h=>by cases h)
   ·exact ⟨h.1,fun h=>by cases h⟩
theorem xG (v:Value) (l:List Int) (n:Nat) (e:Tr) (t:Tk) (s:Nat→Addr) (w:World) (h:cZ l n=some (.ok e t)) (hs:Sl w v l) (he:Er w s):
  Calls Tryz.prog 9 #[v] w fun x w'=>(∃E,x= .returned (.tuple #[.pointer (some ⟨E,0,none⟩),.nilIface])∧xO w' E e)∧Below w.heap.size w w':=by
 refine (parse_any v l n _ s w h hs he).mono ?_
 rintro x w' ⟨⟨E,o,m,rfl,_,hE,hI⟩,hb⟩
 exact ⟨⟨E,rfl,o,m,hE,hI.mono (Nat.zero_le _) _ _⟩,hb⟩
theorem EM (v:Value) (l:List Int) (n c p:Nat) (s:Nat→Addr) (w:World) (h:cZ l n=some (.bad c p)) (hs:Sl w v l) (he:Er w s):
  Calls Tryz.prog 9 #[v] w fun x w'=>(∃pv,x= .returned (.tuple #[.pointer none,.iface 89 pv])∧ErrAt w' s c p (.iface 89 pv))∧Below w.heap.size w w':=
 parse_any v l n _ s w h hs he
theorem lX {w:World} {v:Value} {l:List Int} (h:Sl w v l): ∃a cap,v= .slice a l.length cap:=by
 obtain ⟨_,_,⟨rfl,a,cap,rfl⟩ | ⟨b,o,cap,rfl,_,_,_⟩⟩:=h
 ·exact ⟨a,cap,rfl⟩
 ·exact ⟨_,cap,rfl⟩
def Ol (sn:Nat→Addr):Rv→Ending→World→Prop
 | .ok x _,e,_=>e= .returned (.tuple #[.int .i64 x,.nilIface])
 | .bad c p,e,w'=> ∃pv,e= .returned (.tuple #[.int .i64 0,.iface 89 pv])∧ErrAt w' sn c p (.iface 89 pv)
 | .no,_,_=>False
set_option maxHeartbeats 2000000 in
theorem nM (a:Option Addr) (w:World):
  Calls Tryz.prog 62 #[.pointer a] w fun e w'=>e= .returned (.pointer (some ⟨w.heap.size+1,0,none⟩))∧bf w.heap.size (w.heap.size+1) w.heap.size a w ⟨0,[],[]⟩ 0 w':=by
 have hmm:= @run_makeMap Tryz.prog
 have hbm:=EU a w.heap.size
 go_enter Tryz.func62,Tryz.ntmps62
 go_wp2_with (first | (refine wpList_buildTo rfl 121 _ rfl (some 5) rfl (fH (.pointer a) (.map (some w.heap.size))) hbm ?_) | (refine wpList_boxTo rfl 121 _ rfl (some 6) rfl (w.heap.size+1) (by simp) (fH (.pointer a) (.map (some w.heap.size))) rfl ?_))
 go_ret
 have hb1:Below w.heap.size w (w.alloc (.map #[] 0)):=(Below.refl _ _).alloc (Nat.le_refl _) _
 have hm:=LJ (t:=121) (Af w (.map #[] 0) (.cells (fH (.pointer a) (.map (some w.heap.size))) 121 (0,0)))
 exact ⟨rfl,⟨_,hm,fun i hi=>by simp at hi⟩,(nU.made w).below ((Below.refl _ _).alloc (Nat.le_refl _) _),hb1.alloc (by simp) _,Nat.le_succ _,Nat.le_refl _,by omega⟩
set_option maxHeartbeats 2000000 in
theorem xW (c:Nat) (l:List Ins) (w:World) (h:jW w c l) (hl:l≠[]):Calls Tryz.prog 27 #[.pointer (some ⟨c,0,none⟩)] w fun e w'=>e= .returned (.int .i64 (l.length:Nat))∧w=w':=by
 obtain ⟨g,cap,cur,hc,_⟩:=h.parts hl
 obtain ⟨c0,_,hz⟩:=bU hc
 clear h hc
 go_enter Tryz.func27,Tryz.ntmps27
 go_wp2_with fail
 go_ret
 exact ⟨rfl,rfl⟩
theorem Un (c:Nat) (t:Tr) (v:Option Addr) (w:World) (val:ByteArray→ByteArray) (NV:ByteArray→Int × Nat) (sn:Nat→Addr) (hc:jW w c (comp t 0)) (hE:zl w.heap.size v w val NV) (hsn:Er w sn) (htp:TP w)
  (hfit:t.Fits) (tJ:need t≤1024) (hlen:(comp t 0).length≤900000) (rv:Rv) (hev:ev NV t []=rv) (hno:rv≠ .no) (hkeep:v=none∨ ∀x e,rv= .ok x e→e=[]):
  Calls Tryz.prog 30 #[.pointer (some ⟨c,0,none⟩),.pointer v] w fun e w'=>Ol sn rv e w'∧Below w.heap.size w w':=by
 have Gm:=Lib.hid (xW c _ w hc (mD t 0))
 have xk:=Lib.hid (nM v w)
 obtain ⟨g,cap,cur,hcode,hcap,hgl,hg,hat⟩:=hc.parts (mD t 0)
 obtain ⟨f,hrun,hf⟩: ∃f,(∃r,runs NV (comp t 0) r ⟨0,[],[]⟩=some f)∧((∃x e,rv= .ok x e∧f= .go ⟨(comp t 0).length,[x],e⟩)∨ ∃a p,rv= .bad a p∧f= .bad a p):=by
  cases rv with
  | ok x e=>exact ⟨_,Dv tJ hev,Or.inl ⟨x,e,rfl,rfl⟩⟩
  | bad a p=>exact ⟨_,zQ tJ hev,Or.inr ⟨a,p,rfl,rfl⟩⟩
  | no=>exact absurd rfl hno
 obtain ⟨r,hr⟩:=hrun
 have JD:Hid (∀X,bf w.heap.size (w.heap.size+1) w.heap.size v w ⟨0,[],[]⟩ 0 X→Calls Tryz.prog 63 #[.pointer (some ⟨w.heap.size+1,0,none⟩),.slice (some ⟨g,0,none⟩) (comp t 0).length cap] X fun e w'=>NM w.heap.size (w.heap.size+1) w.heap.size v w sn (comp t 0).length f e w'):=Lib.hid (fun X hX=>
  run_any w.heap.size (w.heap.size+1) w.heap.size v w X val NV sn hE (fun Y hY=>hsn.below hY) (comp t 0) _ ⟨g,cap,cur,rfl,hcap,hgl,hg,hat⟩ (dH t 0 hfit) hlen r _ f 0 ⟨hr,hX,⟨fun x hx=>by simp at hx,by simp,Nat.le_refl _⟩,Nat.le_refl _⟩)
 have AY:=Lib.hid htp
 have HF:=Lib.hid hf
 have HKE:=Lib.hid hkeep
 have Yw:=Lib.hid hcode
 have hn0: ¬(comp t 0).length=0:=fun e=>mD t 0 (List.length_eq_zero_iff.1 e)
 clear hc hE hsn htp hfit tJ hev hno hkeep hcode hat hg hr hf hlen
 generalize (comp t 0).length=len at*
 have hne:decide ((len:Int)=0)=false:=decide_eq_false (by omega)
 have hne2:decide (len=0)=false:=decide_eq_false hn0
 go_enter Tryz.func30,Tryz.ntmps30
 go_wp2_with fail
 refine Gm.out.mono ?_
 rintro e w0 ⟨rfl,rfl⟩
 go_wp2_with fail
 refine xk.out.mono ?_
 rintro e w1 ⟨rfl,hr1⟩
 have HR1:=Lib.hid hr1
 obtain ⟨c0,_,hz⟩:=bU (jg Yw.out hr1.ch)
 clear hr1
 go_wp2_with fail
 refine (JD.out w1 HR1.out).mono ?_
 intro e w2 hq
 clear c0 hz
 rcases HF.out with ⟨x,e',rC,rfl⟩ | ⟨a,p,rC,rfl⟩
 ·obtain ⟨rfl,⟨s,hr2⟩,hm2,_⟩:=hq
  have JG:Hid (Calls Tryz.prog 65 #[.pointer (some ⟨w.heap.size+1,0,none⟩)] w2 fun e w'=>e= .returned (.tuple #[])∧bf w.heap.size (w.heap.size+1) w.heap.size v w ⟨len,[x],e'⟩ s w'):=Lib.hid (keep_any _ _ _ v w w2 _ s hr2 (HKE.out.imp id (fun h=>h x e' rC)) (fun Y hY=>AY.out.below hY))
  have SC:=Lib.hid rC
  clear hr2 hm2 rC
  go_wp2_with fail
  refine JG.out.mono ?_
  rintro e w3 ⟨rfl,hr3⟩
  have HR3:=Lib.hid hr3
  clear hr3
  go_wp2_with fail
  refine (tC _ _ _ v w _ x [] e' s w3 HR3.out (by simp)).mono ?_
  rintro e w4 ⟨rfl,hr4,_⟩
  have HR4:=Lib.hid hr4.ch
  clear hr4
  go_wp2_with fail
  go_ret2
  rw [SC.out]
  exact ⟨rfl,HR4.out⟩
 ·obtain ⟨pv,rfl,her,hb⟩:=hq
  have DC:=Lib.hid her
  have HB:=Lib.hid hb
  have SC:=Lib.hid rC
  clear her hb rC
  go_wp2_with fail
  go_ret2
  rw [SC.out]
  exact ⟨⟨pv,rfl,DC.out⟩,HB.out⟩
theorem gK : ∀ t : Tr, need t≤sizeT t
 | .num _ _=>by show 1≤jr mO;decide
 | .name _ _=>by show 1≤jr jk;decide
 | .un op _ a => by
   have:=gK a;have h1:1≤jr op:=by unfold jr;split<;>omega
   simp only [need,sizeT,List.sum_cons,List.sum_nil];omega
 | .bin op _ a b => by
   have:=gK a;have:=gK b;have h1:1≤jr op:=by unfold jr;split<;>omega
   simp only [need,sizeT,List.sum_cons,List.sum_nil];omega
 | .cond op _ a b c => by
   have:=gK a;have:=gK b;have:=gK c;have h1:1≤jr op:=by unfold jr;split<;>omega
   simp only [need,sizeT,List.sum_cons,List.sum_nil];omega
 | .eF op _ _ _ a=>by
   have:=gK a;have h1:1≤jr op:=by unfold jr;split<;>omega
   simp only [need,sizeT,List.sum_cons,List.sum_nil];omega
theorem eG: ∀(t:Tr) (k:Nat),(comp t k).length≤4*need t
 | .num _ _,_=>by simp [comp,need]
 | .name _ _,_=>by simp [comp,need]
 | .un _ _ a,k=>by have:=eG a k;simp only [comp,need,List.length_append,List.length_singleton];omega
 | .bin op p a b,k=>by
  have h1:=eG a k
  simp only [comp,need]
  split
  ·have h2:=eG b (k+(comp a k).length+1)
   simp only [jH,List.length_append,List.length_cons,List.length_nil];omega
  ·split
   ·have h2:=eG b (k+(comp a k).length+3)
    simp only [lK,List.length_append,List.length_cons,List.length_nil];omega
   ·have h2:=eG b (k+(comp a k).length)
    simp only [List.length_append,List.length_singleton];omega
 | .cond _ _ a b c,k=>by
  have h1:=eG a k
  have h2:=eG b (k+(comp a k).length+1)
  have h3:=eG c (k+(comp a k).length+1+(comp b (k+(comp a k).length+1)).length+1)
  simp only [comp,mY,need,List.length_append,List.length_cons];omega
 | .eF op s p q a,k=>by
  simp only [comp,need]
  split
  ·have h1:=eG a k
   simp only [List.length_append,List.length_singleton];omega
  ·have h1:=eG a (k+1)
   simp only [List.length_append,List.length_cons,List.length_nil];omega
theorem Lu (op nm:ByteArray) (ks:List (List UInt8)):nm.size≤(qp op nm ks).length:=by
 unfold qp
 by_cases h:nm=ak
 ·rw [h];exact Nat.zero_le _
 ·rw [if_neg h]
  have e:(⟨#[32]⟩++nm:ByteArray).data.toList.length=1+nm.size:=by
   have:(⟨#[32]⟩++nm:ByteArray).size=1+nm.size:=ByteArray.size_append
   rw [←this];rfl
  simp only [List.length_append,e]
  omega
theorem iM (N:Nat) (hN:N≤maxLen): ∀t:Tr,t.Ops→(txt t).length≤N→t.Fits
 | .num n _,h,_=>⟨by have:=h.1;omega,h.2⟩
 | .name s _,_,h=>Nat.le_trans (show s.size≤(txt (.name s 0)).length from Nat.le_refl _) (Nat.le_trans h hN)
 | .un op _ a,h,hl=>by
  have:=lC op ak [txt a]
  simp only [List.map_cons,List.map_nil,List.sum_cons,List.sum_nil] at this
  simp only [txt] at hl
  exact iM N hN a h.2 (by omega)
 | .bin op _ a b,h,hl=>by
  have:=lC op ak [txt a,txt b]
  simp only [List.map_cons,List.map_nil,List.sum_cons,List.sum_nil] at this
  simp only [txt] at hl
  exact ⟨iM N hN a h.2.1 (by omega),iM N hN b h.2.2 (by omega)⟩
 | .cond op _ a b c,h,hl=>by
  have:=lC op ak [txt a,txt b,txt c]
  simp only [List.map_cons,List.map_nil,List.sum_cons,List.sum_nil] at this
  simp only [txt] at hl
  exact ⟨iM N hN a h.2.1 (by omega),iM N hN b h.2.2.1 (by omega),iM N hN c h.2.2.2 (by omega)⟩
 | .eF op s p q a,h,hl=>by
  have:=lC op s [txt a]
  have h2:=Lu op s [txt a]
  simp only [List.map_cons,List.map_nil,List.sum_cons,List.sum_nil] at this
  simp only [txt] at hl
  exact ⟨by omega,iM N hN a h.2.2.2 (by omega)⟩
theorem PL (bv:Value) (l:List Int) (n:Nat) (t:Tr) (k:Tk) (v:Option Addr) (w:World) (val:ByteArray→ByteArray) (NV:ByteArray→Int × Nat) (sn:Nat→Addr) (hp:cZ l n=some (.ok t k)) (hb:nN l) (hs:Sl w bv l) (hsn:Er w sn) (htp:TP w)
  (hE: ∀W,Below w.heap.size w W→zl W.heap.size v W val NV) (rv:Rv) (hev:ev NV t []=rv) (hno:rv≠ .no) (hkeep:v=none∨ ∀x e,rv= .ok x e→e=[]):
  Calls Tryz.prog 24 #[bv,.pointer v] w fun e w'=>Ol sn rv e w'∧Below w.heap.size w w':=by
 obtain ⟨oa,cap,rfl⟩:=lX hs
 obtain ⟨hwf,_,hl⟩:=lJ hp
 have hops:=pV hb hp
 have hsz:=oP hp
 have hns:=gK t
 have hcn:=eG t 0
 have hfit:=iM 32768 (by decide) t hops (pW hp)
 have Ns:=Lib.hid (xG _ l n t k sn w hp hs hsn)
 have vH:Hid (∀E X,xO X E t→Calls Tryz.prog 26 #[.pointer (some ⟨E,0,none⟩)] X fun x w'=>(∃c,x= .returned (.pointer (some ⟨c,0,none⟩))∧jW w' c (comp t 0))∧Below X.heap.size X w'):=Lib.hid (fun E X hX=>uz E t X hX hwf hops (by omega))
 have JD:Hid (∀c X,Below w.heap.size w X→jW X c (comp t 0)→Calls Tryz.prog 30 #[.pointer (some ⟨c,0,none⟩),.pointer v] X fun e w'=>Ol sn rv e w'∧Below X.heap.size X w'):=Lib.hid (fun c X hX hc=>Un c t v X val NV sn hc (hE X hX) (hsn.below hX) (htp.below hX) hfit (by omega) (by omega) rv hev hno hkeep)
 clear hp hb hs hsn htp hE hev hkeep hwf hops hsz hns hcn hfit
 go_enter Tryz.func24,Tryz.ntmps24
 go_wp2_with fail
 refine Ns.out.mono ?_
 rintro e w1 ⟨⟨E,rfl,hE⟩,hb1⟩
 have HEX:=Lib.hid hE
 have HB1:=Lib.hid hb1
 clear hE hb1
 go_wp2_with fail
 refine (vH.out E w1 HEX.out).mono ?_
 rintro e w2 ⟨⟨c,rfl,hc⟩,hb2⟩
 have HC:=Lib.hid hc
 have HB2:=Lib.hid (HB1.out.trans (hb2.mono HB1.out.size))
 clear hc hb2
 go_wp2_with fail
 refine (JD.out c w2 HB2.out HC.out).mono ?_
 rintro e w3 ⟨hq,hb3⟩
 have HB3:=Lib.hid (HB2.out.trans (hb3.mono HB2.out.size))
 clear hb3
 cases rv with
 | ok x e'=>
  obtain rfl:e= .returned (.tuple #[.int .i64 x,.nilIface]):=hq
  go_wp2_with fail
  go_ret2
  exact ⟨rfl,HB3.out⟩
 | bad a p=>
  obtain ⟨pv,rfl,her⟩:=hq
  have DC:=Lib.hid her
  clear her
  go_wp2_with fail
  go_ret2
  exact ⟨⟨pv,rfl,DC.out⟩,HB3.out⟩
 | no=>exact absurd rfl hno
end Go.Proofs.YtacfglopionkfaaGreatDoor
