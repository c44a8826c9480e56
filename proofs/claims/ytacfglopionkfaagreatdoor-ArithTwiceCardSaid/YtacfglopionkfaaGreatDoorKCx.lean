import Derived.Test.YtacfglopionkfaaGreatDoorKTk
import Derived.Deep.CutRange
import Derived.Deep.DeepCutAuto
import Derived.Deep.Cut
namespace Go.Proofs.YtacfglopionkfaaGreatDoor
set_option maxRecDepth 100000
open Go.RowKit
theorem wK (r:List Int) (q:Nat):(gY r q).start=q∧(gY r q).stop≤q+r.length∧(gY r q).text.size≤r.length:=by
 unfold gY
 have h1:=rE r
 have h2:=vg r
 have h3:=zq r
 have h0:ak.size=0:=rfl
 (repeat' split)<;>simp [jP]<;>omega
theorem bD (l:List Int) (p:Nat) (h:p≤l.length):(tok l p).stop≤l.length:=by
 have h1:=bJ l p h
 have h2:=(wK (l.drop (ay l p)) (ay l p)).2.1
 rw [List.length_drop] at h2
 unfold tok
 omega
theorem Bz (l:List Int) (p:Nat):(tok l p).text.size≤l.length:=by
 have h2:=(wK (l.drop (ay l p)) (ay l p)).2.2
 rw [List.length_drop] at h2
 unfold tok
 omega
structure Ctx (l:List Int) (rb:Nat) (bv:Value) (s:Nat→Addr) (w:World):Prop where
 sl:Sl w bv l
 ap: ∀x o n cap,bv= .slice (some ⟨x,o,none⟩) n cap→l=[]∨x≠rb
 er:Er w s
 hi:21<rb
theorem Ctx.ch {l:List Int} {rb:Nat} {bv:Value} {s:Nat→Addr} {w w':World} (h:Ctx l rb bv s w) (hc:Ch rb w w'):Ctx l rb bv s w' where
 sl :=by
  obtain ⟨hy,hl,⟨rfl,a,cap,hv⟩ | ⟨x,o,cap,hv,hcl,hcm,hr⟩⟩:=h.sl
  ·exact ⟨hy,hl,Or.inl ⟨rfl,a,cap,hv⟩⟩
  ·refine ⟨hy,hl,Or.inr ⟨x,o,cap,hv,hcl,hcm,fun i hi=>?_⟩⟩
   have hc':=hr i hi
   have hlt:x<w.heap.size:=by
    rcases Nat.lt_or_ge x w.heap.size with h' | h'
    ·exact h'
    ·simp [World.cell?,Array.getElem?_eq_none h'] at hc'
   rcases h.ap _ _ _ _ hv with h0 | h0
   ·rw [h0] at hi;simp at hi
   rw [World.cell?_of_block (w:=w) (hc.2 x hlt h0)]
   exact hc'
 ap:=h.ap
 er:=⟨fun k h1 h2=>by
  have hl:=h.er.low
  have hh:=h.hi
  rw [World.cell?_of_block (w:=w) (hc.2 _ (by simp;omega) (by simp;omega))]
  exact h.er.var k h1 h2,Nat.lt_of_lt_of_le h.er.low hc.1.size⟩
 hi:=h.hi
def Out (rb lo:Nat) (bv:Value) (s:Nat→Addr):Rs→Ending→World→Prop
 | .ok t n,e,w'=>Good rb lo bv t n e w'
 | .bad c p,e,w'=>Bad s c p e w'
structure pq (l:List Int) (rb:Nat) (bv:Value) (s:Nat→Addr) (t:Tk) (w:World):Prop where
 rd:Rd w rb bv t
 cx:Ctx l rb bv s w
 st:t.stop≤l.length
theorem pq.below {l:List Int} {rb:Nat} {bv:Value} {s:Nat→Addr} {t:Tk} {w w':World} (h:pq l rb bv s t w) (hb:Below w.heap.size w w'):pq l rb bv s t w' where
 rd:=(hb.block rb (lt_of_heap h.rd)).trans h.rd
 cx:=h.cx.ch (Ch.of_below hb (Nat.le_of_lt (lt_of_heap h.rd)))
 st:=h.st
theorem pq.ch {l:List Int} {rb:Nat} {bv:Value} {s:Nat→Addr} {t t':Tk} {w w':World} (h:pq l rb bv s t w) (hc:Ch rb w w') (hr:Rd w' rb bv t') (ht:t'.stop≤l.length):pq l rb bv s t' w' where
 rd:=hr
 cx:=h.cx.ch hc
 st:=ht
structure Dn (l:List Int) (rb:Nat) (bv:Value) (s:Nat→Addr) (n:Nat):Prop where
 expr: ∀t res w,rd l n .expr t=some res→pq l rb bv s t w→Calls Tryz.prog 73 #[.pointer (some ⟨rb,0,none⟩)] w fun e w'=>Out rb w.heap.size bv s res e w'∧Ch rb w w'
 cond: ∀t res w,rd l n .cond t=some res→pq l rb bv s t w→Calls Tryz.prog 106 #[.pointer (some ⟨rb,0,none⟩)] w fun e w'=>Out rb w.heap.size bv s res e w'∧Ch rb w w'
 bin: ∀least t res w,rd l n (.bin least) t=some res→least≤11→1≤least→pq l rb bv s t w→Calls Tryz.prog 145 #[.pointer (some ⟨rb,0,none⟩),.int .i64 least] w fun e w'=>Out rb w.heap.size bv s res e w'∧Ch rb w w'
 iR: ∀t res w,rd l n .iR t=some res→pq l rb bv s t w→Calls Tryz.prog 172 #[.pointer (some ⟨rb,0,none⟩)] w fun e w'=>Out rb w.heap.size bv s res e w'∧Ch rb w w'
theorem iT (l:List Int): ∀(n:Nat) (md:Md) (t t':Tk) (tr:Tr),rd l n md t=some (.ok tr t')→t.stop≤l.length→t'.stop≤l.length:=by
 intro n
 induction n with
 | zero=>intro md t t' tr h;simp [rd] at h
 | succ n ih=>
  intro md t t' tr h hs
  cases md with
  | expr=>
   simp only [rd] at h
   split at h
   ·split at h
    ·rename_i e t2 he
     simp only [Option.some.injEq,Rs.ok.injEq] at h
     obtain ⟨_,rfl⟩:=h
     exact ih _ _ _ _ he (bD _ _ (bD _ _ hs))
    ·rename_i hne;exact absurd h (hne _ _)
   ·exact ih _ _ _ _ h hs
  | cond=>
   simp only [rd] at h
   split at h
   ·rename_i a t1 ha
    have h1:=ih _ _ _ _ ha hs
    split at h
    ·split at h
     ·rename_i y t2 hy
      have h2:=ih _ _ _ _ hy (bD _ _ h1)
      split at h
      ·split at h
       ·rename_i z t3 hz
        simp only [Option.some.injEq,Rs.ok.injEq] at h
        obtain ⟨_,rfl⟩:=h
        exact ih _ _ _ _ hz (bD _ _ h2)
       ·rename_i hne;exact absurd h (hne _ _)
      ·simp [refuse] at h
     ·rename_i hne;exact absurd h (hne _ _)
    ·simp only [Option.some.injEq,Rs.ok.injEq] at h
     obtain ⟨_,rfl⟩:=h
     exact h1
   ·rename_i hne;exact absurd h (hne _ _)
  | bin least=>
   simp only [rd] at h
   split at h
   ·rename_i a t1 ha
    exact ih _ _ _ _ h (ih _ _ _ _ ha hs)
   ·rename_i hne;exact absurd h (hne _ _)
  | loop least left=>
   simp only [rd] at h
   split at h
   ·split at h
    ·rename_i b t2 hb
     exact ih _ _ _ _ h (ih _ _ _ _ hb (bD _ _ hs))
    ·rename_i hne;exact absurd h (hne _ _)
   ·simp only [Option.some.injEq,Rs.ok.injEq] at h
    obtain ⟨_,rfl⟩:=h
    exact hs
  | iR =>
   simp only [rd] at h
   split at h
   ·split at h
    ·simp [refuse] at h
    ·split at h
     ·simp at h
     ·simp only [Option.some.injEq,Rs.ok.injEq] at h
      obtain ⟨_,rfl⟩:=h
      exact bD _ _ hs
   ·split at h
    ·simp only [Option.some.injEq,Rs.ok.injEq] at h
     obtain ⟨_,rfl⟩:=h
     exact bD _ _ hs
    ·split at h
     ·split at h
      ·rename_i a t1 ha
       simp only [Option.some.injEq,Rs.ok.injEq] at h
       obtain ⟨_,rfl⟩:=h
       exact ih _ _ _ _ ha (bD _ _ hs)
      ·rename_i hne;exact absurd h (hne _ _)
     ·split at h
      ·split at h
       ·rename_i e t1 he
        split at h
        ·simp only [Option.some.injEq,Rs.ok.injEq] at h
         obtain ⟨_,rfl⟩:=h
         exact bD _ _ (ih _ _ _ _ he (bD _ _ hs))
        ·simp [refuse] at h
       ·rename_i hne;exact absurd h (hne _ _)
      ·simp [refuse] at h
theorem Tr.In.one {w:World} {lo:Nat} {t:Tr} {kv:Value} (h:t.In w lo kv):kv.oneCell'=true:=by
 cases t with
 | num n p=>cases h;rfl
 | name n p=>cases h;rfl
 | un op p a=>obtain ⟨k,ka,rfl,_⟩:=h;rfl
 | bin op p a b=>obtain ⟨k,ka,kb,rfl,_⟩:=h;rfl
 | cond op p a b c=>obtain ⟨k,ka,kb,kc,rfl,_⟩:=h;rfl
 | eF op x p q a=>obtain ⟨k,ka,rfl,_⟩:=h;rfl
theorem Tr.In.setRow {w:World} {lo:Nat} {t:Tr} {kv:Value} (hi:t.In w lo kv) {g:Nat} (hg:g<lo) (c:Array Value):t.In (w.setRow g c) lo kv:=
 hi.kept (fun k hk _=>by
  show (w.heap.modify g _)[k]? =_
  rw [Array.getElem?_modify,if_neg (by omega)]) t kv
set_option maxHeartbeats 4000000 in
theorem CY {l:List Int} {rb:Nat} {bv:Value} {s:Nat→Addr} {n:Nat} (ih:Dn l rb bv s n) (t:Tk) (res:Rs) (w:World) (h:rd l n .cond t=some res) (hk:t.kind≠3) (hy:pq l rb bv s t w):
  Calls Tryz.prog 73 #[.pointer (some ⟨rb,0,none⟩)] w fun e w'=>Out rb w.heap.size bv s res e w'∧Ch rb w w':=by
 have hrb:=lt_of_heap hy.rd
 have HC:Hid (∀W,Below w.heap.size w W→Calls Tryz.prog 106 #[.pointer (some ⟨rb,0,none⟩)] W fun e w'=>Out rb W.heap.size bv s res e w'∧Ch rb W w'):=Lib.hid (fun W hW=>ih.cond t res W h (hy.below hW))
 obtain ⟨⟨c0,c1,c2,c3,c4,c5,c6⟩,_,hb⟩:=hy.rd.facts
 have e1:(t.kind==3)=false:=by simpa using hk
 have e2:(t.kind !=3)=true:=by simpa using hk
 have HB:Hid (∀o,Below w.heap.size w (w.alloc o)):=Lib.hid (fun o=>(Below.refl _ _).alloc (Nat.le_refl _) o)
 clear ih h hy hk
 cases res with
 | ok tr t'=>
  go_enter Tryz.func73,Tryz.ntmps73
  go_wp2_with fail
  refine (HC.out _ (HB.out _)).mono ?_
  rintro e w1 ⟨⟨kv,rfl,hin,hrd⟩,hch⟩
  have Ap:=Lib.hid hrd
  have nY:=Lib.hid hin
  have HR:Hid (w1.heap[w.heap.size]? =some (.cells #[.string ⟨#[]⟩,.int .i64 0,.string ⟨#[]⟩,.int .i64 0,.int .i64 0,.slice none 0 0] 30)):=Lib.hid ((hch.2 _ (by simp) (by omega)).trans (heap_alloc_last w _))
  have HCH:Hid (Ch rb w w1):=Lib.hid ((Ch.of_below (HB.out _) (Nat.le_of_lt hrb)).trans hch)
  clear hrd hin hch
  go_wp2_with (refine aC rfl _ _ rfl rfl w.heap.size tr.op tr.val tr.nm tr.pos tr.aG kv nY.out.one rfl rfl _ HR.out rfl ?_)
  exact bodyPost_ret (aI rfl _ _ w.heap.size _ rfl (setRow_self HR.out _) rfl) rfl ⟨⟨kv,rfl,(nY.out.setRow (by simp) _).mono (by simp) _ _,Ap.out.setRow (by omega) _⟩,HCH.out.setRow (Nat.le_refl _) (Nat.le_of_lt hrb) _⟩
 | bad c p=>
  go_enter Tryz.func73,Tryz.ntmps73
  go_wp2_with fail
  refine (HC.out _ (HB.out _)).mono ?_
  rintro e w1 ⟨⟨v,rfl,he⟩,hch⟩
  exact ⟨rfl,⟨_,rfl,he⟩,(Ch.of_below (HB.out _) (Nat.le_of_lt hrb)).trans hch⟩
theorem aA {w:World} {b:Nat} {x0 x1 x2 x3 x4 x5:Value} {t:TypeId} (h:w.heap[b]? =some (.cells #[x0,x1,x2,x3,x4,x5] t (0,0))):
  (w.cell? ⟨b,0,none⟩=some x0∧w.cell? ⟨b,1,none⟩=some x1∧w.cell? ⟨b,2,none⟩=some x2∧w.cell? ⟨b,3,none⟩=some x3∧w.cell? ⟨b,4,none⟩=some x4∧w.cell? ⟨b,5,none⟩=some x5)∧
  (w.frozen? ⟨b,0,none⟩=false∧w.frozen? ⟨b,1,none⟩=false∧w.frozen? ⟨b,2,none⟩=false∧w.frozen? ⟨b,3,none⟩=false∧w.frozen? ⟨b,4,none⟩=false∧w.frozen? ⟨b,5,none⟩=false):=by
 refine ⟨⟨?_,?_,?_,?_,?_,?_⟩,⟨?_,?_,?_,?_,?_,?_⟩⟩<;>simp [World.cell?,World.frozen?,h]
theorem fJ (W:World) (o:Obj):Below W.heap.size W (W.alloc o).drew:=(((Below.refl _ _).alloc (Nat.le_refl _) o)).drew
def SY (w:World) (b:Nat) (t:Tk):World:=(((((w.setCell ⟨b,0,none⟩ (.int .i64 t.kind)).setCell ⟨b,1,none⟩ (.int .i64 t.start)).setCell ⟨b,2,none⟩ (.int .i64 t.stop)).setCell ⟨b,3,none⟩ (.string t.text)).setCell ⟨b,4,none⟩ (.int .i64 t.num)).setCell ⟨b,5,none⟩ (.bool t.over)
theorem FN {w:World} {b:Nat} {x0 x1 x2 x3 x4 x5:Value} {ty:TypeId} (h:w.heap[b]? =some (.cells #[x0,x1,x2,x3,x4,x5] ty (0,0))) (t:Tk):
  (SY w b t).heap[b]? =some (.cells #[.int .i64 t.kind,.int .i64 t.start,.int .i64 t.stop,.string t.text,.int .i64 t.num,.bool t.over] ty (0,0)):=by
 have:=aU (aU (aU (aU (aU (aU h 0 (.int .i64 t.kind)) 1 (.int .i64 t.start)) 2 (.int .i64 t.stop)) 3 (.string t.text)) 4 (.int .i64 t.num)) 5 (.bool t.over)
 simpa [SY] using this
theorem wS {B:Nat} {w w':World} (h:Below B w w') {b:Nat} (hb:B≤b) (t:Tk):Below B w (SY w' b t):=
 (((((h.setCell (p:=⟨b,0,none⟩) hb _).setCell (p:=⟨b,1,none⟩) hb _).setCell (p:=⟨b,2,none⟩) hb _).setCell (p:=⟨b,3,none⟩) hb _).setCell (p:=⟨b,4,none⟩) hb _).setCell (p:=⟨b,5,none⟩) hb _
def Peek (W:World) (t:Tk) (v:Value) (wx:World):Prop:= ∃B,v= .pointer (some ⟨B,0,none⟩)∧W.heap.size≤B∧wx.heap[B]? =some (.cells #[.int .i64 t.kind,.int .i64 t.start,.int .i64 t.stop,.string t.text,.int .i64 t.num,.bool t.over] 133)∧Below W.heap.size W wx
set_option maxHeartbeats 4000000 in
theorem Ij {l:List Int} {rb:Nat} {bv:Value} {s:Nat→Addr} {n:Nat} (ih:Dn l rb bv s n) (t:Tk) (res:Rs) (w:World) (h:rd l n .cond t=some res) (hk:t.kind=3) (ha:fZ (tok l t.stop).text=false) (hy:pq l rb bv s t w):
  Calls Tryz.prog 73 #[.pointer (some ⟨rb,0,none⟩)] w fun e w'=>Out rb w.heap.size bv s res e w'∧Ch rb w w':=by
 have hrb:=lt_of_heap hy.rd
 obtain ⟨t',ht'⟩: ∃t',tok l t.stop=t':=⟨_,rfl⟩
 rw [ht'] at ha
 have htx:t'.text.size≤9223372036854775807:=by rw [←ht'];exact Nat.le_trans (Bz _ _) hy.cx.sl.2.1
 have HC:Hid (∀W,Below w.heap.size w W→Calls Tryz.prog 106 #[.pointer (some ⟨rb,0,none⟩)] W fun e w'=>Out rb W.heap.size bv s res e w'∧Ch rb W w'):=Lib.hid (fun W hW=>ih.cond t res W h (hy.below hW))
 have HT:Hid (∀W,Below w.heap.size w W→Calls Tryz.prog 72 #[bv,.int .i64 t.stop] W fun e w'=>e= .returned (.agg #[.int .i64 t'.kind,.int .i64 t'.start,.int .i64 t'.stop,.string t'.text,.int .i64 t'.num,.bool t'.over])∧Below W.heap.size W w'):=Lib.hid (fun W hW=>ni bv l t.stop t' ht' W (hy.below hW).cx.sl hy.st)
 have HA:Hid (∀W,Calls Tryz.prog 61 #[.string t'.text] W fun e w'=>e= .returned (.bool false)∧W=w'):=Lib.hid (fun W=>by have:=kZ t'.text W htx;rw [ha] at this;exact this)
 obtain ⟨⟨c0,c1,c2,c3,c4,c5,c6⟩,_,hb⟩:=hy.rd.facts
 rw [hk] at c1
 have SA:=Lib.hid hy.rd
 have HB:Hid (∀o,Below w.heap.size w (w.alloc o)):=Lib.hid (fun o=>(Below.refl _ _).alloc (Nat.le_refl _) o)
 clear ih h hy hk ha ht' htx
 go_enter Tryz.func73,Tryz.ntmps73
 go_upto_region 3 with (fail)
 obtain ⟨W,hW⟩: ∃W:World,W=w.alloc (.cells #[.string ⟨#[]⟩,.int .i64 0,.string ⟨#[]⟩,.int .i64 0,.int .i64 0,.slice none 0 0] 30):=⟨_,rfl⟩
 rw [←hW]
 have HW:Hid (Below w.heap.size w W):=Lib.hid (by rw [hW];exact HB.out _)
 have HR:Hid (W.heap[w.heap.size]? =some (.cells #[.string ⟨#[]⟩,.int .i64 0,.string ⟨#[]⟩,.int .i64 0,.int .i64 0,.slice none 0 0] 30)):=Lib.hid (by rw [hW];exact heap_alloc_last w _)
 clear hW c0 c1 c2 c3 c4 c5 c6
 have HRW:Hid (Rd W rb bv t):=Lib.hid ((HW.out.block rb hrb).trans SA.out)
 obtain ⟨⟨c0,c1,c2,c3,c4,c5,c6⟩,_,hb'⟩:=HRW.out.facts
 go_cut [3] (fun s3 wx=>Peek W t' s3 wx)
 case first=>
  go_region_with (first
   | (go_at_call 72;(with_reducible refine (HT.out W.drew (HW.out.drew)).mono ?_);rintro e w1 ⟨rfl,hb1⟩)
   | (go_at_call 72;(with_reducible refine (HT.out (W.alloc (.cells #[.int .i64 0,.int .i64 0,.int .i64 0,.string ⟨#[]⟩,.int .i64 0,.bool false] 133)).drew (HW.out.trans ((fJ W _).mono HW.out.size))).mono ?_);rintro e w1 ⟨rfl,hb1⟩;have HZ:Hid (w1.heap[W.heap.size]? =some (.cells #[.int .i64 0,.int .i64 0,.int .i64 0,.string ⟨#[]⟩,.int .i64 0,.bool false] 133)):=Lib.hid ((hb1.block W.heap.size (by simp)).trans (heap_alloc_last W _));obtain ⟨⟨z0,z1,z2,z3,z4,z5⟩,y0,y1,y2,y3,y4,y5⟩:=aA HZ.out))
  all_goals
   go_wp2_with fail
   go_meet
   first
    | exact ⟨w1.heap.size,rfl,hb1.size,heap_alloc_last w1 _,((Below.refl _ _).drew.trans hb1).alloc (hb1.size) _⟩
    | exact ⟨W.heap.size,rfl,Nat.le_refl _,FN HZ.out t',wS ((fJ W _).trans (hb1.mono (by simp))) (Nat.le_refl _) t'⟩
 case rest=>
  obtain ⟨B,rfl,hB,hblk,hbl⟩:=hcut
  have vN:=Lib.hid hblk
  have YO:=Lib.hid hbl
  clear hblk hbl c0 c1 c2 c3 c4 c5 c6
  have Oc:Hid (Below w.heap.size w wc):=Lib.hid (HW.out.trans (YO.out.mono HW.out.size))
  have hsz:=HW.out.size
  have hRW:=lt_of_heap HR.out
  have SB:Hid (wc.heap[w.heap.size]? =some (.cells #[.string ⟨#[]⟩,.int .i64 0,.string ⟨#[]⟩,.int .i64 0,.int .i64 0,.slice none 0 0] 30)):=Lib.hid ((YO.out.block _ hRW).trans HR.out)
  obtain ⟨⟨z0,z1,z2,z3,z4,z5⟩,_⟩:=aA vN.out
  cases res with
  | ok tr t2=>
   go_wp2_with (first | (go_at_call 61;refine (HA.out _).mono ?_;rintro e w' ⟨rfl,rfl⟩))
   refine (HC.out _ Oc.out).mono ?_
   rintro e w1 ⟨⟨kv,rfl,hin,hrd⟩,hch⟩
   have Ap:=Lib.hid hrd
   have nY:=Lib.hid hin
   have HR1:Hid (w1.heap[w.heap.size]? =some (.cells #[.string ⟨#[]⟩,.int .i64 0,.string ⟨#[]⟩,.int .i64 0,.int .i64 0,.slice none 0 0] 30)):=Lib.hid ((hch.2 _ (lt_of_heap SB.out) (by omega)).trans SB.out)
   have HCH:Hid (Ch rb w w1):=Lib.hid ((Ch.of_below Oc.out (Nat.le_of_lt hrb)).trans hch)
   have hlc:=lt_of_heap SB.out
   clear hrd hin hch
   go_wp2_with (refine aC rfl _ _ rfl rfl w.heap.size tr.op tr.val tr.nm tr.pos tr.aG kv nY.out.one rfl rfl _ HR1.out rfl ?_)
   exact bodyPost_ret (aI rfl _ _ w.heap.size _ rfl (setRow_self HR1.out _) rfl) rfl ⟨⟨kv,rfl,(nY.out.setRow hlc _).mono (Nat.le_of_lt hlc) _ _,Ap.out.setRow (by omega) _⟩,HCH.out.setRow (Nat.le_refl _) (Nat.le_of_lt hrb) _⟩
  | bad c p=>
   go_wp2_with (first | (go_at_call 61;refine (HA.out _).mono ?_;rintro e w' ⟨rfl,rfl⟩))
   refine (HC.out _ Oc.out).mono ?_
   rintro e w1 ⟨⟨v,rfl,he⟩,hch⟩
   exact ⟨rfl,⟨_,rfl,he⟩,(Ch.of_below Oc.out (Nat.le_of_lt hrb)).trans hch⟩
end Go.Proofs.YtacfglopionkfaaGreatDoor
