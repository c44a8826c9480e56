import Derived.Test.YtacfglopionkfaaGreatDoorKNu
namespace Go.Proofs.YtacfglopionkfaaGreatDoor
set_option maxHeartbeats 8000000
set_option maxRecDepth 100000
open Go.RowKit
def WV (c:Nat):Int:=if c=0 then 0 else 1
def Nj (bv:Value) (k c q:Nat):Array Value:= #[bv,.int .i64 k,.int .i64 c,.int .i64 q,.int .i64 (WV c)]
structure gU (l:List Int) (bv:Value) (rb k c q:Nat) (w:World):Prop where
 blk:w.heap[rb]? =some (.cells (Nj bv k c q) 81 (0,0))
 sl:Sl w bv l
 len:l.length≤1024
 hi:k≤1000000
 ap: ∀x o n cap,bv= .slice (some ⟨x,o,none⟩) n cap→l=[]∨x≠rb
theorem gU.lt {l:List Int} {bv:Value} {rb k c q:Nat} {w:World} (h:gU l bv rb k c q w):rb<w.heap.size:=lt_of_heap h.blk
theorem mW {l:List Int} {bv:Value} {rb:Nat} {w w':World} (h:Sl w bv l) (ap: ∀x o n cap,bv= .slice (some ⟨x,o,none⟩) n cap→l=[]∨x≠rb) (hc:Ch rb w w'):Sl w' bv l:=by
 obtain ⟨hy,hl,⟨rfl,a,cap,hv⟩ | ⟨x,o,cap,hv,hcl,hcm,hr⟩⟩:=h
 ·exact ⟨hy,hl,Or.inl ⟨rfl,a,cap,hv⟩⟩
 ·refine ⟨hy,hl,Or.inr ⟨x,o,cap,hv,hcl,hcm,fun i hi=>?_⟩⟩
  have hc':=hr i hi
  have hlt:x<w.heap.size:=by
   rcases Nat.lt_or_ge x w.heap.size with h' | h'
   ·exact h'
   ·simp [World.cell?,Array.getElem?_eq_none h'] at hc'
  rcases ap _ _ _ _ hv with h0 | h0
  ·rw [h0] at hi;simp at hi
  rw [World.cell?_of_block (w:=w) (hc.2 x hlt h0)]
  exact hc'
theorem gU.ch {l:List Int} {bv:Value} {rb k c q k' c' q':Nat} {w w':World} (h:gU l bv rb k c q w) (hc:Ch rb w w') (hb:w'.heap[rb]? =some (.cells (Nj bv k' c' q') 81 (0,0))) (hk:k'≤1000000):gU l bv rb k' c' q' w':=
 ⟨hb,mW h.sl h.ap hc,h.len,hk,h.ap⟩
theorem gU.next {l:List Int} {bv:Value} {rb k c q:Nat} {w w':World} (h:gU l bv rb k c q w) (hb:Below w.heap.size w w'):gU l bv rb k c q w':=
 h.ch (Ch.of_below hb (Nat.le_of_lt h.lt)) ((hb.block rb h.lt).trans h.blk) h.hi
theorem gU.cells {l:List Int} {bv:Value} {rb k c q:Nat} {w:World} (h:gU l bv rb k c q w):w.cell? ⟨rb,0,none⟩=some bv∧w.cell? ⟨rb,1,none⟩=some (.int .i64 k)∧w.cell? ⟨rb,2,none⟩=some (.int .i64 c)∧w.cell? ⟨rb,3,none⟩=some (.int .i64 q)∧w.cell? ⟨rb,4,none⟩=some (.int .i64 (WV c)):=
 ⟨(Lib.cell_of_heap h.blk 0).trans rfl,(Lib.cell_of_heap h.blk 1).trans rfl,(Lib.cell_of_heap h.blk 2).trans rfl,(Lib.cell_of_heap h.blk 3).trans rfl,(Lib.cell_of_heap h.blk 4).trans rfl⟩
theorem gU.fr {l:List Int} {bv:Value} {rb k c q:Nat} {w:World} (h:gU l bv rb k c q w) (i:Nat):w.frozen? ⟨rb,i,none⟩=false:=by simp [World.frozen?,h.blk]
theorem gU.rD {l:List Int} {bv:Value} {rb k c q:Nat} {w:World} (h:gU l bv rb k c q w) (k':Nat) (hk:k'≤1000000):gU l bv rb k' c q (w.setCell ⟨rb,1,none⟩ (.int .i64 (k':Nat))):=
 h.ch (Ch.set _ _ _) (by
  have:=aU h.blk 1 (.int .i64 (k':Nat))
  simpa [Nj] using this) hk
theorem gU.shape {l:List Int} {bv:Value} {rb k c q:Nat} {w:World} (h:gU l bv rb k c q w): ∃a cap,bv= .slice a l.length cap:=by
 obtain ⟨hy,hl,⟨rfl,a,cap,hv⟩ | ⟨x,o,cap,hv,hcl,hcm,hr⟩⟩:=h.sl
 ·exact ⟨a,cap,hv⟩
 ·exact ⟨_,cap,hv⟩
theorem gU.row {l:List Int} {bv:Value} {rb k c q:Nat} {w:World} (h:gU l bv rb k c q w) {j:Nat} (hj:j<l.length): ∃x o cap,bv= .slice (some ⟨x,o,none⟩) l.length cap∧l.length≤cap∧cap≤9223372036854775807∧Row w x o l∧x≠rb:=by
 obtain ⟨hy,hl,⟨rfl,a,cap,hv⟩ | ⟨x,o,cap,hv,hcl,hcm,hr⟩⟩:=h.sl
 ·simp at hj
 ·refine ⟨x,o,cap,hv,hcl,hcm,hr,?_⟩
  rcases h.ap _ _ _ _ hv with h0 | h0
  ·rw [h0] at hj;simp at hj
  ·exact h0
theorem aaV (rb:Nat) (w:World) (c:Array Value):Ch rb w (w.setRow rb c):=⟨below_setRow (Below.refl _ _) (Nat.le_refl _) _,fun i hi hn=>by
 show (w.heap.modify rb _)[i]? =_
 rw [Array.getElem?_modify,if_neg (by omega)]⟩
theorem I8 (c p g:Int) (w:World):
  Calls Tryz.prog 40 #[.int .i64 c,.int .i64 p,.int .i64 g] w fun e w'=>e= .returned (.agg #[.int .i64 c,.int .i64 p,.int .i64 g])∧Below w.heap.size w w':=by
 go_enter Tryz.func40,Tryz.ntmps40
 go_wp2
 exact bodyPost_ret (by simp [results,Tryz.results40,go_sem]) rfl ⟨rfl,(Below.refl _ _).alloc (Nat.le_refl _) _⟩
set_option maxHeartbeats 4000000 in
theorem wG {l:List Int} {bv:Value} {rb k:Nat} {w:World} (h:gU l bv rb k 0 0 w) (c p:Nat) (hc:0<c):
  Calls Tryz.prog 80 #[.pointer (some ⟨rb,0,none⟩),.int .i64 c,.int .i64 p] w fun x w'=>x= .returned (.tuple #[])∧gU l bv rb k c p w'∧Ch rb w w':=by
 obtain ⟨c0,c1,c2,c3,c4⟩:=h.cells
 have f2:=h.fr 2
 have HH:=Lib.hid h
 have hlt:=h.lt
 clear h
 go_enter Tryz.func80,Tryz.ntmps80
 go_wp2_with fail
 refine (I8 (c:Nat) (p:Nat) 1 _).mono ?_
 rintro x w2 ⟨rfl,hb2⟩
 have h2:=HH.out.next hb2
 obtain ⟨d0,d1,d2,d3,d4⟩:=h2.cells
 have NH:=Lib.hid h2
 have HB2:=Lib.hid hb2
 clear hb2 h2 c0 c1 c2 c3 c4 f2 HH
 go_wp2_with (first | (refine sK rfl 32 _ _ rfl rfl rb 2 [.int .i64 c,.int .i64 p,.int .i64 1] rfl rfl _ (Nj bv k 0 0) NH.out.blk (by kernel_rfl) (by show 2+3≤5;decide) rfl ?_) | fail)
 go_end0
 have hCh:Ch rb w (w2.setRow rb (spl (Nj bv k 0 0).toList 2 [.int .i64 c,.int .i64 p,.int .i64 1]).toArray):=⟨below_setRow (HB2.out.mono (Nat.le_of_lt hlt)) (Nat.le_refl _) _,fun i hi hn=>by
  show (w2.heap.modify rb _)[i]? =_
  rw [Array.getElem?_modify,if_neg (by omega)]
  exact HB2.out.block i hi⟩
 have hc0:c≠0:=by omega
 refine ⟨rfl,⟨?_,mW NH.out.sl NH.out.ap ?_,NH.out.len,NH.out.hi,NH.out.ap⟩,hCh⟩
 ·rw [setRow_self NH.out.blk]
  show some (Obj.cells #[bv,.int .i64 k,.int .i64 c,.int .i64 p,.int .i64 1] _ _)=_
  unfold Nj WV
  rw [if_neg hc0]
 ·exact aaV rb w2 _
theorem NQ {l:List Int} {j:Nat} (h:j<l.length) (hw:bM (l.getD j 0)=true):ay l (j+1)=ay l j:=by
 have hd:l.drop j=l.getD j 0::l.drop (j+1):=by
  rw [List.drop_eq_getElem_cons h,List.getD,List.getElem?_eq_getElem h];rfl
 unfold ay
 have:pre bM (l.drop j)=1+pre bM (l.drop (j+1)):=by
  rw [hd]
  unfold pre
  rw [List.takeWhile_cons_of_pos hw,List.length_cons]
  omega
 omega
theorem xB {l:List Int} {j:Nat} (h:l.length≤j∨bM (l.getD j 0)=false):ay l j=j:=by
 have:pre bM (l.drop j)=0:=Lc _ _ fun x m e=>by
  rcases h with h | h
  ·rw [List.drop_eq_nil_of_le h] at e;cases e
  ·have hj:j<l.length:=by
    rcases Nat.lt_or_ge j l.length with h' | h'
    ·exact h'
    ·rw [List.drop_eq_nil_of_le h'] at e;cases e
   rw [List.drop_eq_getElem_cons hj] at e
   rw [List.getD,List.getElem?_eq_getElem hj] at h
   simp only [List.cons.injEq] at e
   rw [←e.1]
   exact h
 unfold ay
 omega
theorem U2 (l:List Int) (k:Nat) (hk:k≤1000000) (hl:l.length≤1024):ay l k≤1000000:=by
 rcases Nat.lt_or_ge k l.length with h | h
 ·have:=bJ l k (Nat.le_of_lt h);omega
 ·rw [xB (Or.inl h)];exact hk
theorem qJ {l:List Int} {bv:Value} {rb k c q:Nat} {w:World} (h:gU l bv rb k c q w):
  Calls Tryz.prog 42 #[.pointer (some ⟨rb,0,none⟩)] w fun x w'=>x= .returned (.tuple #[])∧gU l bv rb (ay l k) c q w'∧Ch rb w w':=by
 have hmx:=U2 l k h.hi h.len
 have HH:=Lib.hid h
 have hge:k≤ay l k:=wC l k
 clear h
 obtain ⟨m,hm⟩: ∃m,ay l k=m:=⟨_,rfl⟩
 rw [hm] at hmx hge⊢
 have HM:=Lib.hid hm
 clear hm
 go_enter Tryz.func42,Tryz.ntmps42
 go_wp2
 go_loopg [] (m - k) (fun gm wr=> ∃pj,ay l pj=m∧pj+gm=m∧gU l bv rb pj c q wr∧Ch rb w wr)
 case atStart=>exact ⟨k,HM.out,by omega,HH.out,Ch.refl _ _⟩
 case round=>
  obtain ⟨pj,hj,hjm,hr,hch⟩:=hrel
  have HJ:=Lib.hid hj
  have HR:=Lib.hid hr
  have HC:=Lib.hid hch
  have hll:=hr.len
  have hji:=hr.hi
  clear hj hr hch HH HM
  have HX:Hid (∀X,Below wr.heap.size wr X→X.cell? ⟨rb,0,none⟩=some bv∧X.cell? ⟨rb,1,none⟩=some (.int .i64 pj)):=Lib.hid fun X hX=>⟨(HR.out.next hX).cells.1,(HR.out.next hX).cells.2.1⟩
  have HF:Hid (∀X,Below wr.heap.size wr X→X.frozen? ⟨rb,1,none⟩=false):=Lib.hid fun X hX=>(HR.out.next hX).fr 1
  by_cases hlt:pj<l.length
  ·obtain ⟨x,ox,cap,rfl,hcl,hcm,hrow,hne⟩:=HR.out.row hlt
   have HW:Hid (∀X,Below wr.heap.size wr X→X.cell? ⟨x,ox+pj,none⟩=some (.int .u8 (l.getD pj 0))):=Lib.hid fun X hX=>(hrow.below hX) pj hlt
   have HWA:Hid (∀X,Calls Tryz.prog 78 #[.int .u8 (l.getD pj 0)] X fun e w'=>e= .returned (.bool (bM (l.getD pj 0)))∧X=w'):=Lib.hid fun X=>uG _ X
   have Yu:Hid (bM (l.getD pj 0)=true→ay l (pj+1)=m):=Lib.hid fun hw=>(NQ hlt hw).trans HJ.out
   have Fa:Hid (bM (l.getD pj 0)=false→pj=m):=Lib.hid fun hw=>(xB (Or.inr hw)).symm.trans HJ.out
   clear hrow
   generalize l.getD pj 0=cc at*
   have uF:(pj:Int)<l.length:=by omega
   have hdec:decide ((pj:Int)<l.length)=true:=by simpa using uF
   obtain ⟨wb,hwb⟩: ∃wb,bM cc=wb:=⟨_,rfl⟩
   rw [hwb] at HWA Yu Fa
   clear hwb
   cases wb
   case false=>
    go_wp2
    refine Reg.bI (fun X=>Below wr.heap.size wr X) (fun j=>([some (.pointer (some ⟨rb,0,none⟩)),some (.pointer (some ⟨rb,0,none⟩)),some (.pointer (some ⟨rb,1,none⟩)),some (.int .i64 pj),some (.pointer (some ⟨rb,0,none⟩)),some (.pointer (some ⟨rb,0,none⟩)),some (.pointer (some ⟨rb,0,none⟩)),some (.slice (some ⟨x,ox,none⟩) l.length cap),some (.int .i64 l.length),some (.bool true),some (.bool true),some (.pointer (some ⟨rb,0,none⟩)),some (.pointer (some ⟨rb,0,none⟩)),some (.pointer (some ⟨rb,0,none⟩)),some (.slice (some ⟨x,ox,none⟩) l.length cap),some (.pointer (some ⟨rb,0,none⟩)),some (.pointer (some ⟨rb,0,none⟩)),some (.pointer (some ⟨rb,1,none⟩)),some (.int .i64 pj),some (.pointer (some ⟨x,ox+pj,none⟩)),some (.int .u8 cc),some (.bool false),some (.bool false)]:List (Option Value)).getD j none) (fun _ _ _=>True) (by kernel_rfl) (by kernel_rfl) (by kernel_rfl) (by kernel_rfl) ?iY ?rsE ?iW
    case iY=>exact (Below.refl _ _).drew
    case rsE=>
     refine Reg.ah.plain rfl (fun T X hS hk K hK=>?_) ?_
     ·have g0:=hk.old 0 rfl
      have hK:=hK _ X hS (Reg.Is.aj rfl) (fun _ _ _ h=>h)
      clear hk
      go_simp
      exact hK
     refine Reg.ah.plain rfl (fun T X hS hk K hK=>?_) ?_
     ·have g2:=hk.val 0 2 rfl
      have hK:=hK _ X hS (Reg.Is.aj rfl) (fun _ _ _ h=>h)
      clear hk
      go_simp
      exact hK
     refine Reg.ah.plain rfl (fun T X hS hk K hK=>?_) ?_
     ·have g3:=hk.val 1 3 rfl
      have hK:=hK _ X hS (Reg.Is.aj rfl) (fun _ _ _ h=>h)
      clear hk
      go_simp
      exact hK
     refine Reg.ah.plain rfl (fun T X hS hk K hK=>?_) ?_
     ·have g4:=hk.val 2 4 rfl
      obtain ⟨e0,e1⟩:=HX.out X hS
      have hK:=hK _ X hS (Reg.Is.aj rfl) (fun _ _ _ h=>h)
      clear hk
      go_simp
      exact hK
     refine Reg.ah.plain rfl (fun T X hS hk K hK=>?_) ?_
     ·have g0:=hk.old 0 rfl
      have hK:=hK _ X hS (Reg.Is.aj rfl) (fun _ _ _ h=>h)
      clear hk
      go_simp
      exact hK
     refine Reg.ah.plain rfl (fun T X hS hk K hK=>?_) ?_
     ·have g6:=hk.val 4 6 rfl
      have hK:=hK _ X hS (Reg.Is.aj rfl) (fun _ _ _ h=>h)
      clear hk
      go_simp
      exact hK
     refine Reg.ah.plain rfl (fun T X hS hk K hK=>?_) ?_
     ·have g7:=hk.val 5 7 rfl
      have hK:=hK _ X hS (Reg.Is.aj rfl) (fun _ _ _ h=>h)
      clear hk
      go_simp
      exact hK
     refine Reg.ah.plain rfl (fun T X hS hk K hK=>?_) ?_
     ·have g8:=hk.val 6 8 rfl
      obtain ⟨e0,e1⟩:=HX.out X hS
      have hK:=hK _ X hS (Reg.Is.aj rfl) (fun _ _ _ h=>h)
      clear hk
      go_simp
      exact hK
     refine Reg.ah.plain rfl (fun T X hS hk K hK=>?_) ?_
     ·have g9:=hk.val 7 9 rfl
      have hK:=hK _ X hS (Reg.Is.aj rfl) (fun _ _ _ h=>h)
      clear hk
      go_simp
      exact hK
     refine Reg.ah.plain rfl (fun T X hS hk K hK=>?_) ?_
     ·have g5:=hk.val 3 5 rfl
      have g10:=hk.val 8 10 rfl
      have hK:=hK _ X hS (Reg.Is.aj rfl) (fun _ _ _ h=>h)
      clear hk
      go_simp
      exact hK
     refine Reg.ah.plain rfl (fun T X hS hk K hK=>?_) ?_
     ·have g11:=hk.val 9 11 rfl
      have hK:=hK _ X hS (Reg.Is.aj rfl) (fun _ _ _ h=>h)
      clear hk
      go_simp
      exact hK
     refine Reg.ah.guarded 10 12 true rfl (by kernel_rfl) (by kernel_rfl) rfl (fun T X hS hk K hK=>?_) ?_
     ·have g0:=hk.old 0 rfl
      have hK:=hK _ X hS (Reg.Is.aj rfl) (fun _ _ _ h=>h)
      clear hk
      go_simp
      exact hK
     refine Reg.ah.guarded 10 12 true rfl (by kernel_rfl) (by kernel_rfl) rfl (fun T X hS hk K hK=>?_) ?_
     ·have g13:=hk.val 11 13 rfl
      have hK:=hK _ X hS (Reg.Is.aj rfl) (fun _ _ _ h=>h)
      clear hk
      go_simp
      exact hK
     refine Reg.ah.guarded 10 12 true rfl (by kernel_rfl) (by kernel_rfl) rfl (fun T X hS hk K hK=>?_) ?_
     ·have g14:=hk.val 12 14 rfl
      have hK:=hK _ X hS (Reg.Is.aj rfl) (fun _ _ _ h=>h)
      clear hk
      go_simp
      exact hK
     refine Reg.ah.guarded 10 12 true rfl (by kernel_rfl) (by kernel_rfl) rfl (fun T X hS hk K hK=>?_) ?_
     ·have g15:=hk.val 13 15 rfl
      obtain ⟨e0,e1⟩:=HX.out X hS
      have hK:=hK _ X hS (Reg.Is.aj rfl) (fun _ _ _ h=>h)
      clear hk
      go_simp
      exact hK
     refine Reg.ah.guarded 10 12 true rfl (by kernel_rfl) (by kernel_rfl) rfl (fun T X hS hk K hK=>?_) ?_
     ·have g0:=hk.old 0 rfl
      have hK:=hK _ X hS (Reg.Is.aj rfl) (fun _ _ _ h=>h)
      clear hk
      go_simp
      exact hK
     refine Reg.ah.guarded 10 12 true rfl (by kernel_rfl) (by kernel_rfl) rfl (fun T X hS hk K hK=>?_) ?_
     ·have g17:=hk.val 15 17 rfl
      have hK:=hK _ X hS (Reg.Is.aj rfl) (fun _ _ _ h=>h)
      clear hk
      go_simp
      exact hK
     refine Reg.ah.guarded 10 12 true rfl (by kernel_rfl) (by kernel_rfl) rfl (fun T X hS hk K hK=>?_) ?_
     ·have g18:=hk.val 16 18 rfl
      have hK:=hK _ X hS (Reg.Is.aj rfl) (fun _ _ _ h=>h)
      clear hk
      go_simp
      exact hK
     refine Reg.ah.guarded 10 12 true rfl (by kernel_rfl) (by kernel_rfl) rfl (fun T X hS hk K hK=>?_) ?_
     ·have g19:=hk.val 17 19 rfl
      obtain ⟨e0,e1⟩:=HX.out X hS
      have hK:=hK _ X hS (Reg.Is.aj rfl) (fun _ _ _ h=>h)
      clear hk
      go_simp
      exact hK
     refine Reg.ah.guarded 10 12 true rfl (by kernel_rfl) (by kernel_rfl) rfl (fun T X hS hk K hK=>?_) ?_
     ·have g16:=hk.val 14 16 rfl
      have g20:=hk.val 18 20 rfl
      have hK:=hK _ X hS (Reg.Is.aj rfl) (fun _ _ _ h=>h)
      clear hk
      go_simp
      exact hK
     refine Reg.ah.guarded 10 12 true rfl (by kernel_rfl) (by kernel_rfl) rfl (fun T X hS hk K hK=>?_) ?_
     ·have g21:=hk.val 19 21 rfl
      have e2:=HW.out X hS
      have hK:=hK _ X hS (Reg.Is.aj rfl) (fun _ _ _ h=>h)
      clear hk
      go_simp
      exact hK
     refine Reg.ah.guarded 10 12 true rfl (by kernel_rfl) (by kernel_rfl) rfl (fun T X hS hk K hK=>?_) ?_
     ·have g22:=hk.val 20 22 rfl
      clear hk
      go_simp
      refine (HWA.out X).mono ?_
      rintro e w1 ⟨rfl,hb⟩
      exact hK _ _ (hb▸hS) (Reg.Is.aj rfl) (fun _ _ _ h=>h)
     refine Reg.ah.plain rfl (fun T X hS hk K hK=>?_) ?_
     ·have g12:=hk.val 10 12 rfl
      have g23:=hk.val 21 23 rfl
      have hK:=hK _ X hS (Reg.Is.aj rfl) (fun _ _ _ h=>h)
      clear hk
      go_simp
      exact hK
     exact Reg.ah.nil
    case iW=>
     intro u w1 hS hI
     have e0:u 0= .pointer (some ⟨rb,0,none⟩):=(hI 0 (by decide)).val rfl
     have e1:u 1= .pointer (some ⟨rb,0,none⟩):=(hI 1 (by decide)).val rfl
     have e2:u 2= .pointer (some ⟨rb,1,none⟩):=(hI 2 (by decide)).val rfl
     have e3:u 3= .int .i64 pj:=(hI 3 (by decide)).val rfl
     have e4:u 4= .pointer (some ⟨rb,0,none⟩):=(hI 4 (by decide)).val rfl
     have e5:u 5= .pointer (some ⟨rb,0,none⟩):=(hI 5 (by decide)).val rfl
     have e6:u 6= .pointer (some ⟨rb,0,none⟩):=(hI 6 (by decide)).val rfl
     have e7:u 7= .slice (some ⟨x,ox,none⟩) l.length cap:=(hI 7 (by decide)).val rfl
     have e8:u 8= .int .i64 l.length:=(hI 8 (by decide)).val rfl
     have e9:u 9= .bool true:=(hI 9 (by decide)).val rfl
     have e10:u 10= .bool true:=(hI 10 (by decide)).val rfl
     have e11:u 11= .pointer (some ⟨rb,0,none⟩):=(hI 11 (by decide)).val rfl
     have e12:u 12= .pointer (some ⟨rb,0,none⟩):=(hI 12 (by decide)).val rfl
     have e13:u 13= .pointer (some ⟨rb,0,none⟩):=(hI 13 (by decide)).val rfl
     have e14:u 14= .slice (some ⟨x,ox,none⟩) l.length cap:=(hI 14 (by decide)).val rfl
     have e15:u 15= .pointer (some ⟨rb,0,none⟩):=(hI 15 (by decide)).val rfl
     have e16:u 16= .pointer (some ⟨rb,0,none⟩):=(hI 16 (by decide)).val rfl
     have e17:u 17= .pointer (some ⟨rb,1,none⟩):=(hI 17 (by decide)).val rfl
     have e18:u 18= .int .i64 pj:=(hI 18 (by decide)).val rfl
     have e19:u 19= .pointer (some ⟨x,ox+pj,none⟩):=(hI 19 (by decide)).val rfl
     have e20:u 20= .int .u8 cc:=(hI 20 (by decide)).val rfl
     have e21:u 21= .bool false:=(hI 21 (by decide)).val rfl
     have e22:u 22= .bool false:=(hI 22 (by decide)).val rfl
     clear hI
     simp only [Reg.aK,Act.put,List.setIfInBounds_toArray,List.set_cons_succ,List.set_cons_zero,Nat.zero_add,Nat.reduceAdd,e0,e1,e2,e3,e4,e5,e6,e7,e8,e9,e10,e11,e12,e13,e14,e15,e16,e17,e18,e19,e20,e21,e22]
     clear e0 e1 e2 e3 e4 e5 e6 e7 e8 e9 e10 e11 e12 e13 e14 e15 e16 e17 e18 e19 e20 e21 e22
     have HZ:=Lib.hid hS
     clear hS
     go_wp2
     go_end0
     have aah:=Fa.out (by simp)
     subst aah
     exact ⟨rfl,HR.out.next HZ.out,HC.out.step HZ.out (Nat.le_of_lt HR.out.lt)⟩
   case true=>
    go_wp2
    refine Reg.bI (fun X=>Below wr.heap.size wr X) (fun j=>([some (.pointer (some ⟨rb,0,none⟩)),some (.pointer (some ⟨rb,0,none⟩)),some (.pointer (some ⟨rb,1,none⟩)),some (.int .i64 pj),some (.pointer (some ⟨rb,0,none⟩)),some (.pointer (some ⟨rb,0,none⟩)),some (.pointer (some ⟨rb,0,none⟩)),some (.slice (some ⟨x,ox,none⟩) l.length cap),some (.int .i64 l.length),some (.bool true),some (.bool true),some (.pointer (some ⟨rb,0,none⟩)),some (.pointer (some ⟨rb,0,none⟩)),some (.pointer (some ⟨rb,0,none⟩)),some (.slice (some ⟨x,ox,none⟩) l.length cap),some (.pointer (some ⟨rb,0,none⟩)),some (.pointer (some ⟨rb,0,none⟩)),some (.pointer (some ⟨rb,1,none⟩)),some (.int .i64 pj),some (.pointer (some ⟨x,ox+pj,none⟩)),some (.int .u8 cc),some (.bool true),some (.bool true)]:List (Option Value)).getD j none) (fun _ _ _=>True) (by kernel_rfl) (by kernel_rfl) (by kernel_rfl) (by kernel_rfl) ?iY ?rsE ?iW
    case iY=>exact (Below.refl _ _).drew
    case rsE=>
     refine Reg.ah.plain rfl (fun T X hS hk K hK=>?_) ?_
     ·have g0:=hk.old 0 rfl
      have hK:=hK _ X hS (Reg.Is.aj rfl) (fun _ _ _ h=>h)
      clear hk
      go_simp
      exact hK
     refine Reg.ah.plain rfl (fun T X hS hk K hK=>?_) ?_
     ·have g2:=hk.val 0 2 rfl
      have hK:=hK _ X hS (Reg.Is.aj rfl) (fun _ _ _ h=>h)
      clear hk
      go_simp
      exact hK
     refine Reg.ah.plain rfl (fun T X hS hk K hK=>?_) ?_
     ·have g3:=hk.val 1 3 rfl
      have hK:=hK _ X hS (Reg.Is.aj rfl) (fun _ _ _ h=>h)
      clear hk
      go_simp
      exact hK
     refine Reg.ah.plain rfl (fun T X hS hk K hK=>?_) ?_
     ·have g4:=hk.val 2 4 rfl
      obtain ⟨e0,e1⟩:=HX.out X hS
      have hK:=hK _ X hS (Reg.Is.aj rfl) (fun _ _ _ h=>h)
      clear hk
      go_simp
      exact hK
     refine Reg.ah.plain rfl (fun T X hS hk K hK=>?_) ?_
     ·have g0:=hk.old 0 rfl
      have hK:=hK _ X hS (Reg.Is.aj rfl) (fun _ _ _ h=>h)
      clear hk
      go_simp
      exact hK
     refine Reg.ah.plain rfl (fun T X hS hk K hK=>?_) ?_
     ·have g6:=hk.val 4 6 rfl
      have hK:=hK _ X hS (Reg.Is.aj rfl) (fun _ _ _ h=>h)
      clear hk
      go_simp
      exact hK
     refine Reg.ah.plain rfl (fun T X hS hk K hK=>?_) ?_
     ·have g7:=hk.val 5 7 rfl
      have hK:=hK _ X hS (Reg.Is.aj rfl) (fun _ _ _ h=>h)
      clear hk
      go_simp
      exact hK
     refine Reg.ah.plain rfl (fun T X hS hk K hK=>?_) ?_
     ·have g8:=hk.val 6 8 rfl
      obtain ⟨e0,e1⟩:=HX.out X hS
      have hK:=hK _ X hS (Reg.Is.aj rfl) (fun _ _ _ h=>h)
      clear hk
      go_simp
      exact hK
     refine Reg.ah.plain rfl (fun T X hS hk K hK=>?_) ?_
     ·have g9:=hk.val 7 9 rfl
      have hK:=hK _ X hS (Reg.Is.aj rfl) (fun _ _ _ h=>h)
      clear hk
      go_simp
      exact hK
     refine Reg.ah.plain rfl (fun T X hS hk K hK=>?_) ?_
     ·have g5:=hk.val 3 5 rfl
      have g10:=hk.val 8 10 rfl
      have hK:=hK _ X hS (Reg.Is.aj rfl) (fun _ _ _ h=>h)
      clear hk
      go_simp
      exact hK
     refine Reg.ah.plain rfl (fun T X hS hk K hK=>?_) ?_
     ·have g11:=hk.val 9 11 rfl
      have hK:=hK _ X hS (Reg.Is.aj rfl) (fun _ _ _ h=>h)
      clear hk
      go_simp
      exact hK
     refine Reg.ah.guarded 10 12 true rfl (by kernel_rfl) (by kernel_rfl) rfl (fun T X hS hk K hK=>?_) ?_
     ·have g0:=hk.old 0 rfl
      have hK:=hK _ X hS (Reg.Is.aj rfl) (fun _ _ _ h=>h)
      clear hk
      go_simp
      exact hK
     refine Reg.ah.guarded 10 12 true rfl (by kernel_rfl) (by kernel_rfl) rfl (fun T X hS hk K hK=>?_) ?_
     ·have g13:=hk.val 11 13 rfl
      have hK:=hK _ X hS (Reg.Is.aj rfl) (fun _ _ _ h=>h)
      clear hk
      go_simp
      exact hK
     refine Reg.ah.guarded 10 12 true rfl (by kernel_rfl) (by kernel_rfl) rfl (fun T X hS hk K hK=>?_) ?_
     ·have g14:=hk.val 12 14 rfl
      have hK:=hK _ X hS (Reg.Is.aj rfl) (fun _ _ _ h=>h)
      clear hk
      go_simp
      exact hK
     refine Reg.ah.guarded 10 12 true rfl (by kernel_rfl) (by kernel_rfl) rfl (fun T X hS hk K hK=>?_) ?_
     ·have g15:=hk.val 13 15 rfl
      obtain ⟨e0,e1⟩:=HX.out X hS
      have hK:=hK _ X hS (Reg.Is.aj rfl) (fun _ _ _ h=>h)
      clear hk
      go_simp
      exact hK
     refine Reg.ah.guarded 10 12 true rfl (by kernel_rfl) (by kernel_rfl) rfl (fun T X hS hk K hK=>?_) ?_
     ·have g0:=hk.old 0 rfl
      have hK:=hK _ X hS (Reg.Is.aj rfl) (fun _ _ _ h=>h)
      clear hk
      go_simp
      exact hK
     refine Reg.ah.guarded 10 12 true rfl (by kernel_rfl) (by kernel_rfl) rfl (fun T X hS hk K hK=>?_) ?_
     ·have g17:=hk.val 15 17 rfl
      have hK:=hK _ X hS (Reg.Is.aj rfl) (fun _ _ _ h=>h)
      clear hk
      go_simp
      exact hK
     refine Reg.ah.guarded 10 12 true rfl (by kernel_rfl) (by kernel_rfl) rfl (fun T X hS hk K hK=>?_) ?_
     ·have g18:=hk.val 16 18 rfl
      have hK:=hK _ X hS (Reg.Is.aj rfl) (fun _ _ _ h=>h)
      clear hk
      go_simp
      exact hK
     refine Reg.ah.guarded 10 12 true rfl (by kernel_rfl) (by kernel_rfl) rfl (fun T X hS hk K hK=>?_) ?_
     ·have g19:=hk.val 17 19 rfl
      obtain ⟨e0,e1⟩:=HX.out X hS
      have hK:=hK _ X hS (Reg.Is.aj rfl) (fun _ _ _ h=>h)
      clear hk
      go_simp
      exact hK
     refine Reg.ah.guarded 10 12 true rfl (by kernel_rfl) (by kernel_rfl) rfl (fun T X hS hk K hK=>?_) ?_
     ·have g16:=hk.val 14 16 rfl
      have g20:=hk.val 18 20 rfl
      have hK:=hK _ X hS (Reg.Is.aj rfl) (fun _ _ _ h=>h)
      clear hk
      go_simp
      exact hK
     refine Reg.ah.guarded 10 12 true rfl (by kernel_rfl) (by kernel_rfl) rfl (fun T X hS hk K hK=>?_) ?_
     ·have g21:=hk.val 19 21 rfl
      have e2:=HW.out X hS
      have hK:=hK _ X hS (Reg.Is.aj rfl) (fun _ _ _ h=>h)
      clear hk
      go_simp
      exact hK
     refine Reg.ah.guarded 10 12 true rfl (by kernel_rfl) (by kernel_rfl) rfl (fun T X hS hk K hK=>?_) ?_
     ·have g22:=hk.val 20 22 rfl
      clear hk
      go_simp
      refine (HWA.out X).mono ?_
      rintro e w1 ⟨rfl,hb⟩
      exact hK _ _ (hb▸hS) (Reg.Is.aj rfl) (fun _ _ _ h=>h)
     refine Reg.ah.plain rfl (fun T X hS hk K hK=>?_) ?_
     ·have g12:=hk.val 10 12 rfl
      have g23:=hk.val 21 23 rfl
      have hK:=hK _ X hS (Reg.Is.aj rfl) (fun _ _ _ h=>h)
      clear hk
      go_simp
      exact hK
     exact Reg.ah.nil
    case iW=>
     intro u w1 hS hI
     have e0:u 0= .pointer (some ⟨rb,0,none⟩):=(hI 0 (by decide)).val rfl
     have e1:u 1= .pointer (some ⟨rb,0,none⟩):=(hI 1 (by decide)).val rfl
     have e2:u 2= .pointer (some ⟨rb,1,none⟩):=(hI 2 (by decide)).val rfl
     have e3:u 3= .int .i64 pj:=(hI 3 (by decide)).val rfl
     have e4:u 4= .pointer (some ⟨rb,0,none⟩):=(hI 4 (by decide)).val rfl
     have e5:u 5= .pointer (some ⟨rb,0,none⟩):=(hI 5 (by decide)).val rfl
     have e6:u 6= .pointer (some ⟨rb,0,none⟩):=(hI 6 (by decide)).val rfl
     have e7:u 7= .slice (some ⟨x,ox,none⟩) l.length cap:=(hI 7 (by decide)).val rfl
     have e8:u 8= .int .i64 l.length:=(hI 8 (by decide)).val rfl
     have e9:u 9= .bool true:=(hI 9 (by decide)).val rfl
     have e10:u 10= .bool true:=(hI 10 (by decide)).val rfl
     have e11:u 11= .pointer (some ⟨rb,0,none⟩):=(hI 11 (by decide)).val rfl
     have e12:u 12= .pointer (some ⟨rb,0,none⟩):=(hI 12 (by decide)).val rfl
     have e13:u 13= .pointer (some ⟨rb,0,none⟩):=(hI 13 (by decide)).val rfl
     have e14:u 14= .slice (some ⟨x,ox,none⟩) l.length cap:=(hI 14 (by decide)).val rfl
     have e15:u 15= .pointer (some ⟨rb,0,none⟩):=(hI 15 (by decide)).val rfl
     have e16:u 16= .pointer (some ⟨rb,0,none⟩):=(hI 16 (by decide)).val rfl
     have e17:u 17= .pointer (some ⟨rb,1,none⟩):=(hI 17 (by decide)).val rfl
     have e18:u 18= .int .i64 pj:=(hI 18 (by decide)).val rfl
     have e19:u 19= .pointer (some ⟨x,ox+pj,none⟩):=(hI 19 (by decide)).val rfl
     have e20:u 20= .int .u8 cc:=(hI 20 (by decide)).val rfl
     have e21:u 21= .bool true:=(hI 21 (by decide)).val rfl
     have e22:u 22= .bool true:=(hI 22 (by decide)).val rfl
     clear hI
     simp only [Reg.aK,Act.put,List.setIfInBounds_toArray,List.set_cons_succ,List.set_cons_zero,Nat.zero_add,Nat.reduceAdd,e0,e1,e2,e3,e4,e5,e6,e7,e8,e9,e10,e11,e12,e13,e14,e15,e16,e17,e18,e19,e20,e21,e22]
     clear e0 e1 e2 e3 e4 e5 e6 e7 e8 e9 e10 e11 e12 e13 e14 e15 e16 e17 e18 e19 e20 e21 e22
     have HZ:=Lib.hid hS
     have HR1:=Lib.hid (HR.out.next hS)
     have ou:=Lib.hid (HC.out.step hS (Nat.le_of_lt HR.out.lt))
     obtain ⟨e0,e1⟩:=HX.out w1 hS
     have ef:=HF.out w1 hS
     clear hS
     have hs1:=Yu.out (by simp)
     have hle:=wC l (pj+1)
     rw [hs1] at hle
     have dZ:=Lib.hid hs1
     clear hs1
     obtain ⟨gg,rfl⟩: ∃gg,gk=gg+1:=⟨gk - 1,by omega⟩
     go_wp2
     go_roundg gg
     case rel=>exact ⟨pj+1,dZ.out,by omega,HR1.out.rD (pj+1) (by omega),ou.out.trans (Ch.set _ _ _)⟩
     case measure=>omega
  ·obtain ⟨aa,cap,rfl⟩:=HR.out.shape
   have aah:pj=m:=(xB (Or.inl (by omega))).symm.trans HJ.out
   have uF: ¬(pj:Int)<l.length:=by omega
   have hdec:decide ((pj:Int)<l.length)=false:=by simpa using uF
   subst aah
   go_wp2
   refine Reg.bI (fun X=>Below wr.heap.size wr X) (fun j=>([some (.pointer (some ⟨rb,0,none⟩)),some (.pointer (some ⟨rb,0,none⟩)),some (.pointer (some ⟨rb,1,none⟩)),some (.int .i64 pj),some (.pointer (some ⟨rb,0,none⟩)),some (.pointer (some ⟨rb,0,none⟩)),some (.pointer (some ⟨rb,0,none⟩)),some (.slice aa l.length cap),some (.int .i64 l.length),some (.bool false),some (.bool false),some undef,some undef,some undef,some undef,some undef,some undef,some undef,some undef,some undef,some undef,some undef,some (.bool false)]:List (Option Value)).getD j none) (fun _ _ _=>True) (by kernel_rfl) (by kernel_rfl) (by kernel_rfl) (by kernel_rfl) ?iY ?rsE ?iW
   case iY=>exact (Below.refl _ _).drew
   case rsE=>
    refine Reg.ah.plain rfl (fun T X hS hk K hK=>?_) ?_
    ·have g0:=hk.old 0 rfl
     have hK:=hK _ X hS (Reg.Is.aj rfl) (fun _ _ _ h=>h)
     clear hk
     go_simp
     exact hK
    refine Reg.ah.plain rfl (fun T X hS hk K hK=>?_) ?_
    ·have g2:=hk.val 0 2 rfl
     have hK:=hK _ X hS (Reg.Is.aj rfl) (fun _ _ _ h=>h)
     clear hk
     go_simp
     exact hK
    refine Reg.ah.plain rfl (fun T X hS hk K hK=>?_) ?_
    ·have g3:=hk.val 1 3 rfl
     have hK:=hK _ X hS (Reg.Is.aj rfl) (fun _ _ _ h=>h)
     clear hk
     go_simp
     exact hK
    refine Reg.ah.plain rfl (fun T X hS hk K hK=>?_) ?_
    ·have g4:=hk.val 2 4 rfl
     obtain ⟨e0,e1⟩:=HX.out X hS
     have hK:=hK _ X hS (Reg.Is.aj rfl) (fun _ _ _ h=>h)
     clear hk
     go_simp
     exact hK
    refine Reg.ah.plain rfl (fun T X hS hk K hK=>?_) ?_
    ·have g0:=hk.old 0 rfl
     have hK:=hK _ X hS (Reg.Is.aj rfl) (fun _ _ _ h=>h)
     clear hk
     go_simp
     exact hK
    refine Reg.ah.plain rfl (fun T X hS hk K hK=>?_) ?_
    ·have g6:=hk.val 4 6 rfl
     have hK:=hK _ X hS (Reg.Is.aj rfl) (fun _ _ _ h=>h)
     clear hk
     go_simp
     exact hK
    refine Reg.ah.plain rfl (fun T X hS hk K hK=>?_) ?_
    ·have g7:=hk.val 5 7 rfl
     have hK:=hK _ X hS (Reg.Is.aj rfl) (fun _ _ _ h=>h)
     clear hk
     go_simp
     exact hK
    refine Reg.ah.plain rfl (fun T X hS hk K hK=>?_) ?_
    ·have g8:=hk.val 6 8 rfl
     obtain ⟨e0,e1⟩:=HX.out X hS
     have hK:=hK _ X hS (Reg.Is.aj rfl) (fun _ _ _ h=>h)
     clear hk
     go_simp
     exact hK
    refine Reg.ah.plain rfl (fun T X hS hk K hK=>?_) ?_
    ·have g9:=hk.val 7 9 rfl
     have hK:=hK _ X hS (Reg.Is.aj rfl) (fun _ _ _ h=>h)
     clear hk
     go_simp
     exact hK
    refine Reg.ah.plain rfl (fun T X hS hk K hK=>?_) ?_
    ·have g5:=hk.val 3 5 rfl
     have g10:=hk.val 8 10 rfl
     have hK:=hK _ X hS (Reg.Is.aj rfl) (fun _ _ _ h=>h)
     clear hk
     go_simp
     exact hK
    refine Reg.ah.plain rfl (fun T X hS hk K hK=>?_) ?_
    ·have g11:=hk.val 9 11 rfl
     have hK:=hK _ X hS (Reg.Is.aj rfl) (fun _ _ _ h=>h)
     clear hk
     go_simp
     exact hK
    refine Reg.ah.passed 10 12 false rfl (by kernel_rfl) (by kernel_rfl) rfl rfl ?_
    refine Reg.ah.passed 10 12 false rfl (by kernel_rfl) (by kernel_rfl) rfl rfl ?_
    refine Reg.ah.passed 10 12 false rfl (by kernel_rfl) (by kernel_rfl) rfl rfl ?_
    refine Reg.ah.passed 10 12 false rfl (by kernel_rfl) (by kernel_rfl) rfl rfl ?_
    refine Reg.ah.passed 10 12 false rfl (by kernel_rfl) (by kernel_rfl) rfl rfl ?_
    refine Reg.ah.passed 10 12 false rfl (by kernel_rfl) (by kernel_rfl) rfl rfl ?_
    refine Reg.ah.passed 10 12 false rfl (by kernel_rfl) (by kernel_rfl) rfl rfl ?_
    refine Reg.ah.passed 10 12 false rfl (by kernel_rfl) (by kernel_rfl) rfl rfl ?_
    refine Reg.ah.passed 10 12 false rfl (by kernel_rfl) (by kernel_rfl) rfl rfl ?_
    refine Reg.ah.passed 10 12 false rfl (by kernel_rfl) (by kernel_rfl) rfl rfl ?_
    refine Reg.ah.passed 10 12 false rfl (by kernel_rfl) (by kernel_rfl) rfl rfl ?_
    refine Reg.ah.plain rfl (fun T X hS hk K hK=>?_) ?_
    ·have g12:=hk.val 10 12 rfl
     have g23:=hk.val 21 23 rfl
     have hK:=hK _ X hS (Reg.Is.aj rfl) (fun _ _ _ h=>h)
     clear hk
     go_simp
     exact hK
    exact Reg.ah.nil
   case iW=>
    intro u w1 hS hI
    have e0:u 0= .pointer (some ⟨rb,0,none⟩):=(hI 0 (by decide)).val rfl
    have e1:u 1= .pointer (some ⟨rb,0,none⟩):=(hI 1 (by decide)).val rfl
    have e2:u 2= .pointer (some ⟨rb,1,none⟩):=(hI 2 (by decide)).val rfl
    have e3:u 3= .int .i64 pj:=(hI 3 (by decide)).val rfl
    have e4:u 4= .pointer (some ⟨rb,0,none⟩):=(hI 4 (by decide)).val rfl
    have e5:u 5= .pointer (some ⟨rb,0,none⟩):=(hI 5 (by decide)).val rfl
    have e6:u 6= .pointer (some ⟨rb,0,none⟩):=(hI 6 (by decide)).val rfl
    have e7:u 7= .slice aa l.length cap:=(hI 7 (by decide)).val rfl
    have e8:u 8= .int .i64 l.length:=(hI 8 (by decide)).val rfl
    have e9:u 9= .bool false:=(hI 9 (by decide)).val rfl
    have e10:u 10= .bool false:=(hI 10 (by decide)).val rfl
    have e11:u 11=undef:=(hI 11 (by decide)).val rfl
    have e12:u 12=undef:=(hI 12 (by decide)).val rfl
    have e13:u 13=undef:=(hI 13 (by decide)).val rfl
    have e14:u 14=undef:=(hI 14 (by decide)).val rfl
    have e15:u 15=undef:=(hI 15 (by decide)).val rfl
    have e16:u 16=undef:=(hI 16 (by decide)).val rfl
    have e17:u 17=undef:=(hI 17 (by decide)).val rfl
    have e18:u 18=undef:=(hI 18 (by decide)).val rfl
    have e19:u 19=undef:=(hI 19 (by decide)).val rfl
    have e20:u 20=undef:=(hI 20 (by decide)).val rfl
    have e21:u 21=undef:=(hI 21 (by decide)).val rfl
    have e22:u 22= .bool false:=(hI 22 (by decide)).val rfl
    clear hI
    simp only [Reg.aK,Act.put,List.setIfInBounds_toArray,List.set_cons_succ,List.set_cons_zero,Nat.zero_add,Nat.reduceAdd,e0,e1,e2,e3,e4,e5,e6,e7,e8,e9,e10,e11,e12,e13,e14,e15,e16,e17,e18,e19,e20,e21,e22]
    clear e0 e1 e2 e3 e4 e5 e6 e7 e8 e9 e10 e11 e12 e13 e14 e15 e16 e17 e18 e19 e20 e21 e22
    have HZ:=Lib.hid hS
    clear hS
    go_wp2
    go_end0
    exact ⟨rfl,HR.out.next HZ.out,HC.out.step HZ.out (Nat.le_of_lt HR.out.lt)⟩
theorem uI (s:ByteArray) (hs:s=ak∨s∈aF) (w:World):
  Calls Tryz.prog 76 #[.string s] w fun x w'=>x= .returned (.bool (fZ s))∧w'=w:=by
 have hd: ∃b,fZ s=b:=⟨_,rfl⟩
 obtain ⟨b,hb⟩:=hd
 rw [hb]
 have HBB:=Lib.hid hb
 clear hb
 simp only [aF,ak,List.mem_cons,List.not_mem_nil,or_false] at hs
 rcases hs with rfl | rfl | rfl | rfl | rfl | rfl | rfl | rfl | rfl | rfl | rfl | rfl | rfl | rfl | rfl | rfl | rfl | rfl | rfl | rfl | rfl | rfl | rfl | rfl | rfl | rfl | rfl | rfl | rfl | rfl | rfl | rfl | rfl | rfl | rfl | rfl
 all_goals
  go_enter Tryz.func76,Tryz.ntmps76
  go_wp2
  go_ret
  exact ⟨bK (by rw [←HBB.out];rfl),rfl⟩
theorem U7 (s:ByteArray) (hs:s=ak∨s∈aF) (w:World):
  Calls Tryz.prog 148 #[.string s] w fun x w'=>x= .returned (.int .i64 (dO s))∧w'=w:=by
 have hd: ∃b,dO s=b:=⟨_,rfl⟩
 obtain ⟨b,hb⟩:=hd
 rw [hb]
 have HBB:=Lib.hid hb
 clear hb
 simp only [aF,ak,List.mem_cons,List.not_mem_nil,or_false] at hs
 rcases hs with rfl | rfl | rfl | rfl | rfl | rfl | rfl | rfl | rfl | rfl | rfl | rfl | rfl | rfl | rfl | rfl | rfl | rfl | rfl | rfl | rfl | rfl | rfl | rfl | rfl | rfl | rfl | rfl | rfl | rfl | rfl | rfl | rfl | rfl | rfl | rfl
 all_goals
  go_enter Tryz.func148,Tryz.ntmps148
  go_wp2
  go_ret
  exact ⟨je (by rw [←HBB.out];rfl),rfl⟩
theorem AX {P:Program} {ops:Array Oper} {rest:List Oper} {o:Oper} {a:Act} {w:World} {Q:Exit→Act→World→Prop} (hg:o.guard=none) (t e:TypeId) (len:Nat) (parts:Array (Nat × Operand)) (ho:o.op= .buildSlice t len parts)
  (vs:List Value) (hu:P.underlying t=some (.slice e)) (hsz:(P.info? e).map (·.size)=some 1) (hz:((P.info? e).bind (·.zero)).isSome=true)
  (hlen:len=vs.length) (hpos:0<len) (hsmall:len≤2 ^ 24) (hone: ∀v∈vs,v.cells= #[v])
  (hparts:parts.toList=(vs.zipIdx 0).map fun x=>(x.2,Operand.const x.1))
  (h:wpList P ops Q rest (a.put o.dst (.slice (some ⟨w.heap.size,0,none⟩) len len)) (w.alloc (.cells vs.toArray e))):wpList P ops Q (o::rest) a w:=by
 cases hie:P.info? e with
 | none=>simp [hie] at hsz
 | some ie=>
  simp only [hie,Option.map_some,Option.some.injEq,Option.bind_some] at hsz hz
  obtain ⟨z,hzz⟩:=Option.isSome_iff_exists.1 hz
  refine wpList_buildSlice hg t e len parts ho _ ie z hu hie hzz (by rw [hsz];omega) (by rw [hsz];omega) ?_ h
  have hp:(parts.map fun (i,x)=>(i,a.eval x)).toList=(vs.zipIdx 0).map fun x=>(x.2,x.1):=by
   rw [Array.toList_map,hparts,List.map_map]
   rfl
  rw [hp,hsz]
  exact Great.fill_flat _ _ hone (by simp [hlen])
theorem Zw {r:List Int} {s:ByteArray} (h:begins r s=true):s.size≤r.length∧dI (r.take s.size)=s:=by
 unfold begins at h
 simpa using h
theorem bg_no {r:List Int} {s:ByteArray} (h: ¬begins r s=true) (hs:s.size≤r.length): ¬dI (r.take s.size)=s:=fun e=>h (by unfold begins;simp [hs,e])
theorem fK {l:List Int} {bv:Value} {rb k c q:Nat} {w:World} (h:gU l bv rb k c q w):
  Calls Tryz.prog 75 #[.pointer (some ⟨rb,0,none⟩)] w fun x w'=>x= .returned (.string (fB l k))∧gU l bv rb (ay l k) c q w'∧Ch rb w w':=by
 have lM:=Lib.hid (qJ h)
 have hll:=h.len
 have aaf:Hid (fB l k=dJ (l.drop (ay l k)) (aF.drop 0)):=Lib.hid rfl
 clear h
 generalize fB l k=sg at*
 obtain ⟨p,hp⟩: ∃p,ay l k=p:=⟨_,rfl⟩
 rw [hp] at lM aaf⊢
 clear hp
 go_enter Tryz.func75,Tryz.ntmps75
 go_wp2_with fail
 refine lM.out.mono ?_
 rintro x w1 ⟨rfl,hr1,hc1⟩
 have HR1:=Lib.hid hr1
 have ou:=Lib.hid hc1
 clear hr1 hc1 lM
 go_wp2_with (first | (refine AX rfl 71 9 35 _ rfl (aF.map Value.string) rfl (by kernel_rfl) (by kernel_rfl) (by decide) (by decide) (by decide) (fun v hv=>by obtain ⟨y,_,rfl⟩:=List.mem_map.1 hv;rfl) (by kernel_rfl) ?_) | fail)
 obtain ⟨g,hg⟩: ∃g,w1.heap.size=g:=⟨_,rfl⟩
 obtain ⟨wo,hwo⟩: ∃wo:World,wo=w1.alloc (.cells (aF.map Value.string).toArray 9):=⟨_,rfl⟩
 rw [←hwo,hg]
 have HBo:Hid (Below w1.heap.size w1 wo):=Lib.hid (by rw [hwo];exact (Below.refl _ _).alloc (Nat.le_refl _) _)
 have HGo:Hid (wo.heap[g]? =some (.cells (aF.map Value.string).toArray 9 (0,0))):=Lib.hid (by rw [hwo, ←hg];exact heap_alloc_last w1 _)
 have HRo:=Lib.hid (HR1.out.next HBo.out)
 have WM:=Lib.hid (ou.out.step HBo.out (Nat.le_of_lt HR1.out.lt))
 have hrg:rb<g:=by rw [←hg];exact HR1.out.lt
 clear hwo hg HBo
 have hpm:=HRo.out.hi
 go_loopw [4,9] (fun _ i wr=> ∃j:Nat,j≤35∧sg=dJ (l.drop p) (aF.drop j)∧i= .int .i64 j∧gU l bv rb p c q wr∧Ch rb w wr∧wr.heap[g]? =some (.cells (aF.map Value.string).toArray 9 (0,0))) (fun _ i _=>35 - (intOf i).toNat)
 case atStart=>exact ⟨0,by omega,aaf.out,rfl,HRo.out,WM.out,HGo.out⟩
 case round=>
  obtain ⟨j,hj,hd,rfl,hr,hch,hgb⟩:=hrel
  have HD:=Lib.hid hd
  have HR:=Lib.hid hr
  have HC:=Lib.hid hch
  have HG:=Lib.hid hgb
  clear hd hr hch hgb aaf HRo WM HGo HR1 ou
  by_cases hlt:j<35
  ·have hat:wr.cell? ⟨g,j,none⟩=some (.string (aF.getD j ak)):=by
    rw [Lib.cell_of_heap HG.out j]
    have Xg:j<aF.length:=hlt
    simp [List.getD,List.getElem?_eq_getElem Xg]
   have hfz:wr.frozen? ⟨g,j,none⟩=false:=by simp [World.frozen?,HG.out]
   have hsz:=AP j
   have hs1:1≤(aF.getD j ak).size:=by
    have Xg:j<aF.length:=hlt
    rw [List.getD,List.getElem?_eq_getElem Xg]
    exact (lq _ (List.getElem_mem Xg)).1
   have Xm:Hid (begins (l.drop p) (aF.getD j ak)=true→sg=aF.getD j ak):=Lib.hid fun hb=>HD.out.trans (yD _ j hlt hb)
   have TW:Hid (¬begins (l.drop p) (aF.getD j ak)=true→sg=dJ (l.drop p) (aF.drop (j+1))):=Lib.hid fun hb=>HD.out.trans (wU _ j hlt hb)
   generalize aF.getD j ak=s at*
   have HX:Hid (∀X,Below wr.heap.size wr X→X.cell? ⟨rb,0,none⟩=some bv∧X.cell? ⟨rb,1,none⟩=some (.int .i64 p)):=Lib.hid fun X hX=>⟨(HR.out.next hX).cells.1,(HR.out.next hX).cells.2.1⟩
   have hjl:(j:Int)<35:=by omega
   by_cases hfit:s.size≤(l.drop p).length
   ·rw [List.length_drop] at hfit
    obtain ⟨x,ox,cap,rfl,hcl,hcm,hrow,hne⟩:=HR.out.row (show p<l.length by omega)
    have HSL:Hid (∀X,Below wr.heap.size wr X→Sl X (.slice (some ⟨x,ox+p,none⟩) s.size (cap - p)) ((l.drop p).take s.size)):=Lib.hid fun X hX=>by
     have hlx:=(HR.out.next hX).sl
     have hD:=Sl.drop hlx.1 hlx.2.1 hcl hcm (hrow.below hX) p (by omega)
     have hl:=hlx.2.1
     have hD1:=hD.1
     rcases hD.2.2 with ⟨h0,_⟩ | ⟨b',o',cap',he,h1,h2,h3⟩
     ·have:=congrArg List.length h0
      rw [List.length_drop] at this
      simp at this
      omega
     ·simp only [Value.slice.injEq,Option.some.injEq,Addr.mk.injEq,and_true] at he
      obtain ⟨⟨rfl,rfl⟩,_,rfl⟩:=he
      rw [List.length_drop] at h1
      exact Sl.take hD1 (by rw [List.length_drop];omega) (by rw [List.length_drop];omega) h2 h3 s.size (by rw [List.length_drop];omega)
    have hcv:Hid (∀X,Below wr.heap.size wr X→(convert 22 9 (.slice (some ⟨x,ox+p,none⟩) s.size (cap - p))).run Tryz.prog X= .ok (.string (dI ((l.drop p).take s.size))) X):=Lib.hid fun X hX=>jY (HSL.out X hX)
    have hwr:IntKind.i64.wrap ((l.length:Int) - (p:Int))=(l.length:Int) - (p:Int):=by rw [IntKind.wrap_i64];omega
    obtain ⟨pe,hpe⟩: ∃pe,pe=p+s.size:=⟨_,rfl⟩
    have hwa:IntKind.i64.wrap ((p:Int)+(s.size:Int))=(pe:Int):=by rw [IntKind.wrap_i64];omega
    have hpe1:p≤pe:=by omega
    have hpe2:pe≤cap:=by omega
    have hpe3:pe - p=s.size:=by omega
    clear hpe
    have aai:(s.size:Int)≤(l.length:Int) - (p:Int):=by omega
    have hdec:decide ((s.size:Int)≤(l.length:Int) - (p:Int))=true:=by simpa using aai
    have hcp:cap≠p:=by omega
    have hcpi: ¬(cap:Int)=p:=by omega
    have hdr:s.size≤(l.drop p).length:=by rw [List.length_drop];exact hfit
    by_cases hb:begins (l.drop p) s=true
    ·have hsg:=Xm.out hb
     have huq:dI ((l.drop p).take s.size)=s:=(Zw hb).2
     have HU:=Lib.hid huq
     rw [HU.out] at hcv
     have hss:(s.toList==s.toList)=true:=by simp
     clear hb huq hdr TW Xm
     have jK:=Lib.hid hsg
     clear hsg
     go_wp2
     refine Reg.bI (fun X=>Below wr.heap.size wr X) (fun j=>([some (.pointer (some ⟨rb,0,none⟩)),some (.pointer (some ⟨rb,0,none⟩)),some (.pointer (some ⟨rb,0,none⟩)),some (.slice (some ⟨x,ox,none⟩) l.length cap),some (.int .i64 l.length),some (.pointer (some ⟨rb,0,none⟩)),some (.pointer (some ⟨rb,0,none⟩)),some (.pointer (some ⟨rb,1,none⟩)),some (.int .i64 p),some (.int .i64 ((l.length:Int) - p)),some (.string s),some (.int .i64 s.size),some (.bool true),some (.bool true),some (.pointer (some ⟨rb,0,none⟩)),some (.pointer (some ⟨rb,0,none⟩)),some (.pointer (some ⟨rb,0,none⟩)),some (.slice (some ⟨x,ox,none⟩) l.length cap),some (.pointer (some ⟨rb,0,none⟩)),some (.pointer (some ⟨rb,0,none⟩)),some (.pointer (some ⟨rb,1,none⟩)),some (.int .i64 p),some (.pointer (some ⟨rb,0,none⟩)),some (.pointer (some ⟨rb,0,none⟩)),some (.pointer (some ⟨rb,1,none⟩)),some (.int .i64 p),some (.string s),some (.int .i64 s.size),some (.int .i64 (pe:Nat)),some (.slice (some ⟨x,ox+p,none⟩) s.size (cap - p)),some (.string s),some (.string s),some (.bool true),some (.bool true)]:List (Option Value)).getD j none) (fun _ _ _=>True) (by kernel_rfl) (by kernel_rfl) (by kernel_rfl) (by kernel_rfl) ?iY ?rsE ?iW
     case iY=>exact (Below.refl _ _).drew
     case rsE=>
      refine Reg.ah.plain rfl (fun T X hS hk K hK=>?_) ?_
      ·have g0:=hk.old 0 rfl
       have hK:=hK _ X hS (Reg.Is.aj rfl) (fun _ _ _ h=>h)
       clear hk
       go_simp
       exact hK
      refine Reg.ah.plain rfl (fun T X hS hk K hK=>?_) ?_
      ·have g13:=hk.val 0 13 rfl
       have hK:=hK _ X hS (Reg.Is.aj rfl) (fun _ _ _ h=>h)
       clear hk
       go_simp
       exact hK
      refine Reg.ah.plain rfl (fun T X hS hk K hK=>?_) ?_
      ·have g14:=hk.val 1 14 rfl
       have hK:=hK _ X hS (Reg.Is.aj rfl) (fun _ _ _ h=>h)
       clear hk
       go_simp
       exact hK
      refine Reg.ah.plain rfl (fun T X hS hk K hK=>?_) ?_
      ·have g15:=hk.val 2 15 rfl
       obtain ⟨e0,e1⟩:=HX.out X hS
       have hK:=hK _ X hS (Reg.Is.aj rfl) (fun _ _ _ h=>h)
       clear hk
       go_simp
       exact hK
      refine Reg.ah.plain rfl (fun T X hS hk K hK=>?_) ?_
      ·have g16:=hk.val 3 16 rfl
       have hK:=hK _ X hS (Reg.Is.aj rfl) (fun _ _ _ h=>h)
       clear hk
       go_simp
       exact hK
      refine Reg.ah.plain rfl (fun T X hS hk K hK=>?_) ?_
      ·have g0:=hk.old 0 rfl
       have hK:=hK _ X hS (Reg.Is.aj rfl) (fun _ _ _ h=>h)
       clear hk
       go_simp
       exact hK
      refine Reg.ah.plain rfl (fun T X hS hk K hK=>?_) ?_
      ·have g18:=hk.val 5 18 rfl
       have hK:=hK _ X hS (Reg.Is.aj rfl) (fun _ _ _ h=>h)
       clear hk
       go_simp
       exact hK
      refine Reg.ah.plain rfl (fun T X hS hk K hK=>?_) ?_
      ·have g19:=hk.val 6 19 rfl
       have hK:=hK _ X hS (Reg.Is.aj rfl) (fun _ _ _ h=>h)
       clear hk
       go_simp
       exact hK
      refine Reg.ah.plain rfl (fun T X hS hk K hK=>?_) ?_
      ·have g20:=hk.val 7 20 rfl
       obtain ⟨e0,e1⟩:=HX.out X hS
       have hK:=hK _ X hS (Reg.Is.aj rfl) (fun _ _ _ h=>h)
       clear hk
       go_simp
       exact hK
      refine Reg.ah.plain rfl (fun T X hS hk K hK=>?_) ?_
      ·have g17:=hk.val 4 17 rfl
       have g21:=hk.val 8 21 rfl
       have hK:=hK _ X hS (Reg.Is.aj rfl) (fun _ _ _ h=>h)
       clear hk
       go_simp
       exact hK
      refine Reg.ah.plain rfl (fun T X hS hk K hK=>?_) ?_
      ·have g4:=hk.old 4 rfl
       have hK:=hK _ X hS (Reg.Is.aj rfl) (fun _ _ _ h=>h)
       clear hk
       go_simp
       exact hK
      refine Reg.ah.plain rfl (fun T X hS hk K hK=>?_) ?_
      ·have g23:=hk.val 10 23 rfl
       have hK:=hK _ X hS (Reg.Is.aj rfl) (fun _ _ _ h=>h)
       clear hk
       go_simp
       exact hK
      refine Reg.ah.plain rfl (fun T X hS hk K hK=>?_) ?_
      ·have g22:=hk.val 9 22 rfl
       have g24:=hk.val 11 24 rfl
       have hK:=hK _ X hS (Reg.Is.aj rfl) (fun _ _ _ h=>h)
       clear hk
       go_simp
       exact hK
      refine Reg.ah.plain rfl (fun T X hS hk K hK=>?_) ?_
      ·have g25:=hk.val 12 25 rfl
       have hK:=hK _ X hS (Reg.Is.aj rfl) (fun _ _ _ h=>h)
       clear hk
       go_simp
       exact hK
      refine Reg.ah.guarded 13 26 true rfl (by kernel_rfl) (by kernel_rfl) rfl (fun T X hS hk K hK=>?_) ?_
      ·have g0:=hk.old 0 rfl
       have hK:=hK _ X hS (Reg.Is.aj rfl) (fun _ _ _ h=>h)
       clear hk
       go_simp
       exact hK
      refine Reg.ah.guarded 13 26 true rfl (by kernel_rfl) (by kernel_rfl) rfl (fun T X hS hk K hK=>?_) ?_
      ·have g27:=hk.val 14 27 rfl
       have hK:=hK _ X hS (Reg.Is.aj rfl) (fun _ _ _ h=>h)
       clear hk
       go_simp
       exact hK
      refine Reg.ah.guarded 13 26 true rfl (by kernel_rfl) (by kernel_rfl) rfl (fun T X hS hk K hK=>?_) ?_
      ·have g28:=hk.val 15 28 rfl
       have hK:=hK _ X hS (Reg.Is.aj rfl) (fun _ _ _ h=>h)
       clear hk
       go_simp
       exact hK
      refine Reg.ah.guarded 13 26 true rfl (by kernel_rfl) (by kernel_rfl) rfl (fun T X hS hk K hK=>?_) ?_
      ·have g29:=hk.val 16 29 rfl
       obtain ⟨e0,e1⟩:=HX.out X hS
       have hK:=hK _ X hS (Reg.Is.aj rfl) (fun _ _ _ h=>h)
       clear hk
       go_simp
       exact hK
      refine Reg.ah.guarded 13 26 true rfl (by kernel_rfl) (by kernel_rfl) rfl (fun T X hS hk K hK=>?_) ?_
      ·have g0:=hk.old 0 rfl
       have hK:=hK _ X hS (Reg.Is.aj rfl) (fun _ _ _ h=>h)
       clear hk
       go_simp
       exact hK
      refine Reg.ah.guarded 13 26 true rfl (by kernel_rfl) (by kernel_rfl) rfl (fun T X hS hk K hK=>?_) ?_
      ·have g31:=hk.val 18 31 rfl
       have hK:=hK _ X hS (Reg.Is.aj rfl) (fun _ _ _ h=>h)
       clear hk
       go_simp
       exact hK
      refine Reg.ah.guarded 13 26 true rfl (by kernel_rfl) (by kernel_rfl) rfl (fun T X hS hk K hK=>?_) ?_
      ·have g32:=hk.val 19 32 rfl
       have hK:=hK _ X hS (Reg.Is.aj rfl) (fun _ _ _ h=>h)
       clear hk
       go_simp
       exact hK
      refine Reg.ah.guarded 13 26 true rfl (by kernel_rfl) (by kernel_rfl) rfl (fun T X hS hk K hK=>?_) ?_
      ·have g33:=hk.val 20 33 rfl
       obtain ⟨e0,e1⟩:=HX.out X hS
       have hK:=hK _ X hS (Reg.Is.aj rfl) (fun _ _ _ h=>h)
       clear hk
       go_simp
       exact hK
      refine Reg.ah.guarded 13 26 true rfl (by kernel_rfl) (by kernel_rfl) rfl (fun T X hS hk K hK=>?_) ?_
      ·have g0:=hk.old 0 rfl
       have hK:=hK _ X hS (Reg.Is.aj rfl) (fun _ _ _ h=>h)
       clear hk
       go_simp
       exact hK
      refine Reg.ah.guarded 13 26 true rfl (by kernel_rfl) (by kernel_rfl) rfl (fun T X hS hk K hK=>?_) ?_
      ·have g35:=hk.val 22 35 rfl
       have hK:=hK _ X hS (Reg.Is.aj rfl) (fun _ _ _ h=>h)
       clear hk
       go_simp
       exact hK
      refine Reg.ah.guarded 13 26 true rfl (by kernel_rfl) (by kernel_rfl) rfl (fun T X hS hk K hK=>?_) ?_
      ·have g36:=hk.val 23 36 rfl
       have hK:=hK _ X hS (Reg.Is.aj rfl) (fun _ _ _ h=>h)
       clear hk
       go_simp
       exact hK
      refine Reg.ah.guarded 13 26 true rfl (by kernel_rfl) (by kernel_rfl) rfl (fun T X hS hk K hK=>?_) ?_
      ·have g37:=hk.val 24 37 rfl
       obtain ⟨e0,e1⟩:=HX.out X hS
       have hK:=hK _ X hS (Reg.Is.aj rfl) (fun _ _ _ h=>h)
       clear hk
       go_simp
       exact hK
      refine Reg.ah.guarded 13 26 true rfl (by kernel_rfl) (by kernel_rfl) rfl (fun T X hS hk K hK=>?_) ?_
      ·have g4:=hk.old 4 rfl
       have hK:=hK _ X hS (Reg.Is.aj rfl) (fun _ _ _ h=>h)
       clear hk
       go_simp
       exact hK
      refine Reg.ah.guarded 13 26 true rfl (by kernel_rfl) (by kernel_rfl) rfl (fun T X hS hk K hK=>?_) ?_
      ·have g39:=hk.val 26 39 rfl
       have hK:=hK _ X hS (Reg.Is.aj rfl) (fun _ _ _ h=>h)
       clear hk
       go_simp
       exact hK
      refine Reg.ah.guarded 13 26 true rfl (by kernel_rfl) (by kernel_rfl) rfl (fun T X hS hk K hK=>?_) ?_
      ·have g38:=hk.val 25 38 rfl
       have g40:=hk.val 27 40 rfl
       have hK:=hK _ X hS (Reg.Is.aj rfl) (fun _ _ _ h=>h)
       clear hk
       go_simp
       exact hK
      refine Reg.ah.guarded 13 26 true rfl (by kernel_rfl) (by kernel_rfl) rfl (fun T X hS hk K hK=>?_) ?_
      ·have g30:=hk.val 17 30 rfl
       have g34:=hk.val 21 34 rfl
       have g41:=hk.val 28 41 rfl
       have hK:=hK _ X hS (Reg.Is.aj rfl) (fun _ _ _ h=>h)
       clear hk
       go_simp
       exact hK
      refine Reg.ah.guarded 13 26 true rfl (by kernel_rfl) (by kernel_rfl) rfl (fun T X hS hk K hK=>?_) ?_
      ·have g42:=hk.val 29 42 rfl
       have e4:=hcv.out X hS
       have hK:=hK _ X hS (Reg.Is.aj rfl) (fun _ _ _ h=>h)
       clear hk
       go_simp
       exact hK
      refine Reg.ah.guarded 13 26 true rfl (by kernel_rfl) (by kernel_rfl) rfl (fun T X hS hk K hK=>?_) ?_
      ·have g4:=hk.old 4 rfl
       have hK:=hK _ X hS (Reg.Is.aj rfl) (fun _ _ _ h=>h)
       clear hk
       go_simp
       exact hK
      refine Reg.ah.guarded 13 26 true rfl (by kernel_rfl) (by kernel_rfl) rfl (fun T X hS hk K hK=>?_) ?_
      ·have g43:=hk.val 30 43 rfl
       have ZW:=hk.val 31 44 rfl
       have hK:=hK _ X hS (Reg.Is.aj rfl) (fun _ _ _ h=>h)
       clear hk
       go_simp
       exact hK
      refine Reg.ah.plain rfl (fun T X hS hk K hK=>?_) ?_
      ·have g26:=hk.val 13 26 rfl
       have YE:=hk.val 32 45 rfl
       have hK:=hK _ X hS (Reg.Is.aj rfl) (fun _ _ _ h=>h)
       clear hk
       go_simp
       exact hK
      exact Reg.ah.nil
     case iW=>
      intro u w1 hS hI
      have e0:u 0= .pointer (some ⟨rb,0,none⟩):=(hI 0 (by decide)).val rfl
      have e1:u 1= .pointer (some ⟨rb,0,none⟩):=(hI 1 (by decide)).val rfl
      have e2:u 2= .pointer (some ⟨rb,0,none⟩):=(hI 2 (by decide)).val rfl
      have e3:u 3= .slice (some ⟨x,ox,none⟩) l.length cap:=(hI 3 (by decide)).val rfl
      have e4:u 4= .int .i64 l.length:=(hI 4 (by decide)).val rfl
      have e5:u 5= .pointer (some ⟨rb,0,none⟩):=(hI 5 (by decide)).val rfl
      have e6:u 6= .pointer (some ⟨rb,0,none⟩):=(hI 6 (by decide)).val rfl
      have e7:u 7= .pointer (some ⟨rb,1,none⟩):=(hI 7 (by decide)).val rfl
      have e8:u 8= .int .i64 p:=(hI 8 (by decide)).val rfl
      have e9:u 9= .int .i64 ((l.length:Int) - p):=(hI 9 (by decide)).val rfl
      have e10:u 10= .string s:=(hI 10 (by decide)).val rfl
      have e11:u 11= .int .i64 s.size:=(hI 11 (by decide)).val rfl
      have e12:u 12= .bool true:=(hI 12 (by decide)).val rfl
      have e13:u 13= .bool true:=(hI 13 (by decide)).val rfl
      have e14:u 14= .pointer (some ⟨rb,0,none⟩):=(hI 14 (by decide)).val rfl
      have e15:u 15= .pointer (some ⟨rb,0,none⟩):=(hI 15 (by decide)).val rfl
      have e16:u 16= .pointer (some ⟨rb,0,none⟩):=(hI 16 (by decide)).val rfl
      have e17:u 17= .slice (some ⟨x,ox,none⟩) l.length cap:=(hI 17 (by decide)).val rfl
      have e18:u 18= .pointer (some ⟨rb,0,none⟩):=(hI 18 (by decide)).val rfl
      have e19:u 19= .pointer (some ⟨rb,0,none⟩):=(hI 19 (by decide)).val rfl
      have e20:u 20= .pointer (some ⟨rb,1,none⟩):=(hI 20 (by decide)).val rfl
      have e21:u 21= .int .i64 p:=(hI 21 (by decide)).val rfl
      have e22:u 22= .pointer (some ⟨rb,0,none⟩):=(hI 22 (by decide)).val rfl
      have e23:u 23= .pointer (some ⟨rb,0,none⟩):=(hI 23 (by decide)).val rfl
      have e24:u 24= .pointer (some ⟨rb,1,none⟩):=(hI 24 (by decide)).val rfl
      have e25:u 25= .int .i64 p:=(hI 25 (by decide)).val rfl
      have e26:u 26= .string s:=(hI 26 (by decide)).val rfl
      have e27:u 27= .int .i64 s.size:=(hI 27 (by decide)).val rfl
      have e28:u 28= .int .i64 (pe:Nat):=(hI 28 (by decide)).val rfl
      have e29:u 29= .slice (some ⟨x,ox+p,none⟩) s.size (cap - p):=(hI 29 (by decide)).val rfl
      have e30:u 30= .string s:=(hI 30 (by decide)).val rfl
      have e31:u 31= .string s:=(hI 31 (by decide)).val rfl
      have e32:u 32= .bool true:=(hI 32 (by decide)).val rfl
      have e33:u 33= .bool true:=(hI 33 (by decide)).val rfl
      clear hI
      simp only [Reg.aK,Act.put,List.setIfInBounds_toArray,List.set_cons_succ,List.set_cons_zero,Nat.zero_add,Nat.reduceAdd,e0,e1,e2,e3,e4,e5,e6,e7,e8,e9,e10,e11,e12,e13,e14,e15,e16,e17,e18,e19,e20,e21,e22,e23,e24,e25,e26,e27,e28,e29,e30,e31,e32,e33]
      clear e0 e1 e2 e3 e4 e5 e6 e7 e8 e9 e10 e11 e12 e13 e14 e15 e16 e17 e18 e19 e20 e21 e22 e23 e24 e25 e26 e27 e28 e29 e30 e31 e32 e33
      have HZ:=Lib.hid hS
      clear hS
      go_wp2
      go_ret
      exact ⟨jA jK.out.symm,HR.out.next HZ.out,HC.out.step HZ.out (Nat.le_of_lt HR.out.lt)⟩
    ·have hmis:=TW.out hb
     have huq:=bg_no hb hdr
     have HMI:=Lib.hid hmis
     generalize dI ((l.drop p).take s.size)=tu at*
     have hss:(tu.toList==s.toList)=false:=by rw [sV];simpa using huq
     clear hb huq hdr hmis Xm TW
     go_wp2
     refine Reg.bI (fun X=>Below wr.heap.size wr X) (fun j=>([some (.pointer (some ⟨rb,0,none⟩)),some (.pointer (some ⟨rb,0,none⟩)),some (.pointer (some ⟨rb,0,none⟩)),some (.slice (some ⟨x,ox,none⟩) l.length cap),some (.int .i64 l.length),some (.pointer (some ⟨rb,0,none⟩)),some (.pointer (some ⟨rb,0,none⟩)),some (.pointer (some ⟨rb,1,none⟩)),some (.int .i64 p),some (.int .i64 ((l.length:Int) - p)),some (.string s),some (.int .i64 s.size),some (.bool true),some (.bool true),some (.pointer (some ⟨rb,0,none⟩)),some (.pointer (some ⟨rb,0,none⟩)),some (.pointer (some ⟨rb,0,none⟩)),some (.slice (some ⟨x,ox,none⟩) l.length cap),some (.pointer (some ⟨rb,0,none⟩)),some (.pointer (some ⟨rb,0,none⟩)),some (.pointer (some ⟨rb,1,none⟩)),some (.int .i64 p),some (.pointer (some ⟨rb,0,none⟩)),some (.pointer (some ⟨rb,0,none⟩)),some (.pointer (some ⟨rb,1,none⟩)),some (.int .i64 p),some (.string s),some (.int .i64 s.size),some (.int .i64 (pe:Nat)),some (.slice (some ⟨x,ox+p,none⟩) s.size (cap - p)),some (.string tu),some (.string s),some (.bool false),some (.bool false)]:List (Option Value)).getD j none) (fun _ _ _=>True) (by kernel_rfl) (by kernel_rfl) (by kernel_rfl) (by kernel_rfl) ?iY ?rsE ?iW
     case iY=>exact (Below.refl _ _).drew
     case rsE=>
      refine Reg.ah.plain rfl (fun T X hS hk K hK=>?_) ?_
      ·have g0:=hk.old 0 rfl
       have hK:=hK _ X hS (Reg.Is.aj rfl) (fun _ _ _ h=>h)
       clear hk
       go_simp
       exact hK
      refine Reg.ah.plain rfl (fun T X hS hk K hK=>?_) ?_
      ·have g13:=hk.val 0 13 rfl
       have hK:=hK _ X hS (Reg.Is.aj rfl) (fun _ _ _ h=>h)
       clear hk
       go_simp
       exact hK
      refine Reg.ah.plain rfl (fun T X hS hk K hK=>?_) ?_
      ·have g14:=hk.val 1 14 rfl
       have hK:=hK _ X hS (Reg.Is.aj rfl) (fun _ _ _ h=>h)
       clear hk
       go_simp
       exact hK
      refine Reg.ah.plain rfl (fun T X hS hk K hK=>?_) ?_
      ·have g15:=hk.val 2 15 rfl
       obtain ⟨e0,e1⟩:=HX.out X hS
       have hK:=hK _ X hS (Reg.Is.aj rfl) (fun _ _ _ h=>h)
       clear hk
       go_simp
       exact hK
      refine Reg.ah.plain rfl (fun T X hS hk K hK=>?_) ?_
      ·have g16:=hk.val 3 16 rfl
       have hK:=hK _ X hS (Reg.Is.aj rfl) (fun _ _ _ h=>h)
       clear hk
       go_simp
       exact hK
      refine Reg.ah.plain rfl (fun T X hS hk K hK=>?_) ?_
      ·have g0:=hk.old 0 rfl
       have hK:=hK _ X hS (Reg.Is.aj rfl) (fun _ _ _ h=>h)
       clear hk
       go_simp
       exact hK
      refine Reg.ah.plain rfl (fun T X hS hk K hK=>?_) ?_
      ·have g18:=hk.val 5 18 rfl
       have hK:=hK _ X hS (Reg.Is.aj rfl) (fun _ _ _ h=>h)
       clear hk
       go_simp
       exact hK
      refine Reg.ah.plain rfl (fun T X hS hk K hK=>?_) ?_
      ·have g19:=hk.val 6 19 rfl
       have hK:=hK _ X hS (Reg.Is.aj rfl) (fun _ _ _ h=>h)
       clear hk
       go_simp
       exact hK
      refine Reg.ah.plain rfl (fun T X hS hk K hK=>?_) ?_
      ·have g20:=hk.val 7 20 rfl
       obtain ⟨e0,e1⟩:=HX.out X hS
       have hK:=hK _ X hS (Reg.Is.aj rfl) (fun _ _ _ h=>h)
       clear hk
       go_simp
       exact hK
      refine Reg.ah.plain rfl (fun T X hS hk K hK=>?_) ?_
      ·have g17:=hk.val 4 17 rfl
       have g21:=hk.val 8 21 rfl
       have hK:=hK _ X hS (Reg.Is.aj rfl) (fun _ _ _ h=>h)
       clear hk
       go_simp
       exact hK
      refine Reg.ah.plain rfl (fun T X hS hk K hK=>?_) ?_
      ·have g4:=hk.old 4 rfl
       have hK:=hK _ X hS (Reg.Is.aj rfl) (fun _ _ _ h=>h)
       clear hk
       go_simp
       exact hK
      refine Reg.ah.plain rfl (fun T X hS hk K hK=>?_) ?_
      ·have g23:=hk.val 10 23 rfl
       have hK:=hK _ X hS (Reg.Is.aj rfl) (fun _ _ _ h=>h)
       clear hk
       go_simp
       exact hK
      refine Reg.ah.plain rfl (fun T X hS hk K hK=>?_) ?_
      ·have g22:=hk.val 9 22 rfl
       have g24:=hk.val 11 24 rfl
       have hK:=hK _ X hS (Reg.Is.aj rfl) (fun _ _ _ h=>h)
       clear hk
       go_simp
       exact hK
      refine Reg.ah.plain rfl (fun T X hS hk K hK=>?_) ?_
      ·have g25:=hk.val 12 25 rfl
       have hK:=hK _ X hS (Reg.Is.aj rfl) (fun _ _ _ h=>h)
       clear hk
       go_simp
       exact hK
      refine Reg.ah.guarded 13 26 true rfl (by kernel_rfl) (by kernel_rfl) rfl (fun T X hS hk K hK=>?_) ?_
      ·have g0:=hk.old 0 rfl
       have hK:=hK _ X hS (Reg.Is.aj rfl) (fun _ _ _ h=>h)
       clear hk
       go_simp
       exact hK
      refine Reg.ah.guarded 13 26 true rfl (by kernel_rfl) (by kernel_rfl) rfl (fun T X hS hk K hK=>?_) ?_
      ·have g27:=hk.val 14 27 rfl
       have hK:=hK _ X hS (Reg.Is.aj rfl) (fun _ _ _ h=>h)
       clear hk
       go_simp
       exact hK
      refine Reg.ah.guarded 13 26 true rfl (by kernel_rfl) (by kernel_rfl) rfl (fun T X hS hk K hK=>?_) ?_
      ·have g28:=hk.val 15 28 rfl
       have hK:=hK _ X hS (Reg.Is.aj rfl) (fun _ _ _ h=>h)
       clear hk
       go_simp
       exact hK
      refine Reg.ah.guarded 13 26 true rfl (by kernel_rfl) (by kernel_rfl) rfl (fun T X hS hk K hK=>?_) ?_
      ·have g29:=hk.val 16 29 rfl
       obtain ⟨e0,e1⟩:=HX.out X hS
       have hK:=hK _ X hS (Reg.Is.aj rfl) (fun _ _ _ h=>h)
       clear hk
       go_simp
       exact hK
      refine Reg.ah.guarded 13 26 true rfl (by kernel_rfl) (by kernel_rfl) rfl (fun T X hS hk K hK=>?_) ?_
      ·have g0:=hk.old 0 rfl
       have hK:=hK _ X hS (Reg.Is.aj rfl) (fun _ _ _ h=>h)
       clear hk
       go_simp
       exact hK
      refine Reg.ah.guarded 13 26 true rfl (by kernel_rfl) (by kernel_rfl) rfl (fun T X hS hk K hK=>?_) ?_
      ·have g31:=hk.val 18 31 rfl
       have hK:=hK _ X hS (Reg.Is.aj rfl) (fun _ _ _ h=>h)
       clear hk
       go_simp
       exact hK
      refine Reg.ah.guarded 13 26 true rfl (by kernel_rfl) (by kernel_rfl) rfl (fun T X hS hk K hK=>?_) ?_
      ·have g32:=hk.val 19 32 rfl
       have hK:=hK _ X hS (Reg.Is.aj rfl) (fun _ _ _ h=>h)
       clear hk
       go_simp
       exact hK
      refine Reg.ah.guarded 13 26 true rfl (by kernel_rfl) (by kernel_rfl) rfl (fun T X hS hk K hK=>?_) ?_
      ·have g33:=hk.val 20 33 rfl
       obtain ⟨e0,e1⟩:=HX.out X hS
       have hK:=hK _ X hS (Reg.Is.aj rfl) (fun _ _ _ h=>h)
       clear hk
       go_simp
       exact hK
      refine Reg.ah.guarded 13 26 true rfl (by kernel_rfl) (by kernel_rfl) rfl (fun T X hS hk K hK=>?_) ?_
      ·have g0:=hk.old 0 rfl
       have hK:=hK _ X hS (Reg.Is.aj rfl) (fun _ _ _ h=>h)
       clear hk
       go_simp
       exact hK
      refine Reg.ah.guarded 13 26 true rfl (by kernel_rfl) (by kernel_rfl) rfl (fun T X hS hk K hK=>?_) ?_
      ·have g35:=hk.val 22 35 rfl
       have hK:=hK _ X hS (Reg.Is.aj rfl) (fun _ _ _ h=>h)
       clear hk
       go_simp
       exact hK
      refine Reg.ah.guarded 13 26 true rfl (by kernel_rfl) (by kernel_rfl) rfl (fun T X hS hk K hK=>?_) ?_
      ·have g36:=hk.val 23 36 rfl
       have hK:=hK _ X hS (Reg.Is.aj rfl) (fun _ _ _ h=>h)
       clear hk
       go_simp
       exact hK
      refine Reg.ah.guarded 13 26 true rfl (by kernel_rfl) (by kernel_rfl) rfl (fun T X hS hk K hK=>?_) ?_
      ·have g37:=hk.val 24 37 rfl
       obtain ⟨e0,e1⟩:=HX.out X hS
       have hK:=hK _ X hS (Reg.Is.aj rfl) (fun _ _ _ h=>h)
       clear hk
       go_simp
       exact hK
      refine Reg.ah.guarded 13 26 true rfl (by kernel_rfl) (by kernel_rfl) rfl (fun T X hS hk K hK=>?_) ?_
      ·have g4:=hk.old 4 rfl
       have hK:=hK _ X hS (Reg.Is.aj rfl) (fun _ _ _ h=>h)
       clear hk
       go_simp
       exact hK
      refine Reg.ah.guarded 13 26 true rfl (by kernel_rfl) (by kernel_rfl) rfl (fun T X hS hk K hK=>?_) ?_
      ·have g39:=hk.val 26 39 rfl
       have hK:=hK _ X hS (Reg.Is.aj rfl) (fun _ _ _ h=>h)
       clear hk
       go_simp
       exact hK
      refine Reg.ah.guarded 13 26 true rfl (by kernel_rfl) (by kernel_rfl) rfl (fun T X hS hk K hK=>?_) ?_
      ·have g38:=hk.val 25 38 rfl
       have g40:=hk.val 27 40 rfl
       have hK:=hK _ X hS (Reg.Is.aj rfl) (fun _ _ _ h=>h)
       clear hk
       go_simp
       exact hK
      refine Reg.ah.guarded 13 26 true rfl (by kernel_rfl) (by kernel_rfl) rfl (fun T X hS hk K hK=>?_) ?_
      ·have g30:=hk.val 17 30 rfl
       have g34:=hk.val 21 34 rfl
       have g41:=hk.val 28 41 rfl
       have hK:=hK _ X hS (Reg.Is.aj rfl) (fun _ _ _ h=>h)
       clear hk
       go_simp
       exact hK
      refine Reg.ah.guarded 13 26 true rfl (by kernel_rfl) (by kernel_rfl) rfl (fun T X hS hk K hK=>?_) ?_
      ·have g42:=hk.val 29 42 rfl
       have e4:=hcv.out X hS
       have hK:=hK _ X hS (Reg.Is.aj rfl) (fun _ _ _ h=>h)
       clear hk
       go_simp
       exact hK
      refine Reg.ah.guarded 13 26 true rfl (by kernel_rfl) (by kernel_rfl) rfl (fun T X hS hk K hK=>?_) ?_
      ·have g4:=hk.old 4 rfl
       have hK:=hK _ X hS (Reg.Is.aj rfl) (fun _ _ _ h=>h)
       clear hk
       go_simp
       exact hK
      refine Reg.ah.guarded 13 26 true rfl (by kernel_rfl) (by kernel_rfl) rfl (fun T X hS hk K hK=>?_) ?_
      ·have g43:=hk.val 30 43 rfl
       have ZW:=hk.val 31 44 rfl
       have hK:=hK _ X hS (Reg.Is.aj rfl) (fun _ _ _ h=>h)
       clear hk
       go_simp
       exact hK
      refine Reg.ah.plain rfl (fun T X hS hk K hK=>?_) ?_
      ·have g26:=hk.val 13 26 rfl
       have YE:=hk.val 32 45 rfl
       have hK:=hK _ X hS (Reg.Is.aj rfl) (fun _ _ _ h=>h)
       clear hk
       go_simp
       exact hK
      exact Reg.ah.nil
     case iW=>
      intro u w1 hS hI
      have e0:u 0= .pointer (some ⟨rb,0,none⟩):=(hI 0 (by decide)).val rfl
      have e1:u 1= .pointer (some ⟨rb,0,none⟩):=(hI 1 (by decide)).val rfl
      have e2:u 2= .pointer (some ⟨rb,0,none⟩):=(hI 2 (by decide)).val rfl
      have e3:u 3= .slice (some ⟨x,ox,none⟩) l.length cap:=(hI 3 (by decide)).val rfl
      have e4:u 4= .int .i64 l.length:=(hI 4 (by decide)).val rfl
      have e5:u 5= .pointer (some ⟨rb,0,none⟩):=(hI 5 (by decide)).val rfl
      have e6:u 6= .pointer (some ⟨rb,0,none⟩):=(hI 6 (by decide)).val rfl
      have e7:u 7= .pointer (some ⟨rb,1,none⟩):=(hI 7 (by decide)).val rfl
      have e8:u 8= .int .i64 p:=(hI 8 (by decide)).val rfl
      have e9:u 9= .int .i64 ((l.length:Int) - p):=(hI 9 (by decide)).val rfl
      have e10:u 10= .string s:=(hI 10 (by decide)).val rfl
      have e11:u 11= .int .i64 s.size:=(hI 11 (by decide)).val rfl
      have e12:u 12= .bool true:=(hI 12 (by decide)).val rfl
      have e13:u 13= .bool true:=(hI 13 (by decide)).val rfl
      have e14:u 14= .pointer (some ⟨rb,0,none⟩):=(hI 14 (by decide)).val rfl
      have e15:u 15= .pointer (some ⟨rb,0,none⟩):=(hI 15 (by decide)).val rfl
      have e16:u 16= .pointer (some ⟨rb,0,none⟩):=(hI 16 (by decide)).val rfl
      have e17:u 17= .slice (some ⟨x,ox,none⟩) l.length cap:=(hI 17 (by decide)).val rfl
      have e18:u 18= .pointer (some ⟨rb,0,none⟩):=(hI 18 (by decide)).val rfl
      have e19:u 19= .pointer (some ⟨rb,0,none⟩):=(hI 19 (by decide)).val rfl
      have e20:u 20= .pointer (some ⟨rb,1,none⟩):=(hI 20 (by decide)).val rfl
      have e21:u 21= .int .i64 p:=(hI 21 (by decide)).val rfl
      have e22:u 22= .pointer (some ⟨rb,0,none⟩):=(hI 22 (by decide)).val rfl
      have e23:u 23= .pointer (some ⟨rb,0,none⟩):=(hI 23 (by decide)).val rfl
      have e24:u 24= .pointer (some ⟨rb,1,none⟩):=(hI 24 (by decide)).val rfl
      have e25:u 25= .int .i64 p:=(hI 25 (by decide)).val rfl
      have e26:u 26= .string s:=(hI 26 (by decide)).val rfl
      have e27:u 27= .int .i64 s.size:=(hI 27 (by decide)).val rfl
      have e28:u 28= .int .i64 (pe:Nat):=(hI 28 (by decide)).val rfl
      have e29:u 29= .slice (some ⟨x,ox+p,none⟩) s.size (cap - p):=(hI 29 (by decide)).val rfl
      have e30:u 30= .string tu:=(hI 30 (by decide)).val rfl
      have e31:u 31= .string s:=(hI 31 (by decide)).val rfl
      have e32:u 32= .bool false:=(hI 32 (by decide)).val rfl
      have e33:u 33= .bool false:=(hI 33 (by decide)).val rfl
      clear hI
      simp only [Reg.aK,Act.put,List.setIfInBounds_toArray,List.set_cons_succ,List.set_cons_zero,Nat.zero_add,Nat.reduceAdd,e0,e1,e2,e3,e4,e5,e6,e7,e8,e9,e10,e11,e12,e13,e14,e15,e16,e17,e18,e19,e20,e21,e22,e23,e24,e25,e26,e27,e28,e29,e30,e31,e32,e33]
      clear e0 e1 e2 e3 e4 e5 e6 e7 e8 e9 e10 e11 e12 e13 e14 e15 e16 e17 e18 e19 e20 e21 e22 e23 e24 e25 e26 e27 e28 e29 e30 e31 e32 e33
      have HZ:=Lib.hid hS
      have Tn:=(hS.block g (lt_of_heap HG.out)).trans HG.out
      have xq:=Lib.hid Tn
      clear hS Tn
      go_wp2
      go_roundw
      case rel=>exact ⟨j+1,by omega,HMI.out,by go_num,HR.out.next HZ.out,HC.out.step HZ.out (Nat.le_of_lt HR.out.lt),xq.out⟩
      case measure=>simp [intOf];omega
   ·rw [List.length_drop] at hfit
    obtain ⟨aa,cap,rfl⟩:=HR.out.shape
    have HMI:=Lib.hid (TW.out fun hb=>hfit (by have:=(Zw hb).1;rwa [List.length_drop] at this))
    have hwr:IntKind.i64.wrap ((l.length:Int) - (p:Int))=(l.length:Int) - (p:Int):=by rw [IntKind.wrap_i64];omega
    have aai: ¬(s.size:Int)≤(l.length:Int) - (p:Int):=by omega
    have hdec:decide ((s.size:Int)≤(l.length:Int) - (p:Int))=false:=by simpa using aai
    clear Xm TW
    go_wp2
    refine Reg.bI (fun X=>Below wr.heap.size wr X) (fun j=>([some (.pointer (some ⟨rb,0,none⟩)),some (.pointer (some ⟨rb,0,none⟩)),some (.pointer (some ⟨rb,0,none⟩)),some (.slice aa l.length cap),some (.int .i64 l.length),some (.pointer (some ⟨rb,0,none⟩)),some (.pointer (some ⟨rb,0,none⟩)),some (.pointer (some ⟨rb,1,none⟩)),some (.int .i64 p),some (.int .i64 ((l.length:Int) - p)),some (.string s),some (.int .i64 s.size),some (.bool false),some (.bool false),some undef,some undef,some undef,some undef,some undef,some undef,some undef,some undef,some undef,some undef,some undef,some undef,some undef,some undef,some undef,some undef,some undef,some undef,some undef,some (.bool false)]:List (Option Value)).getD j none) (fun _ _ _=>True) (by kernel_rfl) (by kernel_rfl) (by kernel_rfl) (by kernel_rfl) ?iY ?rsE ?iW
    case iY=>exact (Below.refl _ _).drew
    case rsE=>
     refine Reg.ah.plain rfl (fun T X hS hk K hK=>?_) ?_
     ·have g0:=hk.old 0 rfl
      have hK:=hK _ X hS (Reg.Is.aj rfl) (fun _ _ _ h=>h)
      clear hk
      go_simp
      exact hK
     refine Reg.ah.plain rfl (fun T X hS hk K hK=>?_) ?_
     ·have g13:=hk.val 0 13 rfl
      have hK:=hK _ X hS (Reg.Is.aj rfl) (fun _ _ _ h=>h)
      clear hk
      go_simp
      exact hK
     refine Reg.ah.plain rfl (fun T X hS hk K hK=>?_) ?_
     ·have g14:=hk.val 1 14 rfl
      have hK:=hK _ X hS (Reg.Is.aj rfl) (fun _ _ _ h=>h)
      clear hk
      go_simp
      exact hK
     refine Reg.ah.plain rfl (fun T X hS hk K hK=>?_) ?_
     ·have g15:=hk.val 2 15 rfl
      obtain ⟨e0,e1⟩:=HX.out X hS
      have hK:=hK _ X hS (Reg.Is.aj rfl) (fun _ _ _ h=>h)
      clear hk
      go_simp
      exact hK
     refine Reg.ah.plain rfl (fun T X hS hk K hK=>?_) ?_
     ·have g16:=hk.val 3 16 rfl
      have hK:=hK _ X hS (Reg.Is.aj rfl) (fun _ _ _ h=>h)
      clear hk
      go_simp
      exact hK
     refine Reg.ah.plain rfl (fun T X hS hk K hK=>?_) ?_
     ·have g0:=hk.old 0 rfl
      have hK:=hK _ X hS (Reg.Is.aj rfl) (fun _ _ _ h=>h)
      clear hk
      go_simp
      exact hK
     refine Reg.ah.plain rfl (fun T X hS hk K hK=>?_) ?_
     ·have g18:=hk.val 5 18 rfl
      have hK:=hK _ X hS (Reg.Is.aj rfl) (fun _ _ _ h=>h)
      clear hk
      go_simp
      exact hK
     refine Reg.ah.plain rfl (fun T X hS hk K hK=>?_) ?_
     ·have g19:=hk.val 6 19 rfl
      have hK:=hK _ X hS (Reg.Is.aj rfl) (fun _ _ _ h=>h)
      clear hk
      go_simp
      exact hK
     refine Reg.ah.plain rfl (fun T X hS hk K hK=>?_) ?_
     ·have g20:=hk.val 7 20 rfl
      obtain ⟨e0,e1⟩:=HX.out X hS
      have hK:=hK _ X hS (Reg.Is.aj rfl) (fun _ _ _ h=>h)
      clear hk
      go_simp
      exact hK
     refine Reg.ah.plain rfl (fun T X hS hk K hK=>?_) ?_
     ·have g17:=hk.val 4 17 rfl
      have g21:=hk.val 8 21 rfl
      have hK:=hK _ X hS (Reg.Is.aj rfl) (fun _ _ _ h=>h)
      clear hk
      go_simp
      exact hK
     refine Reg.ah.plain rfl (fun T X hS hk K hK=>?_) ?_
     ·have g4:=hk.old 4 rfl
      have hK:=hK _ X hS (Reg.Is.aj rfl) (fun _ _ _ h=>h)
      clear hk
      go_simp
      exact hK
     refine Reg.ah.plain rfl (fun T X hS hk K hK=>?_) ?_
     ·have g23:=hk.val 10 23 rfl
      have hK:=hK _ X hS (Reg.Is.aj rfl) (fun _ _ _ h=>h)
      clear hk
      go_simp
      exact hK
     refine Reg.ah.plain rfl (fun T X hS hk K hK=>?_) ?_
     ·have g22:=hk.val 9 22 rfl
      have g24:=hk.val 11 24 rfl
      have hK:=hK _ X hS (Reg.Is.aj rfl) (fun _ _ _ h=>h)
      clear hk
      go_simp
      exact hK
     refine Reg.ah.plain rfl (fun T X hS hk K hK=>?_) ?_
     ·have g25:=hk.val 12 25 rfl
      have hK:=hK _ X hS (Reg.Is.aj rfl) (fun _ _ _ h=>h)
      clear hk
      go_simp
      exact hK
     refine Reg.ah.passed 13 26 false rfl (by kernel_rfl) (by kernel_rfl) rfl rfl ?_
     refine Reg.ah.passed 13 26 false rfl (by kernel_rfl) (by kernel_rfl) rfl rfl ?_
     refine Reg.ah.passed 13 26 false rfl (by kernel_rfl) (by kernel_rfl) rfl rfl ?_
     refine Reg.ah.passed 13 26 false rfl (by kernel_rfl) (by kernel_rfl) rfl rfl ?_
     refine Reg.ah.passed 13 26 false rfl (by kernel_rfl) (by kernel_rfl) rfl rfl ?_
     refine Reg.ah.passed 13 26 false rfl (by kernel_rfl) (by kernel_rfl) rfl rfl ?_
     refine Reg.ah.passed 13 26 false rfl (by kernel_rfl) (by kernel_rfl) rfl rfl ?_
     refine Reg.ah.passed 13 26 false rfl (by kernel_rfl) (by kernel_rfl) rfl rfl ?_
     refine Reg.ah.passed 13 26 false rfl (by kernel_rfl) (by kernel_rfl) rfl rfl ?_
     refine Reg.ah.passed 13 26 false rfl (by kernel_rfl) (by kernel_rfl) rfl rfl ?_
     refine Reg.ah.passed 13 26 false rfl (by kernel_rfl) (by kernel_rfl) rfl rfl ?_
     refine Reg.ah.passed 13 26 false rfl (by kernel_rfl) (by kernel_rfl) rfl rfl ?_
     refine Reg.ah.passed 13 26 false rfl (by kernel_rfl) (by kernel_rfl) rfl rfl ?_
     refine Reg.ah.passed 13 26 false rfl (by kernel_rfl) (by kernel_rfl) rfl rfl ?_
     refine Reg.ah.passed 13 26 false rfl (by kernel_rfl) (by kernel_rfl) rfl rfl ?_
     refine Reg.ah.passed 13 26 false rfl (by kernel_rfl) (by kernel_rfl) rfl rfl ?_
     refine Reg.ah.passed 13 26 false rfl (by kernel_rfl) (by kernel_rfl) rfl rfl ?_
     refine Reg.ah.passed 13 26 false rfl (by kernel_rfl) (by kernel_rfl) rfl rfl ?_
     refine Reg.ah.passed 13 26 false rfl (by kernel_rfl) (by kernel_rfl) rfl rfl ?_
     refine Reg.ah.plain rfl (fun T X hS hk K hK=>?_) ?_
     ·have g26:=hk.val 13 26 rfl
      have YE:=hk.val 32 45 rfl
      have hK:=hK _ X hS (Reg.Is.aj rfl) (fun _ _ _ h=>h)
      clear hk
      go_simp
      exact hK
     exact Reg.ah.nil
    case iW=>
     intro u w1 hS hI
     have e0:u 0= .pointer (some ⟨rb,0,none⟩):=(hI 0 (by decide)).val rfl
     have e1:u 1= .pointer (some ⟨rb,0,none⟩):=(hI 1 (by decide)).val rfl
     have e2:u 2= .pointer (some ⟨rb,0,none⟩):=(hI 2 (by decide)).val rfl
     have e3:u 3= .slice aa l.length cap:=(hI 3 (by decide)).val rfl
     have e4:u 4= .int .i64 l.length:=(hI 4 (by decide)).val rfl
     have e5:u 5= .pointer (some ⟨rb,0,none⟩):=(hI 5 (by decide)).val rfl
     have e6:u 6= .pointer (some ⟨rb,0,none⟩):=(hI 6 (by decide)).val rfl
     have e7:u 7= .pointer (some ⟨rb,1,none⟩):=(hI 7 (by decide)).val rfl
     have e8:u 8= .int .i64 p:=(hI 8 (by decide)).val rfl
     have e9:u 9= .int .i64 ((l.length:Int) - p):=(hI 9 (by decide)).val rfl
     have e10:u 10= .string s:=(hI 10 (by decide)).val rfl
     have e11:u 11= .int .i64 s.size:=(hI 11 (by decide)).val rfl
     have e12:u 12= .bool false:=(hI 12 (by decide)).val rfl
     have e13:u 13= .bool false:=(hI 13 (by decide)).val rfl
     have e14:u 14=undef:=(hI 14 (by decide)).val rfl
     have e15:u 15=undef:=(hI 15 (by decide)).val rfl
     have e16:u 16=undef:=(hI 16 (by decide)).val rfl
     have e17:u 17=undef:=(hI 17 (by decide)).val rfl
     have e18:u 18=undef:=(hI 18 (by decide)).val rfl
     have e19:u 19=undef:=(hI 19 (by decide)).val rfl
     have e20:u 20=undef:=(hI 20 (by decide)).val rfl
     have e21:u 21=undef:=(hI 21 (by decide)).val rfl
     have e22:u 22=undef:=(hI 22 (by decide)).val rfl
     have e23:u 23=undef:=(hI 23 (by decide)).val rfl
     have e24:u 24=undef:=(hI 24 (by decide)).val rfl
     have e25:u 25=undef:=(hI 25 (by decide)).val rfl
     have e26:u 26=undef:=(hI 26 (by decide)).val rfl
     have e27:u 27=undef:=(hI 27 (by decide)).val rfl
     have e28:u 28=undef:=(hI 28 (by decide)).val rfl
     have e29:u 29=undef:=(hI 29 (by decide)).val rfl
     have e30:u 30=undef:=(hI 30 (by decide)).val rfl
     have e31:u 31=undef:=(hI 31 (by decide)).val rfl
     have e32:u 32=undef:=(hI 32 (by decide)).val rfl
     have e33:u 33= .bool false:=(hI 33 (by decide)).val rfl
     clear hI
     simp only [Reg.aK,Act.put,List.setIfInBounds_toArray,List.set_cons_succ,List.set_cons_zero,Nat.zero_add,Nat.reduceAdd,e0,e1,e2,e3,e4,e5,e6,e7,e8,e9,e10,e11,e12,e13,e14,e15,e16,e17,e18,e19,e20,e21,e22,e23,e24,e25,e26,e27,e28,e29,e30,e31,e32,e33]
     clear e0 e1 e2 e3 e4 e5 e6 e7 e8 e9 e10 e11 e12 e13 e14 e15 e16 e17 e18 e19 e20 e21 e22 e23 e24 e25 e26 e27 e28 e29 e30 e31 e32 e33
     have HZ:=Lib.hid hS
     have Tn:=(hS.block g (lt_of_heap HG.out)).trans HG.out
     have xq:=Lib.hid Tn
     clear hS Tn
     go_wp2
     go_roundw
     case rel=>exact ⟨j+1,by omega,HMI.out,by go_num,HR.out.next HZ.out,HC.out.step HZ.out (Nat.le_of_lt HR.out.lt),xq.out⟩
     case measure=>simp [intOf];omega
  ·obtain rfl:j=35:=by omega
   have hsg:sg=ak:=HD.out
   subst hsg
   go_wp2
   go_ret
   exact ⟨rfl,HR.out,HC.out⟩
end Go.Proofs.YtacfglopionkfaaGreatDoor
