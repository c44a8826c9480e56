import Derived.Test.YtacfglopionkfaaGreatDoorKPp
import Derived.Test.YtacfglopionkfaaGreatDoorKMc
namespace Go.Proofs.YtacfglopionkfaaGreatDoor
set_option maxHeartbeats 8000000
set_option maxRecDepth 100000
open Go.RowKit
theorem uD (B cb:Nat) (l:List Ins) (n:Int) (w:World) (h:aY B cb l w) (hBw:B≤w.heap.size) (hlen:l.length≤1000000):
  Calls Tryz.prog 132 #[.pointer (some ⟨cb,0,none⟩),.int .i64 n] w fun x w'=>x= .returned (.tuple #[])∧aY B cb (l++[lT n]) w'∧dS B w w':=by
 have HPU:=Lib.hid (gB B cb l (lT n) w h hBw (by omega))
 clear h
 go_enter Tryz.func132,Tryz.ntmps132
 go_wp2_with fail
 refine HPU.out.mono ?_
 rintro x w1 ⟨rfl,hg1,hc1⟩
 have HG:=Lib.hid hg1
 have HC:=Lib.hid hc1
 clear hg1 hc1
 go_wp2_with fail
 go_end0
 exact ⟨rfl,HG.out,HC.out⟩
theorem yK (t:Tr) (Jk:fF t) (B cb:Nat) (kv:Value) (l:List Ins) (w:World) (h:aY B cb l w) (hBw:B≤w.heap.size) (dA:t.Lay w (fun k=>k<B) kv) (hlen:l.length+(comp t 0).length≤1000000):
  Calls Tryz.prog 130 #[.pointer (some ⟨cb,0,none⟩),t.v kv] w fun x w'=>x= .returned (.tuple #[])∧aY B cb (l++(comp t l.length++[mV eX])) w'∧dS B w w':=by
 obtain ⟨ko,km,kc,rfl⟩:=dA.shape
 obtain ⟨pc,hpc⟩: ∃pc:Array Value,pc= #[.string t.op,.int .i64 t.val,.string t.nm,.int .i64 t.pos,.int .i64 t.aG,.slice ko km kc]:=⟨_,rfl⟩
 obtain ⟨W,hW⟩: ∃W,W=w.alloc (.cells pc 30):=⟨_,rfl⟩
 have fD:Hid (nO B cb w.heap.size w.heap.size w W pc 30 pc l W):=Lib.hid (by rw [hW];exact sH h hBw pc)
 have dR:Hid (W=w.alloc (.cells #[.string t.op,.int .i64 t.val,.string t.nm,.int .i64 t.pos,.int .i64 t.aG,.slice ko km kc] 30)):=Lib.hid (by rw [hW,hpc])
 have jQ:=Lib.hid hpc
 have hla:(comp t l.length).length=(comp t 0).length:=aW _ _ _
 have HIH:Hid (∀X,aY B cb l X→dS B w X→Calls Tryz.prog 96 #[.pointer (some ⟨cb,0,none⟩),t.v (.slice ko km kc)] X fun x w'=>x= .returned (.tuple #[])∧aY B cb (l++comp t l.length) w'∧dS B X w'):=Lib.hid (fun X hX hC=>Jk B cb _ _ X hX (Nat.le_trans hBw hC.bel.size) (dA.kept (fun k hk _=>hC.bel.block k hk) t _) hlen)
 have HPU:Hid (∀X,aY B cb (l++comp t l.length) X→B≤X.heap.size→Calls Tryz.prog 124 #[.pointer (some ⟨cb,0,none⟩),.agg (mV eX:Ins).cells.toArray] X fun x w'=>x= .returned (.int .i64 ((l++comp t l.length).length:Nat))∧aY B cb ((l++comp t l.length)++[mV eX]) w'∧dS B X w'):=Lib.hid (fun X hX hB=>gB B cb _ _ X hX hB (by rw [List.length_append,hla];omega))
 clear h dA hlen Jk hpc hW hla
 have hb1:=fD.out.b1
 rw [jQ.out] at hb1
 obtain ⟨c0,c1,c2,c3,c4,c5,hz1⟩:=aH hb1
 clear hb1
 unfold Tr.v at HIH⊢
 go_enter Tryz.func130,Tryz.ntmps130
 go_upto_region 1 with fail
 rw [←dR.out]
 go_wp2_with fail
 refine (HIH.out _ fD.out.co fD.out.ch).mono ?_
 rintro x w1 ⟨rfl,hg1,hc1⟩
 have dZ:=Lib.hid (fD.out.step hg1 hc1 (by decide) (by decide))
 clear hg1 hc1 c0 c1 c2 c3 c4 c5 hz1
 go_wp2_with fail
 refine (HPU.out _ dZ.out.co (Nat.le_trans hBw dZ.out.ch.bel.size)).mono ?_
 rintro x w2 ⟨rfl,hg1,hc1⟩
 have HS2:=Lib.hid (dZ.out.step hg1 hc1 (by decide) (by decide))
 clear hg1 hc1
 go_wp2_with fail
 go_end0
 exact ⟨rfl,by have:=HS2.out.co;rwa [List.append_assoc] at this,HS2.out.ch⟩
theorem P7 (op:ByteArray) (p g cap:Nat) (pc cur:Array Value) (k:Tr) (vk:Value) (ihk:fF k) (B cb x0 x1:Nat) (m:List Ins) (w:World) (h:aY B cb m w) (hBw:B≤w.heap.size) (hb0:w.heap[x0]? =some (.cells #[.pointer (some ⟨cb,0,none⟩)] 187 (0,0))) (hb1:w.heap[x1]? =some (.cells pc 30 (0,0)))
  (hpc:pc= #[.string op,.int .i64 0,.string ⟨#[]⟩,.int .i64 p,.int .i64 0,.slice (some ⟨g,0,none⟩) 3 cap]) (hgB:g<B) (hg:w.heap[g]? =some (.cells cur 30 (0,0))) (hk: ∀j u,(k.cells vk)[j]? =some u→cur[6+j]? =some u) (dA:k.Lay w (fun k=>k<B) vk) (hlen:m.length+(comp k 0).length≤1000000):
  Calls Tryz.prog 127 #[.pointer (some ⟨x0,0,none⟩),.pointer (some ⟨x1,0,none⟩)] w fun x w'=>x= .returned (.tuple #[])∧aY B cb (m++comp k m.length) w'∧dS B w w':=by
 have fD:Hid (nO B cb x0 x1 w w #[.pointer (some ⟨cb,0,none⟩)] 187 pc m w):=Lib.hid ⟨h,dS.refl B w,Nat.le_refl _,hb0,hb1⟩
 have jQ:=Lib.hid hpc
 have xq:=Lib.hid hgB
 have xI:=Lib.hid hg
 have SI:=Lib.hid hk
 have HIH:Hid (∀X,aY B cb m X→dS B w X→Calls Tryz.prog 96 #[.pointer (some ⟨cb,0,none⟩),.agg (k.cells vk).toArray] X fun x w'=>x= .returned (.tuple #[])∧aY B cb (m++comp k m.length) w'∧dS B X w'):=Lib.hid (fun X hX hC=>ihk B cb vk _ X hX (Nat.le_trans hBw hC.bel.size) (dA.kept (fun k hk _=>hC.bel.block k hk) k vk) hlen)
 have hz0:=aV hb0
 have hz1:=aV hb1
 clear h hb0 hb1 hpc hgB hg hk dA hlen ihk
 go_enter Tryz.func127,Tryz.ntmps127
 refine Reg.aJ (fun L u X=>nO B cb x0 x1 w w #[.pointer (some ⟨cb,0,none⟩)] 187 pc (if L 5=true then m++comp k m.length else m) X) (fun j=>([some (.pointer (some ⟨cb,0,none⟩)),some (.pointer (some ⟨x1,5,none⟩)),some (.slice (some ⟨g,0,none⟩) 3 cap),some (.pointer (some ⟨g,6,none⟩)),some (.agg (k.cells vk).toArray),some (.tuple #[])]:List (Option Value)).getD j none) (by kernel_rfl) (by kernel_rfl) (by kernel_rfl) (by kernel_rfl) ?iY ?rsE ?iW
 case iY=>exact fD.out.drew hBw
 case rsE=>
  refine Reg.au.plain rfl (fun L u T X hL hz hS hk K hK=>?_) ?_
  ·have g0:=hk.old 0 rfl
   have c0:=(Lib.cell_of_heap hS.b0 0).trans rfl
   have hK:=hK _ X hS (fun _ hx=>Option.some.inj hx)
   clear hk hz hL
   go_simp
   exact hK
  refine Reg.au.plain rfl (fun L u T X hL hz hS hk K hK=>?_) ?_
  ·have g1:=hk.old 1 rfl
   have hK:=hK _ X hS (fun _ hx=>Option.some.inj hx)
   clear hk hz hL
   go_simp
   exact hK
  refine Reg.au.plain rfl (fun L u T X hL hz hS hk K hK=>?_) ?_
  ·have g3:=hk.val 1 3 rfl
   have hb1:=hS.b1
   rw [jQ.out] at hb1
   obtain ⟨_,_,_,_,_,c5,_⟩:=aH hb1
   have hK:=hK _ X hS (fun _ hx=>Option.some.inj hx)
   clear hk hz hL hb1
   go_simp
   exact hK
  refine Reg.au.plain rfl (fun L u T X hL hz hS hk K hK=>?_) ?_
  ·have g4:=hk.val 2 4 rfl
   have hK:=hK _ X hS (fun _ hx=>Option.some.inj hx)
   clear hk hz hL
   go_simp
   exact hK
  refine Reg.au.plain rfl (fun L u T X hL hz hS hk K hK=>?_) ?_
  ·have g5:=hk.val 3 5 rfl
   refine bW 30 _ rfl g 6 (by simp [Act.eval,g5]) _ cur (k.cells vk) (0,0) _ ((hS.ch.bel.block g xq.out).trans xI.out) (SI.out) Tryz.underlying30 rfl (by rw [Tr.aT];exact dM) ?_
   exact hK _ X hS (fun _ hx=>Option.some.inj hx)
  refine Reg.au.plain rfl (fun L u T X hL hz hS hk K hK=>?_) ?_
  ·have g2:=hk.val 0 2 rfl
   have g6:=hk.val 4 6 rfl
   have hco:=hS.co
   rw [hL,if_neg (by decide)] at hco
   have hC:=HIH.out X hco hS.ch
   clear hk hz
   go_simp
   refine hC.mono ?_
   rintro x w' ⟨rfl,hg',hc'⟩
   refine hK _ w' ?_ (fun _ hx=>Option.some.inj hx)
   rw [Reg.upd_same,if_pos rfl]
   rw [hL,if_neg (by decide)] at hS
   exact hS.step hg' hc' (by decide) (by decide)
  exact Reg.au.nil
 case iW=>
  intro L u w1 hL hS hI
  have e0:=hI 0 (by decide) _ rfl
  have e1:=hI 1 (by decide) _ rfl
  have e2:=hI 2 (by decide) _ rfl
  have e3:=hI 3 (by decide) _ rfl
  have e4:=hI 4 (by decide) _ rfl
  have e5:=hI 5 (by decide) _ rfl
  clear hI
  simp only [Reg.aK,Act.put,List.setIfInBounds_toArray,List.set_cons_succ,List.set_cons_zero,Nat.zero_add,Nat.reduceAdd,e0,e1,e2,e3,e4,e5]
  clear e0 e1 e2 e3 e4 e5
  have hL5:=hL 5 (by decide)
  rw [hL5,if_pos rfl] at hS
  have dZ:=Lib.hid hS
  clear hS hL5 hL u L
  go_wp2_with fail
  go_end0
  exact ⟨rfl,dZ.out.co,dZ.out.ch⟩
theorem P6 (op:ByteArray) (p g cap:Nat) (pc cur:Array Value) (k:Tr) (vk:Value) (ihk:fF k) (B cb x0 x1:Nat) (m:List Ins) (w:World) (h:aY B cb m w) (hBw:B≤w.heap.size) (hb0:w.heap[x0]? =some (.cells #[.pointer (some ⟨cb,0,none⟩)] 187 (0,0))) (hb1:w.heap[x1]? =some (.cells pc 30 (0,0)))
  (hpc:pc= #[.string op,.int .i64 0,.string ⟨#[]⟩,.int .i64 p,.int .i64 0,.slice (some ⟨g,0,none⟩) 3 cap]) (hgB:g<B) (hg:w.heap[g]? =some (.cells cur 30 (0,0))) (hk: ∀j u,(k.cells vk)[j]? =some u→cur[12+j]? =some u) (dA:k.Lay w (fun k=>k<B) vk) (hlen:m.length+(comp k 0).length≤1000000):
  Calls Tryz.prog 128 #[.pointer (some ⟨x0,0,none⟩),.pointer (some ⟨x1,0,none⟩)] w fun x w'=>x= .returned (.tuple #[])∧aY B cb (m++comp k m.length) w'∧dS B w w':=by
 have fD:Hid (nO B cb x0 x1 w w #[.pointer (some ⟨cb,0,none⟩)] 187 pc m w):=Lib.hid ⟨h,dS.refl B w,Nat.le_refl _,hb0,hb1⟩
 have jQ:=Lib.hid hpc
 have xq:=Lib.hid hgB
 have xI:=Lib.hid hg
 have SI:=Lib.hid hk
 have HIH:Hid (∀X,aY B cb m X→dS B w X→Calls Tryz.prog 96 #[.pointer (some ⟨cb,0,none⟩),.agg (k.cells vk).toArray] X fun x w'=>x= .returned (.tuple #[])∧aY B cb (m++comp k m.length) w'∧dS B X w'):=Lib.hid (fun X hX hC=>ihk B cb vk _ X hX (Nat.le_trans hBw hC.bel.size) (dA.kept (fun k hk _=>hC.bel.block k hk) k vk) hlen)
 have hz0:=aV hb0
 have hz1:=aV hb1
 clear h hb0 hb1 hpc hgB hg hk dA hlen ihk
 go_enter Tryz.func128,Tryz.ntmps128
 refine Reg.aJ (fun L u X=>nO B cb x0 x1 w w #[.pointer (some ⟨cb,0,none⟩)] 187 pc (if L 5=true then m++comp k m.length else m) X) (fun j=>([some (.pointer (some ⟨cb,0,none⟩)),some (.pointer (some ⟨x1,5,none⟩)),some (.slice (some ⟨g,0,none⟩) 3 cap),some (.pointer (some ⟨g,12,none⟩)),some (.agg (k.cells vk).toArray),some (.tuple #[])]:List (Option Value)).getD j none) (by kernel_rfl) (by kernel_rfl) (by kernel_rfl) (by kernel_rfl) ?iY ?rsE ?iW
 case iY=>exact fD.out.drew hBw
 case rsE=>
  refine Reg.au.plain rfl (fun L u T X hL hz hS hk K hK=>?_) ?_
  ·have g0:=hk.old 0 rfl
   have c0:=(Lib.cell_of_heap hS.b0 0).trans rfl
   have hK:=hK _ X hS (fun _ hx=>Option.some.inj hx)
   clear hk hz hL
   go_simp
   exact hK
  refine Reg.au.plain rfl (fun L u T X hL hz hS hk K hK=>?_) ?_
  ·have g1:=hk.old 1 rfl
   have hK:=hK _ X hS (fun _ hx=>Option.some.inj hx)
   clear hk hz hL
   go_simp
   exact hK
  refine Reg.au.plain rfl (fun L u T X hL hz hS hk K hK=>?_) ?_
  ·have g3:=hk.val 1 3 rfl
   have hb1:=hS.b1
   rw [jQ.out] at hb1
   obtain ⟨_,_,_,_,_,c5,_⟩:=aH hb1
   have hK:=hK _ X hS (fun _ hx=>Option.some.inj hx)
   clear hk hz hL hb1
   go_simp
   exact hK
  refine Reg.au.plain rfl (fun L u T X hL hz hS hk K hK=>?_) ?_
  ·have g4:=hk.val 2 4 rfl
   have hK:=hK _ X hS (fun _ hx=>Option.some.inj hx)
   clear hk hz hL
   go_simp
   exact hK
  refine Reg.au.plain rfl (fun L u T X hL hz hS hk K hK=>?_) ?_
  ·have g5:=hk.val 3 5 rfl
   refine bW 30 _ rfl g 12 (by simp [Act.eval,g5]) _ cur (k.cells vk) (0,0) _ ((hS.ch.bel.block g xq.out).trans xI.out) (SI.out) Tryz.underlying30 rfl (by rw [Tr.aT];exact dM) ?_
   exact hK _ X hS (fun _ hx=>Option.some.inj hx)
  refine Reg.au.plain rfl (fun L u T X hL hz hS hk K hK=>?_) ?_
  ·have g2:=hk.val 0 2 rfl
   have g6:=hk.val 4 6 rfl
   have hco:=hS.co
   rw [hL,if_neg (by decide)] at hco
   have hC:=HIH.out X hco hS.ch
   clear hk hz
   go_simp
   refine hC.mono ?_
   rintro x w' ⟨rfl,hg',hc'⟩
   refine hK _ w' ?_ (fun _ hx=>Option.some.inj hx)
   rw [Reg.upd_same,if_pos rfl]
   rw [hL,if_neg (by decide)] at hS
   exact hS.step hg' hc' (by decide) (by decide)
  exact Reg.au.nil
 case iW=>
  intro L u w1 hL hS hI
  have e0:=hI 0 (by decide) _ rfl
  have e1:=hI 1 (by decide) _ rfl
  have e2:=hI 2 (by decide) _ rfl
  have e3:=hI 3 (by decide) _ rfl
  have e4:=hI 4 (by decide) _ rfl
  have e5:=hI 5 (by decide) _ rfl
  clear hI
  simp only [Reg.aK,Act.put,List.setIfInBounds_toArray,List.set_cons_succ,List.set_cons_zero,Nat.zero_add,Nat.reduceAdd,e0,e1,e2,e3,e4,e5]
  clear e0 e1 e2 e3 e4 e5
  have hL5:=hL 5 (by decide)
  rw [hL5,if_pos rfl] at hS
  have dZ:=Lib.hid hS
  clear hS hL5 hL u L
  go_wp2_with fail
  go_end0
  exact ⟨rfl,dZ.out.co,dZ.out.ch⟩
theorem P8 (op:ByteArray) (p g cap:Nat) (pc cur:Array Value) (k:Tr) (vk:Value) (ihk:fF k) (B cb x0 x1:Nat) (m:List Ins) (w:World) (h:aY B cb m w) (hBw:B≤w.heap.size) (hb0:w.heap[x0]? =some (.cells #[.pointer (some ⟨cb,0,none⟩)] 187 (0,0))) (hb1:w.heap[x1]? =some (.cells pc 30 (0,0)))
  (hpc:pc= #[.string op,.int .i64 0,.string ⟨#[]⟩,.int .i64 p,.int .i64 0,.slice (some ⟨g,0,none⟩) 2 cap]) (hgB:g<B) (hg:w.heap[g]? =some (.cells cur 30 (0,0))) (hk: ∀j u,(k.cells vk)[j]? =some u→cur[6+j]? =some u) (dA:k.Lay w (fun k=>k<B) vk) (hlen:m.length+(comp k 0).length≤1000000):
  Calls Tryz.prog 129 #[.pointer (some ⟨x0,0,none⟩),.pointer (some ⟨x1,0,none⟩)] w fun x w'=>x= .returned (.tuple #[])∧aY B cb (m++(comp k m.length++[mV eX])) w'∧dS B w w':=by
 have fD:Hid (nO B cb x0 x1 w w #[.pointer (some ⟨cb,0,none⟩)] 187 pc m w):=Lib.hid ⟨h,dS.refl B w,Nat.le_refl _,hb0,hb1⟩
 have jQ:=Lib.hid hpc
 have xq:=Lib.hid hgB
 have xI:=Lib.hid hg
 have SI:=Lib.hid hk
 have HIH:Hid (∀X,aY B cb m X→dS B w X→Calls Tryz.prog 130 #[.pointer (some ⟨cb,0,none⟩),.agg (k.cells vk).toArray] X fun x w'=>x= .returned (.tuple #[])∧aY B cb (m++(comp k m.length++[mV eX])) w'∧dS B X w'):=Lib.hid (fun X hX hC=>yK k ihk B cb vk _ X hX (Nat.le_trans hBw hC.bel.size) (dA.kept (fun k hk _=>hC.bel.block k hk) k vk) hlen)
 have hz0:=aV hb0
 have hz1:=aV hb1
 clear h hb0 hb1 hpc hgB hg hk dA hlen ihk
 go_enter Tryz.func129,Tryz.ntmps129
 refine Reg.aJ (fun L u X=>nO B cb x0 x1 w w #[.pointer (some ⟨cb,0,none⟩)] 187 pc (if L 5=true then m++(comp k m.length++[mV eX]) else m) X) (fun j=>([some (.pointer (some ⟨cb,0,none⟩)),some (.pointer (some ⟨x1,5,none⟩)),some (.slice (some ⟨g,0,none⟩) 2 cap),some (.pointer (some ⟨g,6,none⟩)),some (.agg (k.cells vk).toArray),some (.tuple #[])]:List (Option Value)).getD j none) (by kernel_rfl) (by kernel_rfl) (by kernel_rfl) (by kernel_rfl) ?iY ?rsE ?iW
 case iY=>exact fD.out.drew hBw
 case rsE=>
  refine Reg.au.plain rfl (fun L u T X hL hz hS hk K hK=>?_) ?_
  ·have g0:=hk.old 0 rfl
   have c0:=(Lib.cell_of_heap hS.b0 0).trans rfl
   have hK:=hK _ X hS (fun _ hx=>Option.some.inj hx)
   clear hk hz hL
   go_simp
   exact hK
  refine Reg.au.plain rfl (fun L u T X hL hz hS hk K hK=>?_) ?_
  ·have g1:=hk.old 1 rfl
   have hK:=hK _ X hS (fun _ hx=>Option.some.inj hx)
   clear hk hz hL
   go_simp
   exact hK
  refine Reg.au.plain rfl (fun L u T X hL hz hS hk K hK=>?_) ?_
  ·have g3:=hk.val 1 3 rfl
   have hb1:=hS.b1
   rw [jQ.out] at hb1
   obtain ⟨_,_,_,_,_,c5,_⟩:=aH hb1
   have hK:=hK _ X hS (fun _ hx=>Option.some.inj hx)
   clear hk hz hL hb1
   go_simp
   exact hK
  refine Reg.au.plain rfl (fun L u T X hL hz hS hk K hK=>?_) ?_
  ·have g4:=hk.val 2 4 rfl
   have hK:=hK _ X hS (fun _ hx=>Option.some.inj hx)
   clear hk hz hL
   go_simp
   exact hK
  refine Reg.au.plain rfl (fun L u T X hL hz hS hk K hK=>?_) ?_
  ·have g5:=hk.val 3 5 rfl
   refine bW 30 _ rfl g 6 (by simp [Act.eval,g5]) _ cur (k.cells vk) (0,0) _ ((hS.ch.bel.block g xq.out).trans xI.out) (SI.out) Tryz.underlying30 rfl (by rw [Tr.aT];exact dM) ?_
   exact hK _ X hS (fun _ hx=>Option.some.inj hx)
  refine Reg.au.plain rfl (fun L u T X hL hz hS hk K hK=>?_) ?_
  ·have g2:=hk.val 0 2 rfl
   have g6:=hk.val 4 6 rfl
   have hco:=hS.co
   rw [hL,if_neg (by decide)] at hco
   have hC:=HIH.out X hco hS.ch
   clear hk hz
   go_simp
   refine hC.mono ?_
   rintro x w' ⟨rfl,hg',hc'⟩
   refine hK _ w' ?_ (fun _ hx=>Option.some.inj hx)
   rw [Reg.upd_same,if_pos rfl]
   rw [hL,if_neg (by decide)] at hS
   exact hS.step hg' hc' (by decide) (by decide)
  exact Reg.au.nil
 case iW=>
  intro L u w1 hL hS hI
  have e0:=hI 0 (by decide) _ rfl
  have e1:=hI 1 (by decide) _ rfl
  have e2:=hI 2 (by decide) _ rfl
  have e3:=hI 3 (by decide) _ rfl
  have e4:=hI 4 (by decide) _ rfl
  have e5:=hI 5 (by decide) _ rfl
  clear hI
  simp only [Reg.aK,Act.put,List.setIfInBounds_toArray,List.set_cons_succ,List.set_cons_zero,Nat.zero_add,Nat.reduceAdd,e0,e1,e2,e3,e4,e5]
  clear e0 e1 e2 e3 e4 e5
  have hL5:=hL 5 (by decide)
  rw [hL5,if_pos rfl] at hS
  have dZ:=Lib.hid hS
  clear hS hL5 hL u L
  go_wp2_with fail
  go_end0
  exact ⟨rfl,dZ.out.co,dZ.out.ch⟩
theorem UO (op:ByteArray) (p g cap:Nat) (pc cur:Array Value) (k:Tr) (vk:Value) (ihk:fF k) (B cb x0 x1:Nat) (m:List Ins) (w:World) (h:aY B cb m w) (hBw:B≤w.heap.size) (hb0:w.heap[x0]? =some (.cells #[.pointer (some ⟨cb,0,none⟩)] 187 (0,0))) (hb1:w.heap[x1]? =some (.cells pc 30 (0,0)))
  (hpc:pc= #[.string op,.int .i64 0,.string ⟨#[]⟩,.int .i64 p,.int .i64 0,.slice (some ⟨g,0,none⟩) 2 cap]) (hgB:g<B) (hg:w.heap[g]? =some (.cells cur 30 (0,0))) (hk: ∀j u,(k.cells vk)[j]? =some u→cur[6+j]? =some u) (dA:k.Lay w (fun k=>k<B) vk) (hlen:m.length+(comp k 0).length≤1000000):
  Calls Tryz.prog 134 #[.pointer (some ⟨x0,0,none⟩),.pointer (some ⟨x1,0,none⟩)] w fun x w'=>x= .returned (.tuple #[])∧aY B cb (m++(comp k m.length++[mV eX])) w'∧dS B w w':=by
 have fD:Hid (nO B cb x0 x1 w w #[.pointer (some ⟨cb,0,none⟩)] 187 pc m w):=Lib.hid ⟨h,dS.refl B w,Nat.le_refl _,hb0,hb1⟩
 have jQ:=Lib.hid hpc
 have xq:=Lib.hid hgB
 have xI:=Lib.hid hg
 have SI:=Lib.hid hk
 have HIH:Hid (∀X,aY B cb m X→dS B w X→Calls Tryz.prog 130 #[.pointer (some ⟨cb,0,none⟩),.agg (k.cells vk).toArray] X fun x w'=>x= .returned (.tuple #[])∧aY B cb (m++(comp k m.length++[mV eX])) w'∧dS B X w'):=Lib.hid (fun X hX hC=>yK k ihk B cb vk _ X hX (Nat.le_trans hBw hC.bel.size) (dA.kept (fun k hk _=>hC.bel.block k hk) k vk) hlen)
 have hz0:=aV hb0
 have hz1:=aV hb1
 clear h hb0 hb1 hpc hgB hg hk dA hlen ihk
 go_enter Tryz.func134,Tryz.ntmps134
 refine Reg.aJ (fun L u X=>nO B cb x0 x1 w w #[.pointer (some ⟨cb,0,none⟩)] 187 pc (if L 5=true then m++(comp k m.length++[mV eX]) else m) X) (fun j=>([some (.pointer (some ⟨cb,0,none⟩)),some (.pointer (some ⟨x1,5,none⟩)),some (.slice (some ⟨g,0,none⟩) 2 cap),some (.pointer (some ⟨g,6,none⟩)),some (.agg (k.cells vk).toArray),some (.tuple #[])]:List (Option Value)).getD j none) (by kernel_rfl) (by kernel_rfl) (by kernel_rfl) (by kernel_rfl) ?iY ?rsE ?iW
 case iY=>exact fD.out.drew hBw
 case rsE=>
  refine Reg.au.plain rfl (fun L u T X hL hz hS hk K hK=>?_) ?_
  ·have g0:=hk.old 0 rfl
   have c0:=(Lib.cell_of_heap hS.b0 0).trans rfl
   have hK:=hK _ X hS (fun _ hx=>Option.some.inj hx)
   clear hk hz hL
   go_simp
   exact hK
  refine Reg.au.plain rfl (fun L u T X hL hz hS hk K hK=>?_) ?_
  ·have g1:=hk.old 1 rfl
   have hK:=hK _ X hS (fun _ hx=>Option.some.inj hx)
   clear hk hz hL
   go_simp
   exact hK
  refine Reg.au.plain rfl (fun L u T X hL hz hS hk K hK=>?_) ?_
  ·have g3:=hk.val 1 3 rfl
   have hb1:=hS.b1
   rw [jQ.out] at hb1
   obtain ⟨_,_,_,_,_,c5,_⟩:=aH hb1
   have hK:=hK _ X hS (fun _ hx=>Option.some.inj hx)
   clear hk hz hL hb1
   go_simp
   exact hK
  refine Reg.au.plain rfl (fun L u T X hL hz hS hk K hK=>?_) ?_
  ·have g4:=hk.val 2 4 rfl
   have hK:=hK _ X hS (fun _ hx=>Option.some.inj hx)
   clear hk hz hL
   go_simp
   exact hK
  refine Reg.au.plain rfl (fun L u T X hL hz hS hk K hK=>?_) ?_
  ·have g5:=hk.val 3 5 rfl
   refine bW 30 _ rfl g 6 (by simp [Act.eval,g5]) _ cur (k.cells vk) (0,0) _ ((hS.ch.bel.block g xq.out).trans xI.out) (SI.out) Tryz.underlying30 rfl (by rw [Tr.aT];exact dM) ?_
   exact hK _ X hS (fun _ hx=>Option.some.inj hx)
  refine Reg.au.plain rfl (fun L u T X hL hz hS hk K hK=>?_) ?_
  ·have g2:=hk.val 0 2 rfl
   have g6:=hk.val 4 6 rfl
   have hco:=hS.co
   rw [hL,if_neg (by decide)] at hco
   have hC:=HIH.out X hco hS.ch
   clear hk hz
   go_simp
   refine hC.mono ?_
   rintro x w' ⟨rfl,hg',hc'⟩
   refine hK _ w' ?_ (fun _ hx=>Option.some.inj hx)
   rw [Reg.upd_same,if_pos rfl]
   rw [hL,if_neg (by decide)] at hS
   exact hS.step hg' hc' (by decide) (by decide)
  exact Reg.au.nil
 case iW=>
  intro L u w1 hL hS hI
  have e0:=hI 0 (by decide) _ rfl
  have e1:=hI 1 (by decide) _ rfl
  have e2:=hI 2 (by decide) _ rfl
  have e3:=hI 3 (by decide) _ rfl
  have e4:=hI 4 (by decide) _ rfl
  have e5:=hI 5 (by decide) _ rfl
  clear hI
  simp only [Reg.aK,Act.put,List.setIfInBounds_toArray,List.set_cons_succ,List.set_cons_zero,Nat.zero_add,Nat.reduceAdd,e0,e1,e2,e3,e4,e5]
  clear e0 e1 e2 e3 e4 e5
  have hL5:=hL 5 (by decide)
  rw [hL5,if_pos rfl] at hS
  have dZ:=Lib.hid hS
  clear hS hL5 hL u L
  go_wp2_with fail
  go_end0
  exact ⟨rfl,dZ.out.co,dZ.out.ch⟩
theorem UQ (B cb x0:Nat) (m:List Ins) (w:World) (h:aY B cb m w) (hBw:B≤w.heap.size) (hb0:w.heap[x0]? =some (.cells #[.pointer (some ⟨cb,0,none⟩)] 187 (0,0))) (hlen:m.length≤1000000):
  Calls Tryz.prog 131 #[.pointer (some ⟨x0,0,none⟩)] w fun x w'=>x= .returned (.tuple #[])∧aY B cb (m++[lT 0]) w'∧dS B w w':=by
 have HN:=Lib.hid (uD B cb m 0 w h hBw hlen)
 have c0:w.cell? ⟨x0,0,none⟩=some (.pointer (some ⟨cb,0,none⟩)):=(Lib.cell_of_heap hb0 0).trans rfl
 have hz0:=aV hb0
 clear h hb0
 go_enter Tryz.func131,Tryz.ntmps131
 go_wp2_with fail
 refine HN.out.mono ?_
 rintro x w1 ⟨rfl,hg1,hc1⟩
 have HG:=Lib.hid hg1
 have HC:=Lib.hid hc1
 clear hg1 hc1
 go_wp2_with fail
 go_end0
 exact ⟨rfl,HG.out,HC.out⟩
theorem P5 (B cb x0:Nat) (m:List Ins) (w:World) (h:aY B cb m w) (hBw:B≤w.heap.size) (hb0:w.heap[x0]? =some (.cells #[.pointer (some ⟨cb,0,none⟩)] 187 (0,0))) (hlen:m.length≤1000000):
  Calls Tryz.prog 133 #[.pointer (some ⟨x0,0,none⟩)] w fun x w'=>x= .returned (.tuple #[])∧aY B cb (m++[lT 1]) w'∧dS B w w':=by
 have HN:=Lib.hid (uD B cb m 1 w h hBw hlen)
 have c0:w.cell? ⟨x0,0,none⟩=some (.pointer (some ⟨cb,0,none⟩)):=(Lib.cell_of_heap hb0 0).trans rfl
 have hz0:=aV hb0
 clear h hb0
 go_enter Tryz.func133,Tryz.ntmps133
 go_wp2_with fail
 refine HN.out.mono ?_
 rintro x w1 ⟨rfl,hg1,hc1⟩
 have HG:=Lib.hid hg1
 have HC:=Lib.hid hc1
 clear hg1 hc1
 go_wp2_with fail
 go_end0
 exact ⟨rfl,HG.out,HC.out⟩
theorem Hw (p:Nat) (a b c:Tr) (iha:fF a) (ihb:fF b) (ihc:fF c):fF (.cond iE p a b c):=by
 intro B cb kv l w h hBw dA hlen
 obtain ⟨va,vb,vc,hr,ha,hb,hc⟩:=dA
 have hr':RowOf w (fun k=>k<B) kv 3 (iF (k3 a b c) (v3 va vb vc) 3):=by rw [DX];exact hr
 obtain ⟨g,cap,cur,rfl,hcap,hgB,hg,hcl⟩:=hr'.kid
 have hka: ∀j u,(a.cells va)[j]? =some u→cur[0+j]? =some u:=hcl 0 (by omega)
 have hkb: ∀j u,(b.cells vb)[j]? =some u→cur[6+j]? =some u:=hcl 1 (by omega)
 have hkc: ∀j u,(c.cells vc)[j]? =some u→cur[12+j]? =some u:=hcl 2 (by omega)
 obtain ⟨A,hA⟩: ∃A,A=comp a l.length:=⟨_,rfl⟩
 obtain ⟨Y,hY⟩: ∃Y,Y=comp b (l.length+A.length+1):=⟨_,rfl⟩
 obtain ⟨N,hN⟩: ∃N,N=comp c (l.length+A.length+1+Y.length+1):=⟨_,rfl⟩
 have hco:comp (.cond iE p a b c) l.length=A++(qA (l.length+A.length+1+Y.length+1)::(Y++(eH (l.length+A.length+1+Y.length+1+N.length)::N))):=by
  rw [hA,hN,hY,hA];rfl
 have hla:A.length=(comp a 0).length:=by rw [hA];exact aW _ _ _
 have hlb:Y.length=(comp b 0).length:=by rw [hY];exact aW _ _ _
 have hlc:N.length=(comp c 0).length:=by rw [hN];exact aW _ _ _
 have hcl0:(comp (.cond iE p a b c) 0).length=(comp a 0).length+1+(comp b 0).length+1+(comp c 0).length:=by
  simp only [comp,mY,List.length_append,List.length_cons]
  rw [aW b _ 0,aW c _ 0]
  omega
 rw [hcl0] at hlen
 rw [hco]
 obtain ⟨pc,hpc⟩: ∃pc:Array Value,pc= #[.string ⟨#[63]⟩,.int .i64 0,.string ⟨#[]⟩,.int .i64 p,.int .i64 0,.slice (some ⟨g,0,none⟩) 3 cap]:=⟨_,rfl⟩
 obtain ⟨W,hW⟩: ∃W,W=vM w cb pc:=⟨_,rfl⟩
 have nR:Hid (nO B cb w.heap.size (w.heap.size+1) w W #[.pointer (some ⟨cb,0,none⟩)] 187 pc l W):=Lib.hid (by rw [hW];exact jO h hBw pc)
 have dR:Hid (W=(w.alloc (.cells #[.pointer (some ⟨cb,0,none⟩)] 187)).alloc (.cells #[.string ⟨#[63]⟩,.int .i64 0,.string ⟨#[]⟩,.int .i64 p,.int .i64 0,.slice (some ⟨g,0,none⟩) 3 cap] 30)):=Lib.hid (by rw [hW,hpc];rfl)
 have jQ:=Lib.hid hpc
 have xq:=Lib.hid hgB
 have xI:=Lib.hid hg
 have Oh:=Lib.hid hka
 have YP:Hid (∀X,nO B cb w.heap.size (w.heap.size+1) w W #[.pointer (some ⟨cb,0,none⟩)] 187 pc l X→Calls Tryz.prog 126 #[.pointer (some ⟨cb,0,none⟩),.agg (a.cells va).toArray,.func (.func 127) #[] #[.pointer (some ⟨w.heap.size,0,none⟩),.pointer (some ⟨w.heap.size+1,0,none⟩)],.func (.func 128) #[] #[.pointer (some ⟨w.heap.size,0,none⟩),.pointer (some ⟨w.heap.size+1,0,none⟩)]] X fun x w'=>x= .returned (.tuple #[])∧aY B cb (l++(A++(qA (l.length+A.length+1+Y.length+1)::(Y++(eH (l.length+A.length+1+Y.length+1+N.length)::N))))) w'∧dS B X w'):=Lib.hid (fun X hX=>by
  have Fg:=Nat.le_trans hBw hX.ch.bel.size
  refine qQ B cb l A Y N 127 128 #[.pointer (some ⟨w.heap.size,0,none⟩),.pointer (some ⟨w.heap.size+1,0,none⟩)] #[.pointer (some ⟨w.heap.size,0,none⟩),.pointer (some ⟨w.heap.size+1,0,none⟩)] a va X hX.co Fg ha.shape (fun Z=>enters_of Tryz.func127 (by kernel_rfl) rfl _ Z) (fun Z=>enters_of Tryz.func128 (by kernel_rfl) rfl _ Z) (by omega)
   (fun Z hZ hC=>?_) (fun Z i hZ hC=>?_) (fun Z m hm hZ hC=>?_)
  ·rw [hA]
   exact iha B cb va l Z hZ (Nat.le_trans Fg hC.bel.size) (ha.kept (fun k hk _=>(hX.ch.trans hC).bel.block k hk) a va) (by omega)
  ·have Dy:=hX.ch.trans hC
   have JB:=Nat.le_trans Fg hC.bel.size
   have hb0:=hC.blk hX.b0 (by decide) (by decide)
   have hb1:=hC.blk hX.b1 (by decide) (by decide)
   have Oa:=(Dy.bel.block g hgB).trans hg
   have hml:((l++A)++[i]).length=l.length+A.length+1:=by rw [List.length_append,List.length_append];rfl
   rw [hY, ←hml];exact P7 ⟨#[63]⟩ p g cap pc cur b vb ihb B cb w.heap.size (w.heap.size+1) _ Z hZ JB hb0 hb1 hpc hgB Oa hkb (hb.kept (fun k hk _=>Dy.bel.block k hk) b vb) (by omega)
  ·have Dy:=hX.ch.trans hC
   have JB:=Nat.le_trans Fg hC.bel.size
   have hb0:=hC.blk hX.b0 (by decide) (by decide)
   have hb1:=hC.blk hX.b1 (by decide) (by decide)
   have Oa:=(Dy.bel.block g hgB).trans hg
   have e:l.length+A.length+1+Y.length+1=m.length:=by omega
   rw [hN,e];exact P6 ⟨#[63]⟩ p g cap pc cur c vc ihc B cb w.heap.size (w.heap.size+1) _ Z hZ JB hb0 hb1 hpc hgB Oa hkc (hc.kept (fun k hk _=>Dy.bel.block k hk) c vc) (by omega))
 obtain ⟨_,_,_,_,_,_,hz1⟩:=aH (by have:=nR.out.b1;rw [jQ.out] at this;exact this)
 clear h hlen hpc hW hr hr' ha hka iha hb hkb ihb hc hkc ihc hcl hcl0 hla hA hY hN hco hgB hg hcap hlb hlc
 have d0:W.cell? ⟨w.heap.size,0,none⟩=some (.pointer (some ⟨cb,0,none⟩)):=(Lib.cell_of_heap nR.out.b0 0).trans rfl
 have hb1:=nR.out.b1
 rw [jQ.out] at hb1
 obtain ⟨c0,c1,c2,c3,c4,c5,_⟩:=aH hb1
 clear hb1
 show Calls Tryz.prog 96 #[.pointer (some ⟨cb,0,none⟩),.agg #[.string ⟨#[63]⟩,.int .i64 0,.string ⟨#[]⟩,.int .i64 p,.int .i64 0,.slice (some ⟨g,0,none⟩) 3 cap]] w _
 go_enter Tryz.func96,Tryz.ntmps96
 go_upto_region 4 with fail
 rw [←dR.out]
 go_wp2_with fail
 refine Reg.aJ (fun L u X=>nO B cb w.heap.size (w.heap.size+1) w W #[.pointer (some ⟨cb,0,none⟩)] 187 pc (if L 7=true then l++(A++(qA (l.length+A.length+1+Y.length+1)::(Y++(eH (l.length+A.length+1+Y.length+1+N.length)::N)))) else l) X) (fun j=>([some (.pointer (some ⟨cb,0,none⟩)),some (.pointer (some ⟨w.heap.size+1,5,none⟩)),some (.slice (some ⟨g,0,none⟩) 3 cap),some (.pointer (some ⟨g,0,none⟩)),some (.agg (a.cells va).toArray),some (.func (.func 127) #[] #[.pointer (some ⟨w.heap.size,0,none⟩),.pointer (some ⟨w.heap.size+1,0,none⟩)]),some (.func (.func 128) #[] #[.pointer (some ⟨w.heap.size,0,none⟩),.pointer (some ⟨w.heap.size+1,0,none⟩)]),some (.tuple #[])]:List (Option Value)).getD j none) (by kernel_rfl) (by kernel_rfl) (by kernel_rfl) (by kernel_rfl) ?iY ?rsE ?iW
 case iY=>exact nR.out.drew hBw
 case rsE=>
  refine Reg.au.plain rfl (fun L u T X hL hz hS hk K hK=>?_) ?_
  ·have g2:=hk.old 2 rfl
   have c0:=(Lib.cell_of_heap hS.b0 0).trans rfl
   have hK:=hK _ X hS (fun _ hx=>Option.some.inj hx)
   clear hk hz hL
   go_simp
   exact hK
  refine Reg.au.plain rfl (fun L u T X hL hz hS hk K hK=>?_) ?_
  ·have g3:=hk.old 3 rfl
   have hK:=hK _ X hS (fun _ hx=>Option.some.inj hx)
   clear hk hz hL
   go_simp
   exact hK
  refine Reg.au.plain rfl (fun L u T X hL hz hS hk K hK=>?_) ?_
  ·have g55:=hk.val 1 55 rfl
   have hb1:=hS.b1
   rw [jQ.out] at hb1
   obtain ⟨_,_,_,_,_,c5,_⟩:=aH hb1
   have hK:=hK _ X hS (fun _ hx=>Option.some.inj hx)
   clear hk hz hL hb1
   go_simp
   exact hK
  refine Reg.au.plain rfl (fun L u T X hL hz hS hk K hK=>?_) ?_
  ·have g56:=hk.val 2 56 rfl
   have hK:=hK _ X hS (fun _ hx=>Option.some.inj hx)
   clear hk hz hL
   go_simp
   exact hK
  refine Reg.au.plain rfl (fun L u T X hL hz hS hk K hK=>?_) ?_
  ·have g57:=hk.val 3 57 rfl
   refine bW 30 _ rfl g 0 (by simp [Act.eval,g57]) _ cur (a.cells va) (0,0) _ ((hS.ch.bel.block g xq.out).trans xI.out) (Oh.out) Tryz.underlying30 rfl (by rw [Tr.aT];exact dM) ?_
   exact hK _ X hS (fun _ hx=>Option.some.inj hx)
  refine Reg.au.plain rfl (fun L u T X hL hz hS hk K hK=>?_) ?_
  ·have g2:=hk.old 2 rfl
   have g3:=hk.old 3 rfl
   have hK:=hK _ X hS (fun _ hx=>Option.some.inj hx)
   clear hk hz hL
   go_simp
   exact hK
  refine Reg.au.plain rfl (fun L u T X hL hz hS hk K hK=>?_) ?_
  ·have g2:=hk.old 2 rfl
   have g3:=hk.old 3 rfl
   have hK:=hK _ X hS (fun _ hx=>Option.some.inj hx)
   clear hk hz hL
   go_simp
   exact hK
  refine Reg.au.plain rfl (fun L u T X hL hz hS hk K hK=>?_) ?_
  ·have g54:=hk.val 0 54 rfl
   have g58:=hk.val 4 58 rfl
   have g59:=hk.val 5 59 rfl
   have g60:=hk.val 6 60 rfl
   rw [hL,if_neg (by decide)] at hS
   have hC:=YP.out X hS
   clear hk hz
   go_simp
   refine hC.mono ?_
   rintro x w' ⟨rfl,hg',hc'⟩
   refine hK _ w' ?_ (fun _ hx=>Option.some.inj hx)
   rw [Reg.upd_same,if_pos rfl]
   exact hS.step hg' hc' (by decide) (by decide)
  exact Reg.au.nil
 case iW=>
  intro L u w1 hL hS hI
  have e0:=hI 0 (by decide) _ rfl
  have e1:=hI 1 (by decide) _ rfl
  have e2:=hI 2 (by decide) _ rfl
  have e3:=hI 3 (by decide) _ rfl
  have e4:=hI 4 (by decide) _ rfl
  have e5:=hI 5 (by decide) _ rfl
  have e6:=hI 6 (by decide) _ rfl
  have e7:=hI 7 (by decide) _ rfl
  clear hI
  simp only [Reg.aK,Act.put,List.setIfInBounds_toArray,List.set_cons_succ,List.set_cons_zero,Nat.zero_add,Nat.reduceAdd,e0,e1,e2,e3,e4,e5,e6,e7]
  clear e0 e1 e2 e3 e4 e5 e6 e7
  have hL7:=hL 7 (by decide)
  rw [hL7,if_pos rfl] at hS
  have dZ:=Lib.hid hS
  clear hS hL7 hL u L
  go_wp2_with fail
  go_end0
  exact ⟨rfl,dZ.out.co,dZ.out.ch⟩
theorem Lj (p:Nat) (a b:Tr) (iha:fF a) (ihb:fF b):fF (.bin fV p a b):=by
 intro B cb kv l w h hBw dA hlen
 obtain ⟨va,vb,hr,ha,hb⟩:=dA
 have hr':RowOf w (fun k=>k<B) kv 2 (iF (k2 a b) (v2 va vb) 2):=by rw [vS];exact hr
 obtain ⟨g,cap,cur,rfl,hcap,hgB,hg,hcl⟩:=hr'.kid
 have hka: ∀j u,(a.cells va)[j]? =some u→cur[0+j]? =some u:=hcl 0 (by omega)
 have hkb: ∀j u,(b.cells vb)[j]? =some u→cur[6+j]? =some u:=hcl 1 (by omega)
 obtain ⟨A,hA⟩: ∃A,A=comp a l.length:=⟨_,rfl⟩
 obtain ⟨Y,hY⟩: ∃Y,Y=comp b (l.length+A.length+1)++[mV eX]:=⟨_,rfl⟩
 obtain ⟨N,hN⟩: ∃N,N=[lT 0]:=⟨_,rfl⟩
 have hco:comp (.bin fV p a b) l.length=A++(qA (l.length+A.length+1+Y.length+1)::(Y++(eH (l.length+A.length+1+Y.length+1+N.length)::N))):=by
  rw [hN,hY]
  simp only [comp]
  rw [if_pos trivial, ←hA]
  simp only [jH,List.length_append,List.length_singleton,List.append_assoc,List.singleton_append]
  rfl
 have hla:A.length=(comp a 0).length:=by rw [hA];exact aW _ _ _
 have hlb:Y.length=(comp b 0).length+1:=by rw [hY,List.length_append,aW b _ 0];rfl
 have hlc:N.length=1:=by rw [hN];rfl
 have hcl0:(comp (.bin fV p a b) 0).length=(comp a 0).length+1+(comp b 0).length+3:=by
  simp only [comp]
  rw [if_pos trivial]
  simp only [jH,List.length_append,List.length_cons,List.length_nil]
  rw [aW b _ 0]
  omega
 rw [hcl0] at hlen
 rw [hco]
 obtain ⟨pc,hpc⟩: ∃pc:Array Value,pc= #[.string ⟨#[38,38]⟩,.int .i64 0,.string ⟨#[]⟩,.int .i64 p,.int .i64 0,.slice (some ⟨g,0,none⟩) 2 cap]:=⟨_,rfl⟩
 obtain ⟨W,hW⟩: ∃W,W=vM w cb pc:=⟨_,rfl⟩
 have nR:Hid (nO B cb w.heap.size (w.heap.size+1) w W #[.pointer (some ⟨cb,0,none⟩)] 187 pc l W):=Lib.hid (by rw [hW];exact jO h hBw pc)
 have dR:Hid (W=(w.alloc (.cells #[.pointer (some ⟨cb,0,none⟩)] 187)).alloc (.cells #[.string ⟨#[38,38]⟩,.int .i64 0,.string ⟨#[]⟩,.int .i64 p,.int .i64 0,.slice (some ⟨g,0,none⟩) 2 cap] 30)):=Lib.hid (by rw [hW,hpc];rfl)
 have jQ:=Lib.hid hpc
 have xq:=Lib.hid hgB
 have xI:=Lib.hid hg
 have Oh:=Lib.hid hka
 have YP:Hid (∀X,nO B cb w.heap.size (w.heap.size+1) w W #[.pointer (some ⟨cb,0,none⟩)] 187 pc l X→Calls Tryz.prog 126 #[.pointer (some ⟨cb,0,none⟩),.agg (a.cells va).toArray,.func (.func 129) #[] #[.pointer (some ⟨w.heap.size,0,none⟩),.pointer (some ⟨w.heap.size+1,0,none⟩)],.func (.func 131) #[] #[.pointer (some ⟨w.heap.size,0,none⟩)]] X fun x w'=>x= .returned (.tuple #[])∧aY B cb (l++(A++(qA (l.length+A.length+1+Y.length+1)::(Y++(eH (l.length+A.length+1+Y.length+1+N.length)::N))))) w'∧dS B X w'):=Lib.hid (fun X hX=>by
  have Fg:=Nat.le_trans hBw hX.ch.bel.size
  refine qQ B cb l A Y N 129 131 #[.pointer (some ⟨w.heap.size,0,none⟩),.pointer (some ⟨w.heap.size+1,0,none⟩)] #[.pointer (some ⟨w.heap.size,0,none⟩)] a va X hX.co Fg ha.shape (fun Z=>enters_of Tryz.func129 (by kernel_rfl) rfl _ Z) (fun Z=>enters_of Tryz.func131 (by kernel_rfl) rfl _ Z) (by omega)
   (fun Z hZ hC=>?_) (fun Z i hZ hC=>?_) (fun Z m hm hZ hC=>?_)
  ·rw [hA]
   exact iha B cb va l Z hZ (Nat.le_trans Fg hC.bel.size) (ha.kept (fun k hk _=>(hX.ch.trans hC).bel.block k hk) a va) (by omega)
  ·have Dy:=hX.ch.trans hC
   have JB:=Nat.le_trans Fg hC.bel.size
   have hb0:=hC.blk hX.b0 (by decide) (by decide)
   have hb1:=hC.blk hX.b1 (by decide) (by decide)
   have Oa:=(Dy.bel.block g hgB).trans hg
   have hml:((l++A)++[i]).length=l.length+A.length+1:=by rw [List.length_append,List.length_append];rfl
   rw [hY, ←hml];exact P8 ⟨#[38,38]⟩ p g cap pc cur b vb ihb B cb w.heap.size (w.heap.size+1) _ Z hZ JB hb0 hb1 hpc hgB Oa hkb (hb.kept (fun k hk _=>Dy.bel.block k hk) b vb) (by omega)
  ·have Dy:=hX.ch.trans hC
   have JB:=Nat.le_trans Fg hC.bel.size
   have hb0:=hC.blk hX.b0 (by decide) (by decide)
   have hb1:=hC.blk hX.b1 (by decide) (by decide)
   have Oa:=(Dy.bel.block g hgB).trans hg
   rw [hN];exact UQ B cb w.heap.size m Z hZ JB hb0 (by omega))
 obtain ⟨_,_,_,_,_,_,hz1⟩:=aH (by have:=nR.out.b1;rw [jQ.out] at this;exact this)
 clear h hlen hpc hW hr hr' ha hka iha hb hkb ihb hcl hcl0 hla hA hY hN hco hgB hg hcap hlb hlc
 have d0:W.cell? ⟨w.heap.size,0,none⟩=some (.pointer (some ⟨cb,0,none⟩)):=(Lib.cell_of_heap nR.out.b0 0).trans rfl
 have hb1:=nR.out.b1
 rw [jQ.out] at hb1
 obtain ⟨c0,c1,c2,c3,c4,c5,_⟩:=aH hb1
 clear hb1
 show Calls Tryz.prog 96 #[.pointer (some ⟨cb,0,none⟩),.agg #[.string ⟨#[38,38]⟩,.int .i64 0,.string ⟨#[]⟩,.int .i64 p,.int .i64 0,.slice (some ⟨g,0,none⟩) 2 cap]] w _
 go_enter Tryz.func96,Tryz.ntmps96
 go_upto_region 4 with fail
 rw [←dR.out]
 go_wp2_with fail
 refine Reg.aJ (fun L u X=>nO B cb w.heap.size (w.heap.size+1) w W #[.pointer (some ⟨cb,0,none⟩)] 187 pc (if L 7=true then l++(A++(qA (l.length+A.length+1+Y.length+1)::(Y++(eH (l.length+A.length+1+Y.length+1+N.length)::N)))) else l) X) (fun j=>([some (.pointer (some ⟨cb,0,none⟩)),some (.pointer (some ⟨w.heap.size+1,5,none⟩)),some (.slice (some ⟨g,0,none⟩) 2 cap),some (.pointer (some ⟨g,0,none⟩)),some (.agg (a.cells va).toArray),some (.func (.func 129) #[] #[.pointer (some ⟨w.heap.size,0,none⟩),.pointer (some ⟨w.heap.size+1,0,none⟩)]),some (.func (.func 131) #[] #[.pointer (some ⟨w.heap.size,0,none⟩)]),some (.tuple #[])]:List (Option Value)).getD j none) (by kernel_rfl) (by kernel_rfl) (by kernel_rfl) (by kernel_rfl) ?iY ?rsE ?iW
 case iY=>exact nR.out.drew hBw
 case rsE=>
  refine Reg.au.plain rfl (fun L u T X hL hz hS hk K hK=>?_) ?_
  ·have g2:=hk.old 2 rfl
   have c0:=(Lib.cell_of_heap hS.b0 0).trans rfl
   have hK:=hK _ X hS (fun _ hx=>Option.some.inj hx)
   clear hk hz hL
   go_simp
   exact hK
  refine Reg.au.plain rfl (fun L u T X hL hz hS hk K hK=>?_) ?_
  ·have g3:=hk.old 3 rfl
   have hK:=hK _ X hS (fun _ hx=>Option.some.inj hx)
   clear hk hz hL
   go_simp
   exact hK
  refine Reg.au.plain rfl (fun L u T X hL hz hS hk K hK=>?_) ?_
  ·have g67:=hk.val 1 67 rfl
   have hb1:=hS.b1
   rw [jQ.out] at hb1
   obtain ⟨_,_,_,_,_,c5,_⟩:=aH hb1
   have hK:=hK _ X hS (fun _ hx=>Option.some.inj hx)
   clear hk hz hL hb1
   go_simp
   exact hK
  refine Reg.au.plain rfl (fun L u T X hL hz hS hk K hK=>?_) ?_
  ·have g68:=hk.val 2 68 rfl
   have hK:=hK _ X hS (fun _ hx=>Option.some.inj hx)
   clear hk hz hL
   go_simp
   exact hK
  refine Reg.au.plain rfl (fun L u T X hL hz hS hk K hK=>?_) ?_
  ·have g69:=hk.val 3 69 rfl
   refine bW 30 _ rfl g 0 (by simp [Act.eval,g69]) _ cur (a.cells va) (0,0) _ ((hS.ch.bel.block g xq.out).trans xI.out) (Oh.out) Tryz.underlying30 rfl (by rw [Tr.aT];exact dM) ?_
   exact hK _ X hS (fun _ hx=>Option.some.inj hx)
  refine Reg.au.plain rfl (fun L u T X hL hz hS hk K hK=>?_) ?_
  ·have g2:=hk.old 2 rfl
   have g3:=hk.old 3 rfl
   have hK:=hK _ X hS (fun _ hx=>Option.some.inj hx)
   clear hk hz hL
   go_simp
   exact hK
  refine Reg.au.plain rfl (fun L u T X hL hz hS hk K hK=>?_) ?_
  ·have g2:=hk.old 2 rfl
   have hK:=hK _ X hS (fun _ hx=>Option.some.inj hx)
   clear hk hz hL
   go_simp
   exact hK
  refine Reg.au.plain rfl (fun L u T X hL hz hS hk K hK=>?_) ?_
  ·have g66:=hk.val 0 66 rfl
   have g70:=hk.val 4 70 rfl
   have g71:=hk.val 5 71 rfl
   have g72:=hk.val 6 72 rfl
   rw [hL,if_neg (by decide)] at hS
   have hC:=YP.out X hS
   clear hk hz
   go_simp
   refine hC.mono ?_
   rintro x w' ⟨rfl,hg',hc'⟩
   refine hK _ w' ?_ (fun _ hx=>Option.some.inj hx)
   rw [Reg.upd_same,if_pos rfl]
   exact hS.step hg' hc' (by decide) (by decide)
  exact Reg.au.nil
 case iW=>
  intro L u w1 hL hS hI
  have e0:=hI 0 (by decide) _ rfl
  have e1:=hI 1 (by decide) _ rfl
  have e2:=hI 2 (by decide) _ rfl
  have e3:=hI 3 (by decide) _ rfl
  have e4:=hI 4 (by decide) _ rfl
  have e5:=hI 5 (by decide) _ rfl
  have e6:=hI 6 (by decide) _ rfl
  have e7:=hI 7 (by decide) _ rfl
  clear hI
  simp only [Reg.aK,Act.put,List.setIfInBounds_toArray,List.set_cons_succ,List.set_cons_zero,Nat.zero_add,Nat.reduceAdd,e0,e1,e2,e3,e4,e5,e6,e7]
  clear e0 e1 e2 e3 e4 e5 e6 e7
  have hL7:=hL 7 (by decide)
  rw [hL7,if_pos rfl] at hS
  have dZ:=Lib.hid hS
  clear hS hL7 hL u L
  go_wp2_with fail
  go_end0
  exact ⟨rfl,dZ.out.co,dZ.out.ch⟩
theorem Pm (p:Nat) (a b:Tr) (iha:fF a) (ihb:fF b):fF (.bin jR p a b):=by
 intro B cb kv l w h hBw dA hlen
 obtain ⟨va,vb,hr,ha,hb⟩:=dA
 have hr':RowOf w (fun k=>k<B) kv 2 (iF (k2 a b) (v2 va vb) 2):=by rw [vS];exact hr
 obtain ⟨g,cap,cur,rfl,hcap,hgB,hg,hcl⟩:=hr'.kid
 have hka: ∀j u,(a.cells va)[j]? =some u→cur[0+j]? =some u:=hcl 0 (by omega)
 have hkb: ∀j u,(b.cells vb)[j]? =some u→cur[6+j]? =some u:=hcl 1 (by omega)
 obtain ⟨A,hA⟩: ∃A,A=comp a l.length:=⟨_,rfl⟩
 obtain ⟨Y,hY⟩: ∃Y,Y=[lT 1]:=⟨_,rfl⟩
 obtain ⟨N,hN⟩: ∃N,N=comp b (l.length+A.length+3)++[mV eX]:=⟨_,rfl⟩
 have hco:comp (.bin jR p a b) l.length=A++(qA (l.length+A.length+1+Y.length+1)::(Y++(eH (l.length+A.length+1+Y.length+1+N.length)::N))):=by
  rw [hN,hY]
  simp only [comp]
  rw [if_neg (by decide),if_pos trivial, ←hA]
  simp only [lK,List.length_append,List.length_singleton,List.singleton_append]
  rfl
 have hla:A.length=(comp a 0).length:=by rw [hA];exact aW _ _ _
 have hlb:N.length=(comp b 0).length+1:=by rw [hN,List.length_append,aW b _ 0];rfl
 have hlc:Y.length=1:=by rw [hY];rfl
 have hcl0:(comp (.bin jR p a b) 0).length=(comp a 0).length+3+(comp b 0).length+1:=by
  simp only [comp]
  rw [if_neg (by decide),if_pos trivial]
  simp only [lK,List.length_append,List.length_cons,List.length_nil]
  rw [aW b _ 0]
  omega
 rw [hcl0] at hlen
 rw [hco]
 obtain ⟨pc,hpc⟩: ∃pc:Array Value,pc= #[.string ⟨#[124,124]⟩,.int .i64 0,.string ⟨#[]⟩,.int .i64 p,.int .i64 0,.slice (some ⟨g,0,none⟩) 2 cap]:=⟨_,rfl⟩
 obtain ⟨W,hW⟩: ∃W,W=vM w cb pc:=⟨_,rfl⟩
 have nR:Hid (nO B cb w.heap.size (w.heap.size+1) w W #[.pointer (some ⟨cb,0,none⟩)] 187 pc l W):=Lib.hid (by rw [hW];exact jO h hBw pc)
 have dR:Hid (W=(w.alloc (.cells #[.pointer (some ⟨cb,0,none⟩)] 187)).alloc (.cells #[.string ⟨#[124,124]⟩,.int .i64 0,.string ⟨#[]⟩,.int .i64 p,.int .i64 0,.slice (some ⟨g,0,none⟩) 2 cap] 30)):=Lib.hid (by rw [hW,hpc];rfl)
 have jQ:=Lib.hid hpc
 have xq:=Lib.hid hgB
 have xI:=Lib.hid hg
 have Oh:=Lib.hid hka
 have YP:Hid (∀X,nO B cb w.heap.size (w.heap.size+1) w W #[.pointer (some ⟨cb,0,none⟩)] 187 pc l X→Calls Tryz.prog 126 #[.pointer (some ⟨cb,0,none⟩),.agg (a.cells va).toArray,.func (.func 133) #[] #[.pointer (some ⟨w.heap.size,0,none⟩)],.func (.func 134) #[] #[.pointer (some ⟨w.heap.size,0,none⟩),.pointer (some ⟨w.heap.size+1,0,none⟩)]] X fun x w'=>x= .returned (.tuple #[])∧aY B cb (l++(A++(qA (l.length+A.length+1+Y.length+1)::(Y++(eH (l.length+A.length+1+Y.length+1+N.length)::N))))) w'∧dS B X w'):=Lib.hid (fun X hX=>by
  have Fg:=Nat.le_trans hBw hX.ch.bel.size
  refine qQ B cb l A Y N 133 134 #[.pointer (some ⟨w.heap.size,0,none⟩)] #[.pointer (some ⟨w.heap.size,0,none⟩),.pointer (some ⟨w.heap.size+1,0,none⟩)] a va X hX.co Fg ha.shape (fun Z=>enters_of Tryz.func133 (by kernel_rfl) rfl _ Z) (fun Z=>enters_of Tryz.func134 (by kernel_rfl) rfl _ Z) (by omega)
   (fun Z hZ hC=>?_) (fun Z i hZ hC=>?_) (fun Z m hm hZ hC=>?_)
  ·rw [hA]
   exact iha B cb va l Z hZ (Nat.le_trans Fg hC.bel.size) (ha.kept (fun k hk _=>(hX.ch.trans hC).bel.block k hk) a va) (by omega)
  ·have Dy:=hX.ch.trans hC
   have JB:=Nat.le_trans Fg hC.bel.size
   have hb0:=hC.blk hX.b0 (by decide) (by decide)
   have hb1:=hC.blk hX.b1 (by decide) (by decide)
   have Oa:=(Dy.bel.block g hgB).trans hg
   have hml:((l++A)++[i]).length=l.length+A.length+1:=by rw [List.length_append,List.length_append];rfl
   rw [hY];exact P5 B cb w.heap.size _ Z hZ JB hb0 (by omega)
  ·have Dy:=hX.ch.trans hC
   have JB:=Nat.le_trans Fg hC.bel.size
   have hb0:=hC.blk hX.b0 (by decide) (by decide)
   have hb1:=hC.blk hX.b1 (by decide) (by decide)
   have Oa:=(Dy.bel.block g hgB).trans hg
   have e:l.length+A.length+3=m.length:=by omega
   rw [hN,e];exact UO ⟨#[124,124]⟩ p g cap pc cur b vb ihb B cb w.heap.size (w.heap.size+1) _ Z hZ JB hb0 hb1 hpc hgB Oa hkb (hb.kept (fun k hk _=>Dy.bel.block k hk) b vb) (by omega))
 obtain ⟨_,_,_,_,_,_,hz1⟩:=aH (by have:=nR.out.b1;rw [jQ.out] at this;exact this)
 clear h hlen hpc hW hr hr' ha hka iha hb hkb ihb hcl hcl0 hla hA hY hN hco hgB hg hcap hlb hlc
 have d0:W.cell? ⟨w.heap.size,0,none⟩=some (.pointer (some ⟨cb,0,none⟩)):=(Lib.cell_of_heap nR.out.b0 0).trans rfl
 have hb1:=nR.out.b1
 rw [jQ.out] at hb1
 obtain ⟨c0,c1,c2,c3,c4,c5,_⟩:=aH hb1
 clear hb1
 show Calls Tryz.prog 96 #[.pointer (some ⟨cb,0,none⟩),.agg #[.string ⟨#[124,124]⟩,.int .i64 0,.string ⟨#[]⟩,.int .i64 p,.int .i64 0,.slice (some ⟨g,0,none⟩) 2 cap]] w _
 go_enter Tryz.func96,Tryz.ntmps96
 go_upto_region 4 with fail
 rw [←dR.out]
 go_wp2_with fail
 refine Reg.aJ (fun L u X=>nO B cb w.heap.size (w.heap.size+1) w W #[.pointer (some ⟨cb,0,none⟩)] 187 pc (if L 7=true then l++(A++(qA (l.length+A.length+1+Y.length+1)::(Y++(eH (l.length+A.length+1+Y.length+1+N.length)::N)))) else l) X) (fun j=>([some (.pointer (some ⟨cb,0,none⟩)),some (.pointer (some ⟨w.heap.size+1,5,none⟩)),some (.slice (some ⟨g,0,none⟩) 2 cap),some (.pointer (some ⟨g,0,none⟩)),some (.agg (a.cells va).toArray),some (.func (.func 133) #[] #[.pointer (some ⟨w.heap.size,0,none⟩)]),some (.func (.func 134) #[] #[.pointer (some ⟨w.heap.size,0,none⟩),.pointer (some ⟨w.heap.size+1,0,none⟩)]),some (.tuple #[])]:List (Option Value)).getD j none) (by kernel_rfl) (by kernel_rfl) (by kernel_rfl) (by kernel_rfl) ?iY ?rsE ?iW
 case iY=>exact nR.out.drew hBw
 case rsE=>
  refine Reg.au.plain rfl (fun L u T X hL hz hS hk K hK=>?_) ?_
  ·have g2:=hk.old 2 rfl
   have c0:=(Lib.cell_of_heap hS.b0 0).trans rfl
   have hK:=hK _ X hS (fun _ hx=>Option.some.inj hx)
   clear hk hz hL
   go_simp
   exact hK
  refine Reg.au.plain rfl (fun L u T X hL hz hS hk K hK=>?_) ?_
  ·have g3:=hk.old 3 rfl
   have hK:=hK _ X hS (fun _ hx=>Option.some.inj hx)
   clear hk hz hL
   go_simp
   exact hK
  refine Reg.au.plain rfl (fun L u T X hL hz hS hk K hK=>?_) ?_
  ·have g79:=hk.val 1 79 rfl
   have hb1:=hS.b1
   rw [jQ.out] at hb1
   obtain ⟨_,_,_,_,_,c5,_⟩:=aH hb1
   have hK:=hK _ X hS (fun _ hx=>Option.some.inj hx)
   clear hk hz hL hb1
   go_simp
   exact hK
  refine Reg.au.plain rfl (fun L u T X hL hz hS hk K hK=>?_) ?_
  ·have g80:=hk.val 2 80 rfl
   have hK:=hK _ X hS (fun _ hx=>Option.some.inj hx)
   clear hk hz hL
   go_simp
   exact hK
  refine Reg.au.plain rfl (fun L u T X hL hz hS hk K hK=>?_) ?_
  ·have g81:=hk.val 3 81 rfl
   refine bW 30 _ rfl g 0 (by simp [Act.eval,g81]) _ cur (a.cells va) (0,0) _ ((hS.ch.bel.block g xq.out).trans xI.out) (Oh.out) Tryz.underlying30 rfl (by rw [Tr.aT];exact dM) ?_
   exact hK _ X hS (fun _ hx=>Option.some.inj hx)
  refine Reg.au.plain rfl (fun L u T X hL hz hS hk K hK=>?_) ?_
  ·have g2:=hk.old 2 rfl
   have hK:=hK _ X hS (fun _ hx=>Option.some.inj hx)
   clear hk hz hL
   go_simp
   exact hK
  refine Reg.au.plain rfl (fun L u T X hL hz hS hk K hK=>?_) ?_
  ·have g2:=hk.old 2 rfl
   have g3:=hk.old 3 rfl
   have hK:=hK _ X hS (fun _ hx=>Option.some.inj hx)
   clear hk hz hL
   go_simp
   exact hK
  refine Reg.au.plain rfl (fun L u T X hL hz hS hk K hK=>?_) ?_
  ·have g78:=hk.val 0 78 rfl
   have g82:=hk.val 4 82 rfl
   have g83:=hk.val 5 83 rfl
   have g84:=hk.val 6 84 rfl
   rw [hL,if_neg (by decide)] at hS
   have hC:=YP.out X hS
   clear hk hz
   go_simp
   refine hC.mono ?_
   rintro x w' ⟨rfl,hg',hc'⟩
   refine hK _ w' ?_ (fun _ hx=>Option.some.inj hx)
   rw [Reg.upd_same,if_pos rfl]
   exact hS.step hg' hc' (by decide) (by decide)
  exact Reg.au.nil
 case iW=>
  intro L u w1 hL hS hI
  have e0:=hI 0 (by decide) _ rfl
  have e1:=hI 1 (by decide) _ rfl
  have e2:=hI 2 (by decide) _ rfl
  have e3:=hI 3 (by decide) _ rfl
  have e4:=hI 4 (by decide) _ rfl
  have e5:=hI 5 (by decide) _ rfl
  have e6:=hI 6 (by decide) _ rfl
  have e7:=hI 7 (by decide) _ rfl
  clear hI
  simp only [Reg.aK,Act.put,List.setIfInBounds_toArray,List.set_cons_succ,List.set_cons_zero,Nat.zero_add,Nat.reduceAdd,e0,e1,e2,e3,e4,e5,e6,e7]
  clear e0 e1 e2 e3 e4 e5 e6 e7
  have hL7:=hL 7 (by decide)
  rw [hL7,if_pos rfl] at hS
  have dZ:=Lib.hid hS
  clear hS hL7 hL u L
  go_wp2_with fail
  go_end0
  exact ⟨rfl,dZ.out.co,dZ.out.ch⟩
theorem BI (s:ByteArray): ∀(R:List (List ByteArray)) (k:Nat),0<rowFrom s R k→s∈R.flatten
 | [],_,h=>by simp [rowFrom] at h
 | r::rs,k,h=>by
  unfold rowFrom at h
  by_cases c:r.any (fun x=>decide (x=s))=true
  ·obtain ⟨x,hx,e⟩:=List.any_eq_true.1 c
   simp only [decide_eq_true_eq] at e
   subst e
   simp [hx]
  ·rw [if_neg c] at h
   have:=BI s rs (k+1) h
   simp only [List.flatten_cons,List.mem_append]
   exact Or.inr this
theorem MG: ∀s∈bG.flatten,¬s=mO∧ ¬s=jk∧ ¬s=iE:=by decide
theorem Oy: ∀s∈WU,¬s=mO∧ ¬s=jk∧ ¬s=iE∧ ¬s=fV∧ ¬s=jR:=by decide
theorem MJ: ∀s∈aF,(¬s=mO∧ ¬s=jk)∧s.size≤3:=by decide
theorem gy: ∀t:Tr,t.Ops→fF t
 | .num n p,_=>Ld n p
 | .name s p,_=>Hu s p
 | .un op p a,h=>by
  obtain ⟨h0,h1,h2,h3,h4⟩:=Oy op h.1
  exact Pj op p a (gy a h.2) h0 h1 h2 h3 h4
 | .bin op p a b,h=>by
  obtain ⟨hs,ha,hb⟩:=h
  obtain ⟨h0,h1,h2⟩:=MG op (BI op bG 0 hs)
  by_cases h3:op=fV
  ·subst h3;exact Lj p a b (gy a ha) (gy b hb)
  ·by_cases h4:op=jR
   ·subst h4;exact Pm p a b (gy a ha) (gy b hb)
   ·exact Le op p a b (gy a ha) (gy b hb) h0 h1 h2 h3 h4
 | .cond op p a b c,h=>by
  obtain ⟨rfl,ha,hb,hc⟩:=h
  exact Hw p a b c (gy a ha) (gy b hb) (gy c hc)
 | .eF op s p q a,h=>by
  obtain ⟨_,h1,h2,ha⟩:=h
  obtain ⟨⟨g0,g1⟩,g2⟩:=MJ op h1
  exact Lh op s p q a (gy a ha) (by omega) h2.1 g0 g1
def jW (w:World) (c:Nat) (l:List Ins):Prop:= ∃v,w.heap[c]? =some (.cells #[v] 112 (0,0))∧w.ownsRow 0 156 6 v l.length (jL l)
theorem jW.below {w w':World} {c:Nat} {l:List Ins} (h:jW w c l) (hb:Below w.heap.size w w'):jW w' c l:=by
 obtain ⟨v,h1,h2⟩:=h
 exact ⟨v,jg h1 hb,uJ h2 hb⟩
theorem Hz {w:World} {B:Nat} {e:TypeId} {k:Nat} {v:Value} {n:Nat} {xs:List Value} (h:w.ownsRow B e k v n xs):w.ownsRow 0 e k v n xs:=by
 obtain ⟨h1,h2 | ⟨g,cap,cur,e,_,h3⟩⟩:=h
 ·exact ⟨h1,Or.inl h2⟩
 ·exact ⟨h1,Or.inr ⟨g,cap,cur,e,Nat.zero_le _,h3⟩⟩
theorem Ad (t:Tr) (kv:Value) (w:World) (hops:t.Ops) (dA:t.Lay w (fun k=>k<w.heap.size) kv) (hlen:(comp t 0).length≤1000000):
  Calls Tryz.prog 57 #[t.v kv] w fun x w'=> ∃v,x= .returned v∧w'.ownsRow 0 156 6 v (comp t 0).length (jL (comp t 0))∧Below w.heap.size w w':=by
 obtain ⟨ko,km,kc,rfl⟩:=dA.shape
 obtain ⟨W1,hW1⟩: ∃W1,W1=w.alloc (.cells #[.string t.op,.int .i64 t.val,.string t.nm,.int .i64 t.pos,.int .i64 t.aG,.slice ko km kc] 30):=⟨_,rfl⟩
 obtain ⟨W2,hW2⟩: ∃W2,W2=W1.alloc (.cells #[.slice none 0 0] 154):=⟨_,rfl⟩
 have hs1:W1.heap.size=w.heap.size+1:=by rw [hW1];simp
 have hb1:Below w.heap.size w W1:=by rw [hW1];exact (Below.refl _ _).alloc (Nat.le_refl _) _
 have hb2:Below w.heap.size w W2:=by rw [hW2];exact hb1.alloc (by omega) _
 have hp:W1.heap[w.heap.size]? =some (.cells #[.string t.op,.int .i64 t.val,.string t.nm,.int .i64 t.pos,.int .i64 t.aG,.slice ko km kc] 30 (0,0)):=by rw [hW1];exact dN w _
 have Df:=Lib.hid hp
 have HP2:Hid (W2.heap[w.heap.size]? =some (.cells #[.string t.op,.int .i64 t.val,.string t.nm,.int .i64 t.pos,.int .i64 t.aG,.slice ko km kc] 30 (0,0))):=Lib.hid (by rw [hW2];exact fO hp _)
 have hcb:W2.heap[w.heap.size+1]? =some (.cells #[.slice none 0 0] 154 (0,0)):=by rw [hW2, ←hs1];exact dN W1 _
 have hco:aY w.heap.size (w.heap.size+1) [] W2:=⟨Nat.le_succ _,_,hcb,rfl,Or.inl ⟨rfl,rfl⟩⟩
 have HPT:Hid (Calls Tryz.prog 96 #[.pointer (some ⟨w.heap.size+1,0,none⟩),t.v (.slice ko km kc)] W2 fun x w'=>x= .returned (.tuple #[])∧aY w.heap.size (w.heap.size+1) (comp t 0) w'∧dS w.heap.size W2 w'):=Lib.hid (gy t hops w.heap.size (w.heap.size+1) _ [] W2 hco hb2.size (dA.kept (fun k hk _=>hb2.block k hk) t _) (by simpa using hlen))
 have HB2:=Lib.hid hb2
 have HW1:=Lib.hid hW1
 have HW2:=Lib.hid hW2
 have dZ:=Lib.hid hs1
 clear hops dA hlen hb1 hb2 hp hcb hco hW1 hW2 hs1
 unfold Tr.v at HPT⊢
 go_enter Tryz.func57,Tryz.ntmps57
 go_upto_region 1 with fail
 rw [←HW1.out]
 go_upto_region 2 with fail
 rw [dZ.out]
 rw [←HW2.out]
 obtain ⟨c0,c1,c2,c3,c4,c5,hz1⟩:=aH HP2.out
 go_wp2_with fail
 refine HPT.out.mono ?_
 rintro x w3 ⟨rfl,⟨_,v,hv,hrow⟩,hc⟩
 obtain ⟨va,vc,rfl⟩:=dW hrow
 have HRW:=Lib.hid (Hz hrow)
 have Jm:=Lib.hid (HB2.out.trans hc.bel)
 obtain ⟨d0,_,hz2⟩:=bU hv
 clear hv hrow hc c0 c1 c2 c3 c4 c5 hz1
 go_wp2_with fail
 go_ret
 exact ⟨_,rfl,HRW.out,Jm.out⟩
theorem uz (E:Nat) (t:Tr) (w:World) (h:xO w E t) (hw:t.Wf) (hops:t.Ops) (hlen:(comp t 0).length≤1000000):
  Calls Tryz.prog 26 #[.pointer (some ⟨E,0,none⟩)] w fun x w'=>(∃c,x= .returned (.pointer (some ⟨c,0,none⟩))∧jW w' c (comp t 0))∧Below w.heap.size w w':=by
 have HT:=Lib.hid (KC E t w h hw)
 have hne:t.op.toList.isEmpty=false:=by have:=aX (l:=[]) hw.op;simpa using this
 have Gl:Hid (∀kv X,t.Lay X (fun k=>k<X.heap.size) kv→Calls Tryz.prog 57 #[t.v kv] X fun x w'=> ∃v,x= .returned v∧w'.ownsRow 0 156 6 v (comp t 0).length (jL (comp t 0))∧Below X.heap.size X w'):=Lib.hid (fun kv X hX=>Ad t kv X hops hX hlen)
 clear h hw hops hlen
 unfold Tr.v at HT Gl
 go_enter Tryz.func26,Tryz.ntmps26
 go_wp2_with fail
 refine HT.out.mono ?_
 rintro x w1 ⟨⟨kv,rfl,dA⟩,hb1⟩
 obtain ⟨ko,km,kc,rfl⟩:=dA.shape
 have HL:=Lib.hid dA
 have HB1:=Lib.hid hb1
 clear dA hb1
 obtain ⟨W2,hW2⟩: ∃W2,W2=w1.alloc (.cells #[.string ⟨#[]⟩,.int .i64 0,.string ⟨#[]⟩,.int .i64 0,.int .i64 0,.slice none 0 0] 30):=⟨_,rfl⟩
 obtain ⟨W3,hW3⟩: ∃W3,W3=W2.setRow w1.heap.size #[.string t.op,.int .i64 t.val,.string t.nm,.int .i64 t.pos,.int .i64 t.aG,.slice ko km kc]:=⟨_,rfl⟩
 have h2:W2.heap[w1.heap.size]? =some (.cells #[.string ⟨#[]⟩,.int .i64 0,.string ⟨#[]⟩,.int .i64 0,.int .i64 0,.slice none 0 0] 30 (0,0)):=by rw [hW2];exact dN w1 _
 have h3:W3.heap[w1.heap.size]? =some (.cells #[.string t.op,.int .i64 t.val,.string t.nm,.int .i64 t.pos,.int .i64 t.aG,.slice ko km kc] 30 (0,0)):=by rw [hW3];exact setRow_self h2 _
 have hb3:Below w1.heap.size w1 W3:=by rw [hW3];exact below_setRow (by rw [hW2];exact (Below.refl _ _).alloc (Nat.le_refl _) _) (Nat.le_refl _) _
 have HB3:=Lib.hid hb3
 have HP2:=Lib.hid h2
 have HP3:=Lib.hid h3
 have HW2:=Lib.hid hW2
 have HW3:=Lib.hid hW3
 have HCQ:Hid (Calls Tryz.prog 57 #[.agg #[.string t.op,.int .i64 t.val,.string t.nm,.int .i64 t.pos,.int .i64 t.aG,.slice ko km kc]] W3 fun x w'=> ∃v,x= .returned v∧w'.ownsRow 0 156 6 v (comp t 0).length (jL (comp t 0))∧Below W3.heap.size W3 w'):=Lib.hid (Gl.out _ W3 (Tr.Lay.mono (fun k _ hk=>hk) t _ (HL.out.kept (fun k _ hk=>hb3.block k hk) t _)))
 clear hb3 h2 h3 hW2 hW3
 go_upto_region 2 with (first | (refine aC rfl _ _ rfl rfl w1.heap.size t.op t.val t.nm t.pos t.aG (.slice ko km kc) rfl rfl rfl _ (by rw [←HW2.out];exact HP2.out) rfl ?_))
 rw [←HW2.out, ←HW3.out]
 obtain ⟨c0,c1,c2,c3,c4,c5,hz1⟩:=aH HP3.out
 go_wp2_with fail
 refine HCQ.out.mono ?_
 rintro x w4 ⟨v,rfl,hrow,hb4⟩
 obtain ⟨va,vc,rfl⟩:=dW hrow
 have HRW:=Lib.hid hrow
 have HB4:=Lib.hid hb4
 clear hrow hb4 c0 c1 c2 c3 c4 c5 hz1
 go_wp2_with fail
 go_ret
 have hb5:Below w4.heap.size w4 (w4.alloc (.cells #[.slice va (comp t 0).length vc] 112)):=(Below.refl _ _).alloc (Nat.le_refl _) _
 exact ⟨⟨_,rfl,_,dN w4 _,uJ HRW.out hb5⟩,HB1.out.trans ((HB3.out.trans ((HB4.out.mono HB3.out.size).trans (hb5.mono (Nat.le_trans HB3.out.size HB4.out.size)))).mono HB1.out.size)⟩
end Go.Proofs.YtacfglopionkfaaGreatDoor
