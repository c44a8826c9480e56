import Derived.Test.YtacfglopionkfaaGreatDoorKRc
namespace Go.Proofs.YtacfglopionkfaaGreatDoor
set_option maxHeartbeats 8000000
set_option maxRecDepth 100000
open Go.RowKit
theorem Dp.un {l:List Int} {bv:Value} {rb n lo b:Nat} {r:Rs} {y:Tr} {kv:Value} {w:World} (h:Dp l bv rb n lo r y kv w) (hb:w.heap[b]? =some (.cells #[.string y.op,.int .i64 y.val,.string y.nm,.int .i64 y.pos,.int .i64 y.aG,kv] 30)) (hlo:lo≤b) (op:ByteArray) (p:Nat):Dp l bv rb n lo (r.map (.un op p)) (.un op p y) (.slice (some ⟨b,0,none⟩) 1 1) w:=by
 cases r with
 | ok t nx=>
  obtain ⟨rfl,hi,hk⟩:=h
  exact ⟨rfl,⟨b,kv,rfl,hlo,hb,hi⟩,hk⟩
 | bad c q=>exact h
theorem MQ {l:List Int} {bv:Value} {rb n k:Nat} {w:World} (ih:Bh l bv rb n) {res:Rs} (hs:fB l k=⟨#[43]⟩) (hx:rd l n .iR (tok l (ay l k+1))=some res) (h:gU l bv rb k 0 0 w) (hk:k≤l.length):
  Calls Tryz.prog 147 #[.pointer (some ⟨rb,0,none⟩)] w fun e w'=>Ak l bv rb (n+1) w.heap.size (res.map (.un (⟨#[117]⟩++⟨#[43]⟩) (ay l k))) e w'∧Ch rb w w':=by
 have hrw:=h.lt
 have hll:=h.len
 have HS:=Lib.hid h.sl
 have yx:=Lib.hid h.ap
 have hsk:=bJ l k hk
 have hst:=gQ l k hk
 obtain ⟨W,hW⟩: ∃W,W=w.alloc dw:=⟨_,rfl⟩
 have HB0:Hid (Below w.heap.size w W):=Lib.hid (by rw [hW];exact (Below.refl _ _).alloc (Nat.le_refl _) _)
 have ql:Hid (Kp rb w W [(w.heap.size,dw)]):=Lib.hid (by rw [hW];exact Kp.start rb w hrw dw)
 have jK:=Lib.hid (fK (h.next HB0.out))
 have dR:=Lib.hid hW
 clear hW h
 obtain ⟨p,hpe⟩: ∃p,ay l k=p:=⟨_,rfl⟩
 rw [hpe] at jK hsk hst hx⊢
 rw [hs] at jK hst
 have hst1:p+1≤l.length:=hst
 clear hst hs
 have Js:=Lib.hid hpe
 clear hpe
 unfold dw at dR
 go_enter Tryz.func147,Tryz.ntmps147
 go_upto_region 1 with fail
 rw [←dR.out]
 go_wp2_with fail
 refine jK.out.mono ?_
 rintro x w1 ⟨rfl,hr1,hc1⟩
 have HR1:=Lib.hid hr1
 have K1:=Lib.hid (ql.out.next hrw hc1)
 clear hr1 hc1 jK
 obtain ⟨e0,e1,e2,_,_⟩:=HR1.out.cells
 have f1:=HR1.out.fr 1
 have HR2:Hid (gU l bv rb (p+1) 0 0 (w1.setCell ⟨rb,1,none⟩ (.int .i64 ((p:Int)+1)))):=Lib.hid (HR1.out.rD (p+1) (by omega))
 have K2:=Lib.hid (K1.out.next hrw (Ch.set (rb:=rb) w1 1 (.int .i64 ((p:Int)+1))))
 have Qs:Hid (w.heap.size<(w1.setCell ⟨rb,1,none⟩ (.int .i64 ((p:Int)+1))).heap.size):=Lib.hid (lt_of_heap K2.out.iJ)
 have JF:=Lib.hid (ih.iR (p+1) res _ hx HR2.out hst1)
 go_wp2_with fail
 refine JF.out.mono ?_
 rintro x w3 ⟨⟨y,oy,ny,rfl,hq3⟩,hc3⟩
 have K3:=Lib.hid (K2.out.next hrw hc3)
 have Jy:=Lib.hid hq3
 have K4:=Lib.hid (K3.out.add hrw (.cells #[.string y.op,.int .i64 y.val,.string y.nm,.int .i64 y.pos,.int .i64 y.aG,.slice oy ny ny] 30))
 have JI:=Lib.hid K4.out.qB
 have WX:=lt_of_heap K3.out.iJ
 unfold dw at JI
 clear hq3 hc3 JF e0 e1 e2 f1
 go_wp2_with (first | (refine aC rfl _ _ rfl rfl w.heap.size (⟨#[117]⟩++⟨#[43]⟩) 0 ⟨#[]⟩ p 0 (.slice (some ⟨w3.heap.size,0,none⟩) 1 1) rfl rfl rfl _ JI.out rfl ?_) | fail)
 have hC:=K4.out.ch.eY (Nat.le_refl _) hrw #[.string (⟨#[117]⟩++⟨#[43]⟩),.int .i64 0,.string ⟨#[]⟩,.int .i64 p,.int .i64 0,.slice (some ⟨w3.heap.size,0,none⟩) 1 1]
 have hO: ∀k',k'≠w.heap.size→((w3.alloc (.cells #[.string y.op,.int .i64 y.val,.string y.nm,.int .i64 y.pos,.int .i64 y.aG,.slice oy ny ny] 30)).setRow w.heap.size #[.string (⟨#[117]⟩++⟨#[43]⟩),.int .i64 0,.string ⟨#[]⟩,.int .i64 p,.int .i64 0,.slice (some ⟨w3.heap.size,0,none⟩) 1 1]).heap[k']? =(w3.alloc (.cells #[.string y.op,.int .i64 y.val,.string y.nm,.int .i64 y.pos,.int .i64 y.aG,.slice oy ny ny] 30)).heap[k']? :=fun k' hk'=>by
  show ((w3.alloc (.cells #[.string y.op,.int .i64 y.val,.string y.nm,.int .i64 y.pos,.int .i64 y.aG,.slice oy ny ny] 30)).heap.modify w.heap.size _)[k']? =_
  rw [Array.getElem?_modify,if_neg (fun e=>hk' e.symm)]
 have ZN:=Qs.out
 have hQ:Dp l bv rb (n+1) w.heap.size res y (.slice oy ny ny) ((w3.alloc (.cells #[.string y.op,.int .i64 y.val,.string y.nm,.int .i64 y.pos,.int .i64 y.aG,.slice oy ny ny] 30)).setRow w.heap.size #[.string (⟨#[117]⟩++⟨#[43]⟩),.int .i64 0,.string ⟨#[]⟩,.int .i64 p,.int .i64 0,.slice (some ⟨w3.heap.size,0,none⟩) 1 1]):=Jy.out.move ((hO _ (by omega)).trans (aB _ _ _ (by omega))) (mW HS.out yx.out hC) (fun k' hk' hs'=>(hO _ (by omega)).trans (aB _ _ _ hs')) (by omega) (Nat.le_succ _)
 exact bodyPost_ret (aI rfl _ _ w.heap.size _ rfl (setRow_self JI.out _) rfl) rfl ⟨⟨.un (⟨#[117]⟩++⟨#[43]⟩) p y,_,_,rfl,hQ.un ((hO _ (by omega)).trans (heap_alloc_last w3 _)) (by omega) (⟨#[117]⟩++⟨#[43]⟩) p⟩,hC⟩
theorem Jj {l:List Int} {bv:Value} {rb n k:Nat} {w:World} (ih:Bh l bv rb n) {res:Rs} (hs:fB l k=⟨#[45]⟩) (hx:rd l n .iR (tok l (ay l k+1))=some res) (h:gU l bv rb k 0 0 w) (hk:k≤l.length):
  Calls Tryz.prog 147 #[.pointer (some ⟨rb,0,none⟩)] w fun e w'=>Ak l bv rb (n+1) w.heap.size (res.map (.un (⟨#[117]⟩++⟨#[45]⟩) (ay l k))) e w'∧Ch rb w w':=by
 have hrw:=h.lt
 have hll:=h.len
 have HS:=Lib.hid h.sl
 have yx:=Lib.hid h.ap
 have hsk:=bJ l k hk
 have hst:=gQ l k hk
 obtain ⟨W,hW⟩: ∃W,W=w.alloc dw:=⟨_,rfl⟩
 have HB0:Hid (Below w.heap.size w W):=Lib.hid (by rw [hW];exact (Below.refl _ _).alloc (Nat.le_refl _) _)
 have ql:Hid (Kp rb w W [(w.heap.size,dw)]):=Lib.hid (by rw [hW];exact Kp.start rb w hrw dw)
 have jK:=Lib.hid (fK (h.next HB0.out))
 have dR:=Lib.hid hW
 clear hW h
 obtain ⟨p,hpe⟩: ∃p,ay l k=p:=⟨_,rfl⟩
 rw [hpe] at jK hsk hst hx⊢
 rw [hs] at jK hst
 have hst1:p+1≤l.length:=hst
 clear hst hs
 have Js:=Lib.hid hpe
 clear hpe
 unfold dw at dR
 go_enter Tryz.func147,Tryz.ntmps147
 go_upto_region 1 with fail
 rw [←dR.out]
 go_wp2_with fail
 refine jK.out.mono ?_
 rintro x w1 ⟨rfl,hr1,hc1⟩
 have HR1:=Lib.hid hr1
 have K1:=Lib.hid (ql.out.next hrw hc1)
 clear hr1 hc1 jK
 obtain ⟨e0,e1,e2,_,_⟩:=HR1.out.cells
 have f1:=HR1.out.fr 1
 have HR2:Hid (gU l bv rb (p+1) 0 0 (w1.setCell ⟨rb,1,none⟩ (.int .i64 ((p:Int)+1)))):=Lib.hid (HR1.out.rD (p+1) (by omega))
 have K2:=Lib.hid (K1.out.next hrw (Ch.set (rb:=rb) w1 1 (.int .i64 ((p:Int)+1))))
 have Qs:Hid (w.heap.size<(w1.setCell ⟨rb,1,none⟩ (.int .i64 ((p:Int)+1))).heap.size):=Lib.hid (lt_of_heap K2.out.iJ)
 have JF:=Lib.hid (ih.iR (p+1) res _ hx HR2.out hst1)
 go_wp2_with fail
 refine JF.out.mono ?_
 rintro x w3 ⟨⟨y,oy,ny,rfl,hq3⟩,hc3⟩
 have K3:=Lib.hid (K2.out.next hrw hc3)
 have Jy:=Lib.hid hq3
 have K4:=Lib.hid (K3.out.add hrw (.cells #[.string y.op,.int .i64 y.val,.string y.nm,.int .i64 y.pos,.int .i64 y.aG,.slice oy ny ny] 30))
 have JI:=Lib.hid K4.out.qB
 have WX:=lt_of_heap K3.out.iJ
 unfold dw at JI
 clear hq3 hc3 JF e0 e1 e2 f1
 go_wp2_with (first | (refine aC rfl _ _ rfl rfl w.heap.size (⟨#[117]⟩++⟨#[45]⟩) 0 ⟨#[]⟩ p 0 (.slice (some ⟨w3.heap.size,0,none⟩) 1 1) rfl rfl rfl _ JI.out rfl ?_) | fail)
 have hC:=K4.out.ch.eY (Nat.le_refl _) hrw #[.string (⟨#[117]⟩++⟨#[45]⟩),.int .i64 0,.string ⟨#[]⟩,.int .i64 p,.int .i64 0,.slice (some ⟨w3.heap.size,0,none⟩) 1 1]
 have hO: ∀k',k'≠w.heap.size→((w3.alloc (.cells #[.string y.op,.int .i64 y.val,.string y.nm,.int .i64 y.pos,.int .i64 y.aG,.slice oy ny ny] 30)).setRow w.heap.size #[.string (⟨#[117]⟩++⟨#[45]⟩),.int .i64 0,.string ⟨#[]⟩,.int .i64 p,.int .i64 0,.slice (some ⟨w3.heap.size,0,none⟩) 1 1]).heap[k']? =(w3.alloc (.cells #[.string y.op,.int .i64 y.val,.string y.nm,.int .i64 y.pos,.int .i64 y.aG,.slice oy ny ny] 30)).heap[k']? :=fun k' hk'=>by
  show ((w3.alloc (.cells #[.string y.op,.int .i64 y.val,.string y.nm,.int .i64 y.pos,.int .i64 y.aG,.slice oy ny ny] 30)).heap.modify w.heap.size _)[k']? =_
  rw [Array.getElem?_modify,if_neg (fun e=>hk' e.symm)]
 have ZN:=Qs.out
 have hQ:Dp l bv rb (n+1) w.heap.size res y (.slice oy ny ny) ((w3.alloc (.cells #[.string y.op,.int .i64 y.val,.string y.nm,.int .i64 y.pos,.int .i64 y.aG,.slice oy ny ny] 30)).setRow w.heap.size #[.string (⟨#[117]⟩++⟨#[45]⟩),.int .i64 0,.string ⟨#[]⟩,.int .i64 p,.int .i64 0,.slice (some ⟨w3.heap.size,0,none⟩) 1 1]):=Jy.out.move ((hO _ (by omega)).trans (aB _ _ _ (by omega))) (mW HS.out yx.out hC) (fun k' hk' hs'=>(hO _ (by omega)).trans (aB _ _ _ hs')) (by omega) (Nat.le_succ _)
 exact bodyPost_ret (aI rfl _ _ w.heap.size _ rfl (setRow_self JI.out _) rfl) rfl ⟨⟨.un (⟨#[117]⟩++⟨#[45]⟩) p y,_,_,rfl,hQ.un ((hO _ (by omega)).trans (heap_alloc_last w3 _)) (by omega) (⟨#[117]⟩++⟨#[45]⟩) p⟩,hC⟩
theorem MR {l:List Int} {bv:Value} {rb n k:Nat} {w:World} (ih:Bh l bv rb n) {res:Rs} (hs:fB l k=⟨#[33]⟩) (hx:rd l n .iR (tok l (ay l k+1))=some res) (h:gU l bv rb k 0 0 w) (hk:k≤l.length):
  Calls Tryz.prog 147 #[.pointer (some ⟨rb,0,none⟩)] w fun e w'=>Ak l bv rb (n+1) w.heap.size (res.map (.un ⟨#[33]⟩ (ay l k))) e w'∧Ch rb w w':=by
 have hrw:=h.lt
 have hll:=h.len
 have HS:=Lib.hid h.sl
 have yx:=Lib.hid h.ap
 have hsk:=bJ l k hk
 have hst:=gQ l k hk
 obtain ⟨W,hW⟩: ∃W,W=w.alloc dw:=⟨_,rfl⟩
 have HB0:Hid (Below w.heap.size w W):=Lib.hid (by rw [hW];exact (Below.refl _ _).alloc (Nat.le_refl _) _)
 have ql:Hid (Kp rb w W [(w.heap.size,dw)]):=Lib.hid (by rw [hW];exact Kp.start rb w hrw dw)
 have jK:=Lib.hid (fK (h.next HB0.out))
 have dR:=Lib.hid hW
 clear hW h
 obtain ⟨p,hpe⟩: ∃p,ay l k=p:=⟨_,rfl⟩
 rw [hpe] at jK hsk hst hx⊢
 rw [hs] at jK hst
 have hst1:p+1≤l.length:=hst
 clear hst hs
 have Js:=Lib.hid hpe
 clear hpe
 unfold dw at dR
 go_enter Tryz.func147,Tryz.ntmps147
 go_upto_region 1 with fail
 rw [←dR.out]
 go_wp2_with fail
 refine jK.out.mono ?_
 rintro x w1 ⟨rfl,hr1,hc1⟩
 have HR1:=Lib.hid hr1
 have K1:=Lib.hid (ql.out.next hrw hc1)
 clear hr1 hc1 jK
 obtain ⟨e0,e1,e2,_,_⟩:=HR1.out.cells
 have f1:=HR1.out.fr 1
 have HR2:Hid (gU l bv rb (p+1) 0 0 (w1.setCell ⟨rb,1,none⟩ (.int .i64 ((p:Int)+1)))):=Lib.hid (HR1.out.rD (p+1) (by omega))
 have K2:=Lib.hid (K1.out.next hrw (Ch.set (rb:=rb) w1 1 (.int .i64 ((p:Int)+1))))
 have Qs:Hid (w.heap.size<(w1.setCell ⟨rb,1,none⟩ (.int .i64 ((p:Int)+1))).heap.size):=Lib.hid (lt_of_heap K2.out.iJ)
 have JF:=Lib.hid (ih.iR (p+1) res _ hx HR2.out hst1)
 go_wp2_with fail
 refine JF.out.mono ?_
 rintro x w3 ⟨⟨y,oy,ny,rfl,hq3⟩,hc3⟩
 have K3:=Lib.hid (K2.out.next hrw hc3)
 have Jy:=Lib.hid hq3
 have K4:=Lib.hid (K3.out.add hrw (.cells #[.string y.op,.int .i64 y.val,.string y.nm,.int .i64 y.pos,.int .i64 y.aG,.slice oy ny ny] 30))
 have JI:=Lib.hid K4.out.qB
 have WX:=lt_of_heap K3.out.iJ
 unfold dw at JI
 clear hq3 hc3 JF e0 e1 e2 f1
 go_wp2_with (first | (refine aC rfl _ _ rfl rfl w.heap.size ⟨#[33]⟩ 0 ⟨#[]⟩ p 0 (.slice (some ⟨w3.heap.size,0,none⟩) 1 1) rfl rfl rfl _ JI.out rfl ?_) | fail)
 have hC:=K4.out.ch.eY (Nat.le_refl _) hrw #[.string ⟨#[33]⟩,.int .i64 0,.string ⟨#[]⟩,.int .i64 p,.int .i64 0,.slice (some ⟨w3.heap.size,0,none⟩) 1 1]
 have hO: ∀k',k'≠w.heap.size→((w3.alloc (.cells #[.string y.op,.int .i64 y.val,.string y.nm,.int .i64 y.pos,.int .i64 y.aG,.slice oy ny ny] 30)).setRow w.heap.size #[.string ⟨#[33]⟩,.int .i64 0,.string ⟨#[]⟩,.int .i64 p,.int .i64 0,.slice (some ⟨w3.heap.size,0,none⟩) 1 1]).heap[k']? =(w3.alloc (.cells #[.string y.op,.int .i64 y.val,.string y.nm,.int .i64 y.pos,.int .i64 y.aG,.slice oy ny ny] 30)).heap[k']? :=fun k' hk'=>by
  show ((w3.alloc (.cells #[.string y.op,.int .i64 y.val,.string y.nm,.int .i64 y.pos,.int .i64 y.aG,.slice oy ny ny] 30)).heap.modify w.heap.size _)[k']? =_
  rw [Array.getElem?_modify,if_neg (fun e=>hk' e.symm)]
 have ZN:=Qs.out
 have hQ:Dp l bv rb (n+1) w.heap.size res y (.slice oy ny ny) ((w3.alloc (.cells #[.string y.op,.int .i64 y.val,.string y.nm,.int .i64 y.pos,.int .i64 y.aG,.slice oy ny ny] 30)).setRow w.heap.size #[.string ⟨#[33]⟩,.int .i64 0,.string ⟨#[]⟩,.int .i64 p,.int .i64 0,.slice (some ⟨w3.heap.size,0,none⟩) 1 1]):=Jy.out.move ((hO _ (by omega)).trans (aB _ _ _ (by omega))) (mW HS.out yx.out hC) (fun k' hk' hs'=>(hO _ (by omega)).trans (aB _ _ _ hs')) (by omega) (Nat.le_succ _)
 exact bodyPost_ret (aI rfl _ _ w.heap.size _ rfl (setRow_self JI.out _) rfl) rfl ⟨⟨.un ⟨#[33]⟩ p y,_,_,rfl,hQ.un ((hO _ (by omega)).trans (heap_alloc_last w3 _)) (by omega) ⟨#[33]⟩ p⟩,hC⟩
theorem Ji {l:List Int} {bv:Value} {rb n k:Nat} {w:World} (ih:Bh l bv rb n) {res:Rs} (hs:fB l k=⟨#[126]⟩) (hx:rd l n .iR (tok l (ay l k+1))=some res) (h:gU l bv rb k 0 0 w) (hk:k≤l.length):
  Calls Tryz.prog 147 #[.pointer (some ⟨rb,0,none⟩)] w fun e w'=>Ak l bv rb (n+1) w.heap.size (res.map (.un ⟨#[126]⟩ (ay l k))) e w'∧Ch rb w w':=by
 have hrw:=h.lt
 have hll:=h.len
 have HS:=Lib.hid h.sl
 have yx:=Lib.hid h.ap
 have hsk:=bJ l k hk
 have hst:=gQ l k hk
 obtain ⟨W,hW⟩: ∃W,W=w.alloc dw:=⟨_,rfl⟩
 have HB0:Hid (Below w.heap.size w W):=Lib.hid (by rw [hW];exact (Below.refl _ _).alloc (Nat.le_refl _) _)
 have ql:Hid (Kp rb w W [(w.heap.size,dw)]):=Lib.hid (by rw [hW];exact Kp.start rb w hrw dw)
 have jK:=Lib.hid (fK (h.next HB0.out))
 have dR:=Lib.hid hW
 clear hW h
 obtain ⟨p,hpe⟩: ∃p,ay l k=p:=⟨_,rfl⟩
 rw [hpe] at jK hsk hst hx⊢
 rw [hs] at jK hst
 have hst1:p+1≤l.length:=hst
 clear hst hs
 have Js:=Lib.hid hpe
 clear hpe
 unfold dw at dR
 go_enter Tryz.func147,Tryz.ntmps147
 go_upto_region 1 with fail
 rw [←dR.out]
 go_wp2_with fail
 refine jK.out.mono ?_
 rintro x w1 ⟨rfl,hr1,hc1⟩
 have HR1:=Lib.hid hr1
 have K1:=Lib.hid (ql.out.next hrw hc1)
 clear hr1 hc1 jK
 obtain ⟨e0,e1,e2,_,_⟩:=HR1.out.cells
 have f1:=HR1.out.fr 1
 have HR2:Hid (gU l bv rb (p+1) 0 0 (w1.setCell ⟨rb,1,none⟩ (.int .i64 ((p:Int)+1)))):=Lib.hid (HR1.out.rD (p+1) (by omega))
 have K2:=Lib.hid (K1.out.next hrw (Ch.set (rb:=rb) w1 1 (.int .i64 ((p:Int)+1))))
 have Qs:Hid (w.heap.size<(w1.setCell ⟨rb,1,none⟩ (.int .i64 ((p:Int)+1))).heap.size):=Lib.hid (lt_of_heap K2.out.iJ)
 have JF:=Lib.hid (ih.iR (p+1) res _ hx HR2.out hst1)
 go_wp2_with fail
 refine JF.out.mono ?_
 rintro x w3 ⟨⟨y,oy,ny,rfl,hq3⟩,hc3⟩
 have K3:=Lib.hid (K2.out.next hrw hc3)
 have Jy:=Lib.hid hq3
 have K4:=Lib.hid (K3.out.add hrw (.cells #[.string y.op,.int .i64 y.val,.string y.nm,.int .i64 y.pos,.int .i64 y.aG,.slice oy ny ny] 30))
 have JI:=Lib.hid K4.out.qB
 have WX:=lt_of_heap K3.out.iJ
 unfold dw at JI
 clear hq3 hc3 JF e0 e1 e2 f1
 go_wp2_with (first | (refine aC rfl _ _ rfl rfl w.heap.size ⟨#[126]⟩ 0 ⟨#[]⟩ p 0 (.slice (some ⟨w3.heap.size,0,none⟩) 1 1) rfl rfl rfl _ JI.out rfl ?_) | fail)
 have hC:=K4.out.ch.eY (Nat.le_refl _) hrw #[.string ⟨#[126]⟩,.int .i64 0,.string ⟨#[]⟩,.int .i64 p,.int .i64 0,.slice (some ⟨w3.heap.size,0,none⟩) 1 1]
 have hO: ∀k',k'≠w.heap.size→((w3.alloc (.cells #[.string y.op,.int .i64 y.val,.string y.nm,.int .i64 y.pos,.int .i64 y.aG,.slice oy ny ny] 30)).setRow w.heap.size #[.string ⟨#[126]⟩,.int .i64 0,.string ⟨#[]⟩,.int .i64 p,.int .i64 0,.slice (some ⟨w3.heap.size,0,none⟩) 1 1]).heap[k']? =(w3.alloc (.cells #[.string y.op,.int .i64 y.val,.string y.nm,.int .i64 y.pos,.int .i64 y.aG,.slice oy ny ny] 30)).heap[k']? :=fun k' hk'=>by
  show ((w3.alloc (.cells #[.string y.op,.int .i64 y.val,.string y.nm,.int .i64 y.pos,.int .i64 y.aG,.slice oy ny ny] 30)).heap.modify w.heap.size _)[k']? =_
  rw [Array.getElem?_modify,if_neg (fun e=>hk' e.symm)]
 have ZN:=Qs.out
 have hQ:Dp l bv rb (n+1) w.heap.size res y (.slice oy ny ny) ((w3.alloc (.cells #[.string y.op,.int .i64 y.val,.string y.nm,.int .i64 y.pos,.int .i64 y.aG,.slice oy ny ny] 30)).setRow w.heap.size #[.string ⟨#[126]⟩,.int .i64 0,.string ⟨#[]⟩,.int .i64 p,.int .i64 0,.slice (some ⟨w3.heap.size,0,none⟩) 1 1]):=Jy.out.move ((hO _ (by omega)).trans (aB _ _ _ (by omega))) (mW HS.out yx.out hC) (fun k' hk' hs'=>(hO _ (by omega)).trans (aB _ _ _ hs')) (by omega) (Nat.le_succ _)
 exact bodyPost_ret (aI rfl _ _ w.heap.size _ rfl (setRow_self JI.out _) rfl) rfl ⟨⟨.un ⟨#[126]⟩ p y,_,_,rfl,hQ.un ((hO _ (by omega)).trans (heap_alloc_last w3 _)) (by omega) ⟨#[126]⟩ p⟩,hC⟩
theorem QA {l:List Int} {bv:Value} {rb n k:Nat} {w:World} (ih:Bh l bv rb n) {c q:Nat} (hs:fB l k=⟨#[40]⟩) (hx:rd l n .expr (tok l (ay l k+1))=some (.bad c q)) (hn:n≤100000) (h:gU l bv rb k 0 0 w) (hk:k≤l.length):
  Calls Tryz.prog 147 #[.pointer (some ⟨rb,0,none⟩)] w fun e w'=>Ak l bv rb (n+1) w.heap.size (.bad c q) e w'∧Ch rb w w':=by
 have hrw:=h.lt
 have hll:=h.len
 have HS:=Lib.hid h.sl
 have yx:=Lib.hid h.ap
 have hsk:=bJ l k hk
 have hst:=gQ l k hk
 obtain ⟨W,hW⟩: ∃W,W=w.alloc dw:=⟨_,rfl⟩
 have HB0:Hid (Below w.heap.size w W):=Lib.hid (by rw [hW];exact (Below.refl _ _).alloc (Nat.le_refl _) _)
 have ql:Hid (Kp rb w W [(w.heap.size,dw)]):=Lib.hid (by rw [hW];exact Kp.start rb w hrw dw)
 have jK:=Lib.hid (fK (h.next HB0.out))
 have dR:=Lib.hid hW
 clear hW h
 obtain ⟨p,hpe⟩: ∃p,ay l k=p:=⟨_,rfl⟩
 rw [hpe] at jK hsk hst hx
 rw [hs] at jK hst
 have hst1:p+1≤l.length:=hst
 clear hst hs
 have Js:=Lib.hid hpe
 clear hpe
 unfold dw at dR
 go_enter Tryz.func147,Tryz.ntmps147
 go_upto_region 1 with fail
 rw [←dR.out]
 go_wp2_with fail
 refine jK.out.mono ?_
 rintro x w1 ⟨rfl,hr1,hc1⟩
 have HR1:=Lib.hid hr1
 have K1:=Lib.hid (ql.out.next hrw hc1)
 clear hr1 hc1 jK
 obtain ⟨e0,e1,e2,_,_⟩:=HR1.out.cells
 have f1:=HR1.out.fr 1
 have HR2:Hid (gU l bv rb (p+1) 0 0 (w1.setCell ⟨rb,1,none⟩ (.int .i64 ((p:Int)+1)))):=Lib.hid (HR1.out.rD (p+1) (by omega))
 have K2:=Lib.hid (K1.out.next hrw (Ch.set (rb:=rb) w1 1 (.int .i64 ((p:Int)+1))))
 have Qs:Hid (w.heap.size<(w1.setCell ⟨rb,1,none⟩ (.int .i64 ((p:Int)+1))).heap.size):=Lib.hid (lt_of_heap K2.out.iJ)
 have HEX:=Lib.hid (ih.expr (p+1) _ _ hx HR2.out hst1)
 go_wp2_with fail
 refine HEX.out.mono ?_
 rintro x w3 ⟨⟨yb,oa,na,rfl,hq3⟩,hc3⟩
 have K3:=Lib.hid (K2.out.next hrw hc3)
 have Jy:=Lib.hid hq3
 have K4:=Lib.hid (K3.out.add hrw (.cells #[.string yb.op,.int .i64 yb.val,.string yb.nm,.int .i64 yb.pos,.int .i64 yb.aG,.slice oa na na] 30))
 have H3S:=Lib.hid (lt_of_heap K3.out.iJ)
 have ZN:=Qs.out
 clear hq3 hc3 HEX e0 e1 e2 f1 HR2 K2
 obtain ⟨hc0,kk,hr3,hkl⟩:=Jy.out
 obtain ⟨c1,rfl⟩: ∃c1,c=c1+1:=⟨c - 1,by omega⟩
 have hr4:=hr3.next ((Below.refl _ _).alloc (Nat.le_refl _) (.cells #[.string yb.op,.int .i64 yb.val,.string yb.nm,.int .i64 yb.pos,.int .i64 yb.aG,.slice oa na na] 30))
 obtain ⟨e0,e1,e2,_,_⟩:=hr4.cells
 have f1:=hr4.fr 1
 have hcn:(((c1+1:Nat):Int)==0)=false:=by simp;omega
 have Jr:Hid (gU l bv rb (kk+1) (c1+1) q ((w3.alloc (.cells #[.string yb.op,.int .i64 yb.val,.string yb.nm,.int .i64 yb.pos,.int .i64 yb.aG,.slice oa na na] 30)).setCell ⟨rb,1,none⟩ (.int .i64 ((kk:Int)+1)))):=Lib.hid (hr4.rD (kk+1) (by omega))
 have K5:=Lib.hid (K4.out.next hrw (Ch.set (rb:=rb) (w3.alloc (.cells #[.string yb.op,.int .i64 yb.val,.string yb.nm,.int .i64 yb.pos,.int .i64 yb.aG,.slice oa na na] 30)) 1 (.int .i64 ((kk:Int)+1))))
 have Am:Hid (∀g x,w.heap.size≤g→gU l bv rb (kk+1) (c1+1) q (((w3.alloc (.cells #[.string yb.op,.int .i64 yb.val,.string yb.nm,.int .i64 yb.pos,.int .i64 yb.aG,.slice oa na na] 30)).setCell ⟨rb,1,none⟩ (.int .i64 ((kk:Int)+1))).setRow g x)):=Lib.hid fun g x hg=>Jr.out.vI HS.out K5.out.ch hrw hg x
 have hkm:kk≤1000000:=hr4.hi
 clear hr3 hr4 Jy
 obtain ⟨⟨k0,k1,k2,k3,k4,k5⟩,_⟩:=aA K5.out.iJ
 have jI:=Lib.hid K5.out.qB
 unfold dw at jI
 go_wp2_with (first | (refine aC rfl _ _ rfl rfl w.heap.size yb.op yb.val yb.nm yb.pos yb.aG (.slice oa na na) rfl rfl rfl _ jI.out rfl ?_) | fail)
 exact bodyPost_ret (aI rfl _ _ w.heap.size _ rfl (setRow_self jI.out _) rfl) rfl ⟨⟨yb,oa,na,rfl,⟨by omega,_,Am.out _ _ (Nat.le_refl _),by omega⟩⟩,K5.out.ch.eY (Nat.le_refl _) hrw _⟩
theorem QC {l:List Int} {bv:Value} {rb n k:Nat} {w:World} (ih:Bh l bv rb n) {t:Tr} {t1:Tk} (hs:fB l k=⟨#[40]⟩) (hx:rd l n .expr (tok l (ay l k+1))=some (.ok t t1)) (hnc: ¬t1.text=jw) (h:gU l bv rb k 0 0 w) (hk:k≤l.length):
  Calls Tryz.prog 147 #[.pointer (some ⟨rb,0,none⟩)] w fun e w'=>Ak l bv rb (n+1) w.heap.size (refuse t1) e w'∧Ch rb w w':=by
 have hrw:=h.lt
 have hll:=h.len
 have HS:=Lib.hid h.sl
 have yx:=Lib.hid h.ap
 have hsk:=bJ l k hk
 have hst:=gQ l k hk
 obtain ⟨W,hW⟩: ∃W,W=w.alloc dw:=⟨_,rfl⟩
 have HB0:Hid (Below w.heap.size w W):=Lib.hid (by rw [hW];exact (Below.refl _ _).alloc (Nat.le_refl _) _)
 have ql:Hid (Kp rb w W [(w.heap.size,dw)]):=Lib.hid (by rw [hW];exact Kp.start rb w hrw dw)
 have jK:=Lib.hid (fK (h.next HB0.out))
 have dR:=Lib.hid hW
 clear hW h
 obtain ⟨p,hpe⟩: ∃p,ay l k=p:=⟨_,rfl⟩
 rw [hpe] at jK hsk hst hx
 rw [hs] at jK hst
 have hst1:p+1≤l.length:=hst
 clear hst hs
 have Js:=Lib.hid hpe
 clear hpe
 unfold dw at dR
 go_enter Tryz.func147,Tryz.ntmps147
 go_upto_region 1 with fail
 rw [←dR.out]
 go_wp2_with fail
 refine jK.out.mono ?_
 rintro x w1 ⟨rfl,hr1,hc1⟩
 have HR1:=Lib.hid hr1
 have K1:=Lib.hid (ql.out.next hrw hc1)
 clear hr1 hc1 jK
 obtain ⟨e0,e1,e2,_,_⟩:=HR1.out.cells
 have f1:=HR1.out.fr 1
 have HR2:Hid (gU l bv rb (p+1) 0 0 (w1.setCell ⟨rb,1,none⟩ (.int .i64 ((p:Int)+1)))):=Lib.hid (HR1.out.rD (p+1) (by omega))
 have K2:=Lib.hid (K1.out.next hrw (Ch.set (rb:=rb) w1 1 (.int .i64 ((p:Int)+1))))
 have Qs:Hid (w.heap.size<(w1.setCell ⟨rb,1,none⟩ (.int .i64 ((p:Int)+1))).heap.size):=Lib.hid (lt_of_heap K2.out.iJ)
 have HEX:=Lib.hid (ih.expr (p+1) _ _ hx HR2.out hst1)
 go_wp2_with fail
 refine HEX.out.mono ?_
 rintro x w3 ⟨⟨yb,oa,na,rfl,hq3⟩,hc3⟩
 have K3:=Lib.hid (K2.out.next hrw hc3)
 have Jy:=Lib.hid hq3
 have K4:=Lib.hid (K3.out.add hrw (.cells #[.string yb.op,.int .i64 yb.val,.string yb.nm,.int .i64 yb.pos,.int .i64 yb.aG,.slice oa na na] 30))
 have H3S:=Lib.hid (lt_of_heap K3.out.iJ)
 have ZN:=Qs.out
 clear hq3 hc3 HEX e0 e1 e2 f1 HR2 K2
 obtain ⟨hyb,hib,kq,hr3,hkq,rfl⟩:=Jy.out
 subst hyb
 have hr4:=hr3.next ((Below.refl _ _).alloc (Nat.le_refl _) (.cells #[.string yb.op,.int .i64 yb.val,.string yb.nm,.int .i64 yb.pos,.int .i64 yb.aG,.slice oa na na] 30))
 have TS:=Lib.hid (fK hr4)
 have Xf:=bJ l kq hkq
 have Xd:=gQ l kq hkq
 have TI:=Lib.hid (zn hr4.sl.1 kq OM)
 have Xl:Hid (¬fB l kq=ak→(tok l kq).stop=ay l kq+(fB l kq).size∧(tok l kq).start=ay l kq):=Lib.hid (oC l kq)
 have Ue:Hid (yb.In (w3.alloc (.cells #[.string yb.op,.int .i64 yb.val,.string yb.nm,.int .i64 yb.pos,.int .i64 yb.aG,.slice oa na na] 30)) (w.heap.size+1) (.slice oa na na)):=Lib.hid ((hib.kept (fun k' _ hs=>aB _ _ k' hs) _ _).mono (by omega) _ _)
 obtain ⟨e0,e1,e2,_,_⟩:=hr4.cells
 have WX:=H3S.out
 clear hr3 hr4 hib Jy
 go_wp2_with fail
 refine TS.out.mono ?_
 rintro x w6 ⟨rfl,Jz,hc6⟩
 have Aw:=Lib.hid Jz
 have K6:=Lib.hid (K4.out.next hrw hc6)
 have HIB6:=Lib.hid (Ue.out.ch (by omega) hc6)
 clear Jz hc6 TS Ue K3 K4 e0 e1 e2
 obtain ⟨e0,e1,e2,_,_⟩:=Aw.out.cells
 have hne: ¬fB l kq=jw:=fun e=>hnc (TI.out.2 e)
 have hq5:((fB l kq).toList==[41])=false:=aX hne
 generalize fB l kq=sg2 at*
 clear hne TI Xl
 have Dq:=Lib.hid (DZ Aw.out Xf)
 rw [kS] at Dq
 have hz0:zT.v (.slice none 0 0)= .agg #[.string ⟨#[]⟩,.int .i64 0,.string ⟨#[]⟩,.int .i64 0,.int .i64 0,.slice none 0 0]:=rfl
 rw [hz0] at Dq
 go_wp2_with fail
 refine Dq.out.mono ?_
 rintro x w7 ⟨rfl,N9,hcd,Ob⟩
 have JE:=Lib.hid N9
 have K7:=Lib.hid (K6.out.next hrw Ob)
 have jI:=Lib.hid K7.out.qB
 unfold dw at jI
 have Am:Hid (∀g x,w.heap.size≤g→gU l bv rb (ay l (ay l kq)) (tok l kq).code (tok l kq).start (w7.setRow g x)):=Lib.hid fun g x hg=>JE.out.vI HS.out K7.out.ch hrw hg x
 have aae:=bJ l (ay l kq) Xf
 clear N9 Ob Dq
 go_wp2_with (first | (refine aC rfl _ _ rfl rfl w.heap.size ⟨#[]⟩ 0 ⟨#[]⟩ 0 0 (.slice none 0 0) rfl rfl rfl _ jI.out rfl ?_) | fail)
 exact bodyPost_ret (aI rfl _ _ w.heap.size _ rfl (setRow_self jI.out _) rfl) rfl ⟨⟨zT,none,0,rfl,hcd,_,Am.out _ _ (Nat.le_refl _),by omega⟩,K7.out.ch.eY (Nat.le_refl _) hrw _⟩
theorem QB {l:List Int} {bv:Value} {rb n k:Nat} {w:World} (ih:Bh l bv rb n) {t:Tr} {t1:Tk} (hs:fB l k=⟨#[40]⟩) (hx:rd l n .expr (tok l (ay l k+1))=some (.ok t t1)) (hyc:t1.text=jw) (h:gU l bv rb k 0 0 w) (hk:k≤l.length):
  Calls Tryz.prog 147 #[.pointer (some ⟨rb,0,none⟩)] w fun e w'=>Ak l bv rb (n+1) w.heap.size (.ok t (tok l t1.stop)) e w'∧Ch rb w w':=by
 have hrw:=h.lt
 have hll:=h.len
 have HS:=Lib.hid h.sl
 have yx:=Lib.hid h.ap
 have hsk:=bJ l k hk
 have hst:=gQ l k hk
 obtain ⟨W,hW⟩: ∃W,W=w.alloc dw:=⟨_,rfl⟩
 have HB0:Hid (Below w.heap.size w W):=Lib.hid (by rw [hW];exact (Below.refl _ _).alloc (Nat.le_refl _) _)
 have ql:Hid (Kp rb w W [(w.heap.size,dw)]):=Lib.hid (by rw [hW];exact Kp.start rb w hrw dw)
 have jK:=Lib.hid (fK (h.next HB0.out))
 have dR:=Lib.hid hW
 clear hW h
 obtain ⟨p,hpe⟩: ∃p,ay l k=p:=⟨_,rfl⟩
 rw [hpe] at jK hsk hst hx
 rw [hs] at jK hst
 have hst1:p+1≤l.length:=hst
 clear hst hs
 have Js:=Lib.hid hpe
 clear hpe
 unfold dw at dR
 go_enter Tryz.func147,Tryz.ntmps147
 go_upto_region 1 with fail
 rw [←dR.out]
 go_wp2_with fail
 refine jK.out.mono ?_
 rintro x w1 ⟨rfl,hr1,hc1⟩
 have HR1:=Lib.hid hr1
 have K1:=Lib.hid (ql.out.next hrw hc1)
 clear hr1 hc1 jK
 obtain ⟨e0,e1,e2,_,_⟩:=HR1.out.cells
 have f1:=HR1.out.fr 1
 have HR2:Hid (gU l bv rb (p+1) 0 0 (w1.setCell ⟨rb,1,none⟩ (.int .i64 ((p:Int)+1)))):=Lib.hid (HR1.out.rD (p+1) (by omega))
 have K2:=Lib.hid (K1.out.next hrw (Ch.set (rb:=rb) w1 1 (.int .i64 ((p:Int)+1))))
 have Qs:Hid (w.heap.size<(w1.setCell ⟨rb,1,none⟩ (.int .i64 ((p:Int)+1))).heap.size):=Lib.hid (lt_of_heap K2.out.iJ)
 have HEX:=Lib.hid (ih.expr (p+1) _ _ hx HR2.out hst1)
 go_wp2_with fail
 refine HEX.out.mono ?_
 rintro x w3 ⟨⟨yb,oa,na,rfl,hq3⟩,hc3⟩
 have K3:=Lib.hid (K2.out.next hrw hc3)
 have Jy:=Lib.hid hq3
 have K4:=Lib.hid (K3.out.add hrw (.cells #[.string yb.op,.int .i64 yb.val,.string yb.nm,.int .i64 yb.pos,.int .i64 yb.aG,.slice oa na na] 30))
 have H3S:=Lib.hid (lt_of_heap K3.out.iJ)
 have ZN:=Qs.out
 clear hq3 hc3 HEX e0 e1 e2 f1 HR2 K2
 obtain ⟨hyb,hib,kq,hr3,hkq,rfl⟩:=Jy.out
 subst hyb
 have hr4:=hr3.next ((Below.refl _ _).alloc (Nat.le_refl _) (.cells #[.string yb.op,.int .i64 yb.val,.string yb.nm,.int .i64 yb.pos,.int .i64 yb.aG,.slice oa na na] 30))
 have TS:=Lib.hid (fK hr4)
 have Xf:=bJ l kq hkq
 have Xd:=gQ l kq hkq
 have TI:=Lib.hid (zn hr4.sl.1 kq OM)
 have Xl:Hid (¬fB l kq=ak→(tok l kq).stop=ay l kq+(fB l kq).size∧(tok l kq).start=ay l kq):=Lib.hid (oC l kq)
 have Ue:Hid (yb.In (w3.alloc (.cells #[.string yb.op,.int .i64 yb.val,.string yb.nm,.int .i64 yb.pos,.int .i64 yb.aG,.slice oa na na] 30)) (w.heap.size+1) (.slice oa na na)):=Lib.hid ((hib.kept (fun k' _ hs=>aB _ _ k' hs) _ _).mono (by omega) _ _)
 obtain ⟨e0,e1,e2,_,_⟩:=hr4.cells
 have WX:=H3S.out
 clear hr3 hr4 hib Jy
 go_wp2_with fail
 refine TS.out.mono ?_
 rintro x w6 ⟨rfl,Jz,hc6⟩
 have Aw:=Lib.hid Jz
 have K6:=Lib.hid (K4.out.next hrw hc6)
 have HIB6:=Lib.hid (Ue.out.ch (by omega) hc6)
 clear Jz hc6 TS Ue K3 K4 e0 e1 e2
 obtain ⟨e0,e1,e2,_,_⟩:=Aw.out.cells
 have IL:fB l kq=jw:=TI.out.1 hyc
 obtain ⟨vV,_⟩:=Xl.out (by rw [IL];decide)
 have hz5:jw.size=1:=rfl
 rw [IL,hz5] at Xd vV
 have hq5:((fB l kq).toList==[41])=true:=by rw [IL,kE];exact decide_eq_true rfl
 obtain ⟨q1,Td⟩: ∃q1,ay l kq=q1:=⟨_,rfl⟩
 rw [Td] at Aw Xd Xf vV
 have HST5:=Lib.hid vV
 clear e0 e1 e2
 obtain ⟨e0,e1,e2,_,_⟩:=Aw.out.cells
 generalize fB l kq=sg2 at*
 clear Td vV Xl TI IL hyc
 have f1:=Aw.out.fr 1
 have JE:Hid (gU l bv rb (q1+1) 0 0 (w6.setCell ⟨rb,1,none⟩ (.int .i64 ((q1:Int)+1)))):=Lib.hid (Aw.out.rD (q1+1) (by omega))
 have K7:=Lib.hid (K6.out.next hrw (Ch.set (rb:=rb) w6 1 (.int .i64 ((q1:Int)+1))))
 have HIB7:=Lib.hid (HIB6.out.ch (by omega) (Ch.set (rb:=rb) w6 1 (.int .i64 ((q1:Int)+1))))
 have Am:Hid (∀g x,w.heap.size≤g→gU l bv rb (q1+1) 0 0 ((w6.setCell ⟨rb,1,none⟩ (.int .i64 ((q1:Int)+1))).setRow g x)):=Lib.hid fun g x hg=>JE.out.vI HS.out K7.out.ch hrw hg x
 obtain ⟨⟨k0,k1,k2,k3,k4,k5⟩,_⟩:=aA K7.out.iJ
 have jI:=Lib.hid K7.out.qB
 unfold dw at jI
 go_wp2_with (first | (refine aC rfl _ _ rfl rfl w.heap.size yb.op yb.val yb.nm yb.pos yb.aG (.slice oa na na) rfl rfl rfl _ jI.out rfl ?_) | fail)
 exact bodyPost_ret (aI rfl _ _ w.heap.size _ rfl (setRow_self jI.out _) rfl) rfl ⟨⟨yb,oa,na,rfl,⟨rfl,HIB7.out.vI (Nat.lt_succ_self _) (Nat.le_succ _) _,_,Am.out _ _ (Nat.le_refl _),Xd,by rw [HST5.out]⟩⟩,K7.out.ch.eY (Nat.le_refl _) hrw _⟩
theorem Ii {l:List Int} {p:Nat} (h:p<l.length):gG l p=(jh (l.getD p 0) || jd (l.getD p 0)):=by
 have hd:l.drop p=l.getD p 0::l.drop (p+1):=by
  rw [List.drop_eq_getElem_cons h,List.getD,List.getElem?_eq_getElem h];rfl
 have hn:decide (0<fC (l.drop p))=jh (l.getD p 0):=by
  rw [hd]
  generalize l.getD p 0=c
  cases hc:jh c with
  | true=>
   have:=(qH (c::l.drop (p+1))).2.2
   simp only [decide_eq_true_eq]
   rcases Nat.eq_zero_or_pos (fC (c::l.drop (p+1))) with h0 | h0
   ·rw [h0] at this
    have:=this (by simp)
    simp [nameB,hc] at this
   ·exact h0
  | false=>
   have h0:fC (c::l.drop (p+1))=0:=BU fun x m e=>by
    simp only [List.cons.injEq] at e
    rw [←e.1];exact hc
   rw [h0];rfl
 unfold gG
 rw [hn]
 have hp:decide (p<l.length)=true:=by simpa using h
 rw [hp,Bool.true_and,Bool.or_comm]
theorem AV (w:World):w.drew.heap=w.heap:=rfl
theorem NY {l:List Int} {x ox cap rb pe:Nat} {w W:World} (hs:Sl w (.slice (some ⟨x,ox,none⟩) l.length cap) l) (hne:x≠rb) (hc:Ch rb w W) (hb:W.heap[rb]? =some (.cells (Nj (.slice (some ⟨x,ox,none⟩) l.length cap) pe 0 0) 81 (0,0))) (p nn:Nat) (hpn:p+nn≤l.length) (h0:0<nn):
  W.cell? ⟨rb,0,none⟩=some (.slice (some ⟨x,ox,none⟩) l.length cap)∧W.cell? ⟨rb,1,none⟩=some (.int .i64 (pe:Nat))∧(convert 22 9 (.slice (some ⟨x,ox+p,none⟩) nn (cap - p))).run Tryz.prog W= .ok (.string (dI ((l.drop p).take nn))) W:=
 ⟨(Ea hs hne hc ⟨_,_,_,hb⟩ p nn hpn h0).1,(Lib.cell_of_heap hb 1).trans rfl,(Ea hs hne hc ⟨_,_,_,hb⟩ p nn hpn h0).2⟩
theorem QE {l:List Int} {bv:Value} {rb n k:Nat} {w:World} (_ih:Bh l bv rb n) (n1: ¬fB l k=⟨#[43]⟩) (n2: ¬fB l k=⟨#[45]⟩) (n3: ¬fB l k=⟨#[33]⟩) (n4: ¬fB l k=⟨#[126]⟩) (n5: ¬fB l k=⟨#[40]⟩) (hkd:0<fC (l.drop (ay l k))) (h:gU l bv rb k 0 0 w) (hk:k≤l.length):
  Calls Tryz.prog 147 #[.pointer (some ⟨rb,0,none⟩)] w fun e w'=>Ak l bv rb (n+1) w.heap.size (.ok (.name (dI ((l.drop (ay l k)).take (fC (l.drop (ay l k))))) (ay l k)) (tok l (ay l k+fC (l.drop (ay l k))))) e w'∧Ch rb w w':=by
 have hnl:=rE (l.drop (ay l k))
 rw [List.length_drop] at hnl
 have hrw:=h.lt
 have hll:=h.len
 have HS:=Lib.hid h.sl
 have yx:=Lib.hid h.ap
 have hsk:=bJ l k hk
 have hst:=gQ l k hk
 obtain ⟨W,hW⟩: ∃W,W=w.alloc dw:=⟨_,rfl⟩
 have HB0:Hid (Below w.heap.size w W):=Lib.hid (by rw [hW];exact (Below.refl _ _).alloc (Nat.le_refl _) _)
 have ql:Hid (Kp rb w W [(w.heap.size,dw)]):=Lib.hid (by rw [hW];exact Kp.start rb w hrw dw)
 have jK:=Lib.hid (fK (h.next HB0.out))
 have dR:=Lib.hid hW
 have HH:=Lib.hid h
 clear hW h
 obtain ⟨p,hpe⟩: ∃p,ay l k=p:=⟨_,rfl⟩
 rw [hpe] at jK hsk hst hkd hnl⊢
 clear hst
 have Js:=Lib.hid hpe
 clear hpe
 unfold dw at dR
 obtain ⟨aa,cap,hbv,hcl⟩:=(show gU l bv rb k 0 0 w from HH.out).sh
 have hpc:p≤cap:=by omega
 have ZU:(if cap=p then aa else Option.map (fun x=>x.add p) aa)=kM aa cap p:=rfl
 have xk:Hid (∀X,Sl X bv l→Calls Tryz.prog 55 #[.slice (kM aa cap p) (l.length - p) (cap - p)] X fun e w'=>e= .returned (.int .i64 (fC (l.drop p)))∧X=w'):=Lib.hid fun X hX=>iP _ _ _ (by rw [hbv] at hX;exact hX.rU p hsk)
 have vH:Hid (∀X,Sl X bv l→Calls Tryz.prog 79 #[.slice (kM aa cap p) (l.length - p) (cap - p)] X fun e w'=>e= .returned (.tuple #[.int .i64 (cV (l.drop p)),.int .i64 (cN (l.drop p)),.bool (cO (l.drop p))])∧X=w'):=Lib.hid fun X hX=>iq _ _ _ (by rw [hbv] at hX;exact hX.rU p hsk)
 have q1:=aX (l:=[43]) n1
 have q2:=aX (l:=[45]) n2
 have q3:=aX (l:=[33]) n3
 have q4:=aX (l:=[126]) n4
 have q5:=aX (l:=[40]) n5
 clear n1 n2 n3 n4 n5 HH
 generalize fB l k=s at*
 subst hbv
 generalize kM aa cap p=d at*
 obtain ⟨nn,hnn⟩: ∃nn,fC (l.drop p)=nn:=⟨_,rfl⟩
 obtain ⟨nm,hnm⟩: ∃nm,dI ((l.drop p).take nn)=nm:=⟨_,rfl⟩
 rw [hnn] at xk hkd hnl⊢
 rw [hnm]
 have HNE:=Lib.hid hnm
 have VN:Hid (p+nn≤l.length∧0<nn):=Lib.hid ⟨by omega,hkd⟩
 clear hnn hnm hkd hnl vH
 go_enter Tryz.func147,Tryz.ntmps147
 go_upto_region 1 with fail
 rw [←dR.out]
 go_wp2_with fail
 refine jK.out.mono ?_
 rintro x w1 ⟨rfl,hr1,hc1⟩
 have HR1:=Lib.hid hr1
 have K1:=Lib.hid (ql.out.next hrw hc1)
 clear hr1 hc1 jK
 obtain ⟨e0,e1,e2,_,_⟩:=HR1.out.cells
 go_wp2_with fail
 refine (xk.out _ HR1.out.sl).mono ?_
 rintro x w1' ⟨rfl,rfl⟩
 have hnl:=VN.out.1
 have hkd:=VN.out.2
 have hz:(0:Int)<nn:=by omega
 have hzd:decide ((0:Int)<nn)=true:=by simpa using hz
 have f1:=HR1.out.fr 1
 obtain ⟨x,ox,cap',hbv,hcl',hcm,hrow,hne⟩:=HR1.out.row (show p<l.length by omega)
 simp only [Value.slice.injEq] at hbv
 obtain ⟨rfl,_,rfl⟩:=hbv
 clear hrow hcl'
 obtain ⟨pe,hpe⟩: ∃pe,pe=p+nn:=⟨_,rfl⟩
 have HR2:Hid (gU l (.slice (some ⟨x,ox,none⟩) l.length cap) rb pe 0 0 (w1.setCell ⟨rb,1,none⟩ (.int .i64 ((p:Int)+(nn:Int))))):=Lib.hid (by rw [hpe];exact HR1.out.rD (p+nn) (by omega))
 have K2:=Lib.hid (K1.out.next hrw (Ch.set (rb:=rb) w1 1 (.int .i64 ((p:Int)+(nn:Int)))))
 have HPN:Hid (tok l pe=tok l (p+nn)):=Lib.hid (by rw [hpe])
 have hpe1:p≤pe:=by omega
 have hpe2:pe≤cap:=by omega
 have hpe3:pe - p=nn:=by omega
 have hpl:pe≤l.length:=by omega
 have hcp: ¬cap=p:=by omega
 clear hpe
 go_wp2_with fail
 generalize N8:w1.setCell ⟨rb,1,none⟩ (.int .i64 ((p:Int)+(nn:Int)))=w4 at*
 clear N8 e0 e1 e2 f1 K1 HR1 ql
 have HF:Hid (∀X,Ch rb w X→X.heap[rb]? =some (.cells (Nj (.slice (some ⟨x,ox,none⟩) l.length cap) pe 0 0) 81 (0,0))→X.cell? ⟨rb,0,none⟩=some (.slice (some ⟨x,ox,none⟩) l.length cap)∧X.cell? ⟨rb,1,none⟩=some (.int .i64 (pe:Nat))∧(convert 22 9 (.slice (some ⟨x,ox+p,none⟩) nn (cap - p))).run Tryz.prog X= .ok (.string nm) X):=Lib.hid fun X hX hb=>by
  rw [←HNE.out]
  exact NY HS.out hne hX hb p nn hnl hkd
 have HF4:=Lib.hid (HF.out w4 K2.out.ch HR2.out.blk)
 have aaq:=Lib.hid (HF.out w4.drew (qX K2.out.ch) HR2.out.blk)
 have HF5:=Lib.hid (fun v0 v1 v2 v3 v4 v5=>HF.out (jJ w4 w.heap.size v0 v1 v2 v3 v4 v5).drew (qX (qV K2.out.ch (Nat.le_refl _) (Nat.le_of_lt hrw) v0 v1 v2 v3 v4 v5)) (by rw [AV];exact (bg _ w.heap.size v0 v1 v2 v3 v4 v5 rb (by omega)).trans HR2.out.blk))
 unfold jJ at HF5
 have JI:=Lib.hid K2.out.iJ
 obtain ⟨⟨z0,z1,z2,z3,z4,z5⟩,y0,y1,y2,y3,y4,y5⟩:=aA K2.out.iJ
 go_region_held3 (fun X=>X.cell? ⟨rb,0,none⟩=some (.slice (some ⟨x,ox,none⟩) l.length cap)∧X.cell? ⟨rb,1,none⟩=some (.int .i64 (pe:Nat))∧(convert 22 9 (.slice (some ⟨x,ox+p,none⟩) nn (cap - p))).run Tryz.prog X= .ok (.string nm) X)
  (first | with_reducible exact HF4.out | with_reducible exact aaq.out | with_reducible exact HF5.out _ _ _ _ _ _)
  (fail)
 obtain ⟨V,hV⟩: ∃V:World,V=(jJ w4 w.heap.size (.string ⟨#[110,97,109,101]⟩) (.int .i64 0) (.string nm) (.int .i64 p) (.int .i64 0) (.slice none 0 0)).drew:=⟨_,rfl⟩
 have hV':=hV
 unfold jJ at hV'
 rw [←hV']
 clear hV'
 have Q5:Hid (V.heap[w.heap.size]? =some (.cells #[.string ⟨#[110,97,109,101]⟩,.int .i64 0,.string nm,.int .i64 p,.int .i64 0,.slice none 0 0] 30)):=Lib.hid (by rw [hV,AV];exact pF JI.out _ _ _ _ _ _)
 have Q7:Hid (Ch rb w V):=Lib.hid (by rw [hV];exact qX (qV K2.out.ch (Nat.le_refl _) (Nat.le_of_lt hrw) _ _ _ _ _ _))
 have HVB:Hid (V.heap[rb]? =some (.cells (Nj (.slice (some ⟨x,ox,none⟩) l.length cap) pe 0 0) 81 (0,0))):=Lib.hid (by rw [hV,AV];exact (bg _ _ _ _ _ _ _ _ _ (by omega)).trans HR2.out.blk)
 clear hV z0 z1 z2 z3 z4 z5 y0 y1 y2 y3 y4 y5 HF5
 go_wp2_with fail
 exact bodyPost_ret (aI rfl _ _ w.heap.size _ rfl Q5.out rfl) rfl ⟨⟨.name nm p,none,0,rfl,rfl,rfl,pe,⟨HVB.out,mW HS.out yx.out Q7.out,HR2.out.len,HR2.out.hi,HR2.out.ap⟩,hpl,HPN.out⟩,Q7.out⟩
theorem AO {l:List Int} {bv:Value} {rb n k:Nat} {w:World} (_ih:Bh l bv rb n) (n1: ¬fB l k=⟨#[43]⟩) (n2: ¬fB l k=⟨#[45]⟩) (n3: ¬fB l k=⟨#[33]⟩) (n4: ¬fB l k=⟨#[126]⟩) (n5: ¬fB l k=⟨#[40]⟩) (hkd:fC (l.drop (ay l k))=0) (hc:cN (l.drop (ay l k))=0) (h:gU l bv rb k 0 0 w) (hk:k≤l.length):
  Calls Tryz.prog 147 #[.pointer (some ⟨rb,0,none⟩)] w fun e w'=>Ak l bv rb (n+1) w.heap.size (refuse (tok l k)) e w'∧Ch rb w w':=by
 have hrw:=h.lt
 have hll:=h.len
 have HS:=Lib.hid h.sl
 have yx:=Lib.hid h.ap
 have hsk:=bJ l k hk
 have hst:=gQ l k hk
 obtain ⟨W,hW⟩: ∃W,W=w.alloc dw:=⟨_,rfl⟩
 have HB0:Hid (Below w.heap.size w W):=Lib.hid (by rw [hW];exact (Below.refl _ _).alloc (Nat.le_refl _) _)
 have ql:Hid (Kp rb w W [(w.heap.size,dw)]):=Lib.hid (by rw [hW];exact Kp.start rb w hrw dw)
 have jK:=Lib.hid (fK (h.next HB0.out))
 have dR:=Lib.hid hW
 have HH:=Lib.hid h
 clear hW h
 obtain ⟨p,hpe⟩: ∃p,ay l k=p:=⟨_,rfl⟩
 rw [hpe] at jK hsk hst hkd hc
 clear hst
 have Js:=Lib.hid hpe
 clear hpe
 unfold dw at dR
 obtain ⟨aa,cap,hbv,hcl⟩:=(show gU l bv rb k 0 0 w from HH.out).sh
 have hpc:p≤cap:=by omega
 have ZU:(if cap=p then aa else Option.map (fun x=>x.add p) aa)=kM aa cap p:=rfl
 have xk:Hid (∀X,Sl X bv l→Calls Tryz.prog 55 #[.slice (kM aa cap p) (l.length - p) (cap - p)] X fun e w'=>e= .returned (.int .i64 (fC (l.drop p)))∧X=w'):=Lib.hid fun X hX=>iP _ _ _ (by rw [hbv] at hX;exact hX.rU p hsk)
 have vH:Hid (∀X,Sl X bv l→Calls Tryz.prog 79 #[.slice (kM aa cap p) (l.length - p) (cap - p)] X fun e w'=>e= .returned (.tuple #[.int .i64 (cV (l.drop p)),.int .i64 (cN (l.drop p)),.bool (cO (l.drop p))])∧X=w'):=Lib.hid fun X hX=>iq _ _ _ (by rw [hbv] at hX;exact hX.rU p hsk)
 have q1:=aX (l:=[43]) n1
 have q2:=aX (l:=[45]) n2
 have q3:=aX (l:=[33]) n3
 have q4:=aX (l:=[126]) n4
 have q5:=aX (l:=[40]) n5
 clear n1 n2 n3 n4 n5 HH
 generalize fB l k=s at*
 subst hbv
 generalize kM aa cap p=d at*
 rw [hkd] at xk
 clear hkd
 have AY:Hid (tok l p=tok l k):=Lib.hid (by rw [←Js.out,kS])
 rw [hc] at vH
 clear hc
 generalize cV (l.drop p)=cv at*
 generalize cO (l.drop p)=co at*
 go_enter Tryz.func147,Tryz.ntmps147
 go_upto_region 1 with fail
 rw [←dR.out]
 go_wp2_with fail
 refine jK.out.mono ?_
 rintro x w1 ⟨rfl,hr1,hc1⟩
 have HR1:=Lib.hid hr1
 have K1:=Lib.hid (ql.out.next hrw hc1)
 clear hr1 hc1 jK
 obtain ⟨e0,e1,e2,_,_⟩:=HR1.out.cells
 go_wp2_with fail
 refine (xk.out _ HR1.out.sl).mono ?_
 rintro x w1' ⟨rfl,rfl⟩
 go_wp2_with fail
 refine (vH.out _ HR1.out.sl).mono ?_
 rintro x w1' ⟨rfl,rfl⟩
 have Dq:=Lib.hid (DZ HR1.out hsk)
 rw [AY.out] at Dq
 have hz0:zT.v (.slice none 0 0)= .agg #[.string ⟨#[]⟩,.int .i64 0,.string ⟨#[]⟩,.int .i64 0,.int .i64 0,.slice none 0 0]:=rfl
 rw [hz0] at Dq
 go_wp2_with fail
 refine Dq.out.mono ?_
 rintro x w7 ⟨rfl,N9,hcd,Ob⟩
 have JE:=Lib.hid N9
 have K7:=Lib.hid (K1.out.next hrw Ob)
 have jI:=Lib.hid K7.out.iJ
 unfold dw at jI
 have Am:Hid (∀g x,w.heap.size≤g→gU l (.slice aa l.length cap) rb (ay l p) (tok l k).code (tok l k).start (w7.setRow g x)):=Lib.hid fun g x hg=>JE.out.vI HS.out K7.out.ch hrw hg x
 have aae:=bJ l p hsk
 clear N9 Ob Dq
 go_wp2_with (first | (refine aC rfl _ _ rfl rfl w.heap.size ⟨#[]⟩ 0 ⟨#[]⟩ 0 0 (.slice none 0 0) rfl rfl rfl _ jI.out rfl ?_) | fail)
 exact bodyPost_ret (aI rfl _ _ w.heap.size _ rfl (setRow_self jI.out _) rfl) rfl ⟨⟨zT,none,0,rfl,hcd,_,Am.out _ _ (Nat.le_refl _),by omega⟩,K7.out.ch.eY (Nat.le_refl _) hrw _⟩
theorem QF {l:List Int} {bv:Value} {rb n k:Nat} {w:World} (_ih:Bh l bv rb n) (n1: ¬fB l k=⟨#[43]⟩) (n2: ¬fB l k=⟨#[45]⟩) (n3: ¬fB l k=⟨#[33]⟩) (n4: ¬fB l k=⟨#[126]⟩) (n5: ¬fB l k=⟨#[40]⟩) (hkd:fC (l.drop (ay l k))=0) (hc:0<cN (l.drop (ay l k))) (hov:cO (l.drop (ay l k))=true) (h:gU l bv rb k 0 0 w) (hk:k≤l.length):
  Calls Tryz.prog 147 #[.pointer (some ⟨rb,0,none⟩)] w fun e w'=>Ak l bv rb (n+1) w.heap.size (refuse (tok l k)) e w'∧Ch rb w w':=by
 have hrw:=h.lt
 have hll:=h.len
 have HS:=Lib.hid h.sl
 have yx:=Lib.hid h.ap
 have hsk:=bJ l k hk
 have hst:=gQ l k hk
 obtain ⟨W,hW⟩: ∃W,W=w.alloc dw:=⟨_,rfl⟩
 have HB0:Hid (Below w.heap.size w W):=Lib.hid (by rw [hW];exact (Below.refl _ _).alloc (Nat.le_refl _) _)
 have ql:Hid (Kp rb w W [(w.heap.size,dw)]):=Lib.hid (by rw [hW];exact Kp.start rb w hrw dw)
 have jK:=Lib.hid (fK (h.next HB0.out))
 have dR:=Lib.hid hW
 have HH:=Lib.hid h
 clear hW h
 obtain ⟨p,hpe⟩: ∃p,ay l k=p:=⟨_,rfl⟩
 rw [hpe] at jK hsk hst hkd hc hov
 clear hst
 have Js:=Lib.hid hpe
 clear hpe
 unfold dw at dR
 obtain ⟨aa,cap,hbv,hcl⟩:=(show gU l bv rb k 0 0 w from HH.out).sh
 have hpc:p≤cap:=by omega
 have ZU:(if cap=p then aa else Option.map (fun x=>x.add p) aa)=kM aa cap p:=rfl
 have xk:Hid (∀X,Sl X bv l→Calls Tryz.prog 55 #[.slice (kM aa cap p) (l.length - p) (cap - p)] X fun e w'=>e= .returned (.int .i64 (fC (l.drop p)))∧X=w'):=Lib.hid fun X hX=>iP _ _ _ (by rw [hbv] at hX;exact hX.rU p hsk)
 have vH:Hid (∀X,Sl X bv l→Calls Tryz.prog 79 #[.slice (kM aa cap p) (l.length - p) (cap - p)] X fun e w'=>e= .returned (.tuple #[.int .i64 (cV (l.drop p)),.int .i64 (cN (l.drop p)),.bool (cO (l.drop p))])∧X=w'):=Lib.hid fun X hX=>iq _ _ _ (by rw [hbv] at hX;exact hX.rU p hsk)
 have q1:=aX (l:=[43]) n1
 have q2:=aX (l:=[45]) n2
 have q3:=aX (l:=[33]) n3
 have q4:=aX (l:=[126]) n4
 have q5:=aX (l:=[40]) n5
 clear n1 n2 n3 n4 n5 HH
 generalize fB l k=s at*
 subst hbv
 generalize kM aa cap p=d at*
 rw [hkd] at xk
 clear hkd
 have AY:Hid (tok l p=tok l k):=Lib.hid (by rw [←Js.out,kS])
 rw [hov] at vH
 clear hov
 generalize cV (l.drop p)=cv at*
 generalize cN (l.drop p)=cc at*
 have hcc:((cc:Int)==0)=false:=by simp;omega
 clear hc
 go_enter Tryz.func147,Tryz.ntmps147
 go_upto_region 1 with fail
 rw [←dR.out]
 go_wp2_with fail
 refine jK.out.mono ?_
 rintro x w1 ⟨rfl,hr1,hc1⟩
 have HR1:=Lib.hid hr1
 have K1:=Lib.hid (ql.out.next hrw hc1)
 clear hr1 hc1 jK
 obtain ⟨e0,e1,e2,_,_⟩:=HR1.out.cells
 go_wp2_with fail
 refine (xk.out _ HR1.out.sl).mono ?_
 rintro x w1' ⟨rfl,rfl⟩
 go_wp2_with fail
 refine (vH.out _ HR1.out.sl).mono ?_
 rintro x w1' ⟨rfl,rfl⟩
 have Dq:=Lib.hid (DZ HR1.out hsk)
 rw [AY.out] at Dq
 have hz0:zT.v (.slice none 0 0)= .agg #[.string ⟨#[]⟩,.int .i64 0,.string ⟨#[]⟩,.int .i64 0,.int .i64 0,.slice none 0 0]:=rfl
 rw [hz0] at Dq
 go_wp2_with fail
 refine Dq.out.mono ?_
 rintro x w7 ⟨rfl,N9,hcd,Ob⟩
 have JE:=Lib.hid N9
 have K7:=Lib.hid (K1.out.next hrw Ob)
 have jI:=Lib.hid K7.out.iJ
 unfold dw at jI
 have Am:Hid (∀g x,w.heap.size≤g→gU l (.slice aa l.length cap) rb (ay l p) (tok l k).code (tok l k).start (w7.setRow g x)):=Lib.hid fun g x hg=>JE.out.vI HS.out K7.out.ch hrw hg x
 have aae:=bJ l p hsk
 clear N9 Ob Dq
 go_wp2_with (first | (refine aC rfl _ _ rfl rfl w.heap.size ⟨#[]⟩ 0 ⟨#[]⟩ 0 0 (.slice none 0 0) rfl rfl rfl _ jI.out rfl ?_) | fail)
 exact bodyPost_ret (aI rfl _ _ w.heap.size _ rfl (setRow_self jI.out _) rfl) rfl ⟨⟨zT,none,0,rfl,hcd,_,Am.out _ _ (Nat.le_refl _),by omega⟩,K7.out.ch.eY (Nat.le_refl _) hrw _⟩
theorem QG {l:List Int} {bv:Value} {rb n k:Nat} {w:World} (_ih:Bh l bv rb n) (n1: ¬fB l k=⟨#[43]⟩) (n2: ¬fB l k=⟨#[45]⟩) (n3: ¬fB l k=⟨#[33]⟩) (n4: ¬fB l k=⟨#[126]⟩) (n5: ¬fB l k=⟨#[40]⟩) (hkd:fC (l.drop (ay l k))=0) (hc:0<cN (l.drop (ay l k))) (hov:cO (l.drop (ay l k))=false) (hg:gG l (ay l k+cN (l.drop (ay l k)))=true) (h:gU l bv rb k 0 0 w) (hk:k≤l.length):
  Calls Tryz.prog 147 #[.pointer (some ⟨rb,0,none⟩)] w fun e w'=>Ak l bv rb (n+1) w.heap.size (.bad 3 (ay l k+cN (l.drop (ay l k)))) e w'∧Ch rb w w':=by
 have hrw:=h.lt
 have hll:=h.len
 have HS:=Lib.hid h.sl
 have yx:=Lib.hid h.ap
 have hsk:=bJ l k hk
 have hst:=gQ l k hk
 obtain ⟨W,hW⟩: ∃W,W=w.alloc dw:=⟨_,rfl⟩
 have HB0:Hid (Below w.heap.size w W):=Lib.hid (by rw [hW];exact (Below.refl _ _).alloc (Nat.le_refl _) _)
 have ql:Hid (Kp rb w W [(w.heap.size,dw)]):=Lib.hid (by rw [hW];exact Kp.start rb w hrw dw)
 have jK:=Lib.hid (fK (h.next HB0.out))
 have dR:=Lib.hid hW
 have HH:=Lib.hid h
 clear hW h
 obtain ⟨p,hpe⟩: ∃p,ay l k=p:=⟨_,rfl⟩
 rw [hpe] at jK hsk hst hkd hc hov hg⊢
 clear hst
 have Js:=Lib.hid hpe
 clear hpe
 unfold dw at dR
 obtain ⟨aa,cap,hbv,hcl⟩:=(show gU l bv rb k 0 0 w from HH.out).sh
 have hpc:p≤cap:=by omega
 have ZU:(if cap=p then aa else Option.map (fun x=>x.add p) aa)=kM aa cap p:=rfl
 have xk:Hid (∀X,Sl X bv l→Calls Tryz.prog 55 #[.slice (kM aa cap p) (l.length - p) (cap - p)] X fun e w'=>e= .returned (.int .i64 (fC (l.drop p)))∧X=w'):=Lib.hid fun X hX=>iP _ _ _ (by rw [hbv] at hX;exact hX.rU p hsk)
 have vH:Hid (∀X,Sl X bv l→Calls Tryz.prog 79 #[.slice (kM aa cap p) (l.length - p) (cap - p)] X fun e w'=>e= .returned (.tuple #[.int .i64 (cV (l.drop p)),.int .i64 (cN (l.drop p)),.bool (cO (l.drop p))])∧X=w'):=Lib.hid fun X hX=>iq _ _ _ (by rw [hbv] at hX;exact hX.rU p hsk)
 have q1:=aX (l:=[43]) n1
 have q2:=aX (l:=[45]) n2
 have q3:=aX (l:=[33]) n3
 have q4:=aX (l:=[126]) n4
 have q5:=aX (l:=[40]) n5
 clear n1 n2 n3 n4 n5 HH
 generalize fB l k=s at*
 subst hbv
 generalize kM aa cap p=d at*
 rw [hkd] at xk
 clear hkd
 have AY:Hid (tok l p=tok l k):=Lib.hid (by rw [←Js.out,kS])
 have hcl:=vg (l.drop p)
 rw [List.length_drop] at hcl
 rw [hov] at vH
 clear hov
 obtain ⟨cc,TA⟩: ∃cc,cN (l.drop p)=cc:=⟨_,rfl⟩
 obtain ⟨cv,Tv⟩: ∃cv,cV (l.drop p)=cv:=⟨_,rfl⟩
 rw [TA] at vH hcl hc hg⊢
 rw [Tv] at vH
 have HG:=Lib.hid hg
 have Gm:Hid (p+cc≤l.length):=Lib.hid (by omega)
 have hcc:((cc:Int)==0)=false:=by simp;omega
 clear TA Tv hcl hc hg
 go_enter Tryz.func147,Tryz.ntmps147
 go_upto_region 1 with fail
 rw [←dR.out]
 go_wp2_with fail
 refine jK.out.mono ?_
 rintro x w1 ⟨rfl,hr1,hc1⟩
 have HR1:=Lib.hid hr1
 have K1:=Lib.hid (ql.out.next hrw hc1)
 clear hr1 hc1 jK
 obtain ⟨e0,e1,e2,_,_⟩:=HR1.out.cells
 go_wp2_with fail
 refine (xk.out _ HR1.out.sl).mono ?_
 rintro x w1' ⟨rfl,rfl⟩
 go_wp2_with fail
 refine (vH.out _ HR1.out.sl).mono ?_
 rintro x w1' ⟨rfl,rfl⟩
 have f1:=HR1.out.fr 1
 obtain ⟨pe,hpe⟩: ∃pe,pe=p+cc:=⟨_,rfl⟩
 have HR2:Hid (gU l (.slice aa l.length cap) rb pe 0 0 (w1.setCell ⟨rb,1,none⟩ (.int .i64 ((p:Int)+(cc:Int))))):=Lib.hid (by rw [hpe];exact HR1.out.rD (p+cc) (by have:=Gm.out;omega))
 have K2:=Lib.hid (K1.out.next hrw (Ch.set (rb:=rb) w1 1 (.int .i64 ((p:Int)+(cc:Int)))))
 have hpl:pe≤l.length:=by have:=Gm.out;omega
 have IU:Hid (pe=p+cc):=Lib.hid hpe
 clear hpe
 have aaj:=Gm.out
 go_wp2_with fail
 clear aaj
 generalize N8:w1.setCell ⟨rb,1,none⟩ (.int .i64 ((p:Int)+(cc:Int)))=w4 at*
 clear N8 e0 e1 e2 f1 K1 HR1 ql
 have HX:Hid (∀X,Below w4.heap.size w4 X→X.cell? ⟨rb,0,none⟩=some (.slice aa l.length cap)∧X.cell? ⟨rb,1,none⟩=some (.int .i64 pe)):=Lib.hid fun X hX=>⟨(HR2.out.next hX).cells.1,(HR2.out.next hX).cells.2.1⟩
 have hlt:pe<l.length:=by
  rcases Nat.lt_or_ge pe l.length with h' | h'
  ·exact h'
  ·have:=Ee (l:=l) (p:=pe) (by omega)
   rw [IU.out,HG.out] at this
   cases this
 obtain ⟨x,ox,cap',hbv,hcl',hcm,hrow,hne⟩:=HR2.out.row hlt
 simp only [Value.slice.injEq] at hbv
 obtain ⟨rfl,_,rfl⟩:=hbv
 have HW:Hid (∀X,Below w4.heap.size w4 X→X.cell? ⟨x,ox+pe,none⟩=some (.int .u8 (l.getD pe 0))):=Lib.hid fun X hX=>(hrow.below hX) pe hlt
 have hby:=HR2.out.sl.1 pe
 have Ns:Hid (∀X,Calls Tryz.prog 94 #[.int .u8 (l.getD pe 0)] X fun e w'=>e= .returned (.bool (jh (l.getD pe 0) || jd (l.getD pe 0)))∧X=w'):=Lib.hid fun X=>xC _ X hby.1 hby.2
 have hgo:=Ii hlt
 rw [IU.out,HG.out, ←IU.out] at hgo
 rw [←hgo] at Ns
 clear hrow hcl' hby hgo
 generalize l.getD pe 0=ch at*
 have uF:(pe:Int)<l.length:=by omega
 have hdec:decide ((pe:Int)<l.length)=true:=by simpa using uF
 refine Reg.bI (fun X=>Below w4.heap.size w4 X) (fun j=>([some (.pointer (some ⟨rb,0,none⟩)),some (.pointer (some ⟨rb,0,none⟩)),some (.pointer (some ⟨rb,1,none⟩)),some (.int .i64 pe),some (.pointer (some ⟨rb,0,none⟩)),some (.pointer (some ⟨rb,0,none⟩)),some (.pointer (some ⟨rb,0,none⟩)),some (.slice (some ⟨x,ox,none⟩) l.length cap),some (.int .i64 l.length),some (.bool true),some (.bool true),some (.pointer (some ⟨rb,0,none⟩)),some (.pointer (some ⟨rb,0,none⟩)),some (.pointer (some ⟨rb,0,none⟩)),some (.slice (some ⟨x,ox,none⟩) l.length cap),some (.pointer (some ⟨rb,0,none⟩)),some (.pointer (some ⟨rb,0,none⟩)),some (.pointer (some ⟨rb,1,none⟩)),some (.int .i64 pe),some (.pointer (some ⟨x,ox+pe,none⟩)),some (.int .u8 ch),some (.bool true),some (.bool true)]:List (Option Value)).getD j none) (fun _ _ _=>True) (by kernel_rfl) (by kernel_rfl) (by kernel_rfl) (by kernel_rfl) ?iY ?rsE ?iW
 case iY=>exact (Below.refl _ _).drew
 case rsE=>
  refine Reg.ah.plain rfl (fun T X hS hk K hK=>?_) ?_
  ·have g0:=hk.old 0 rfl
   have hK:=hK _ X hS (Reg.Is.aj rfl) (fun _ _ _ h=>h)
   clear hk
   go_simp
   exact hK
  refine Reg.ah.plain rfl (fun T X hS hk K hK=>?_) ?_
  ·have g138:=hk.val 0 138 rfl
   have hK:=hK _ X hS (Reg.Is.aj rfl) (fun _ _ _ h=>h)
   clear hk
   go_simp
   exact hK
  refine Reg.ah.plain rfl (fun T X hS hk K hK=>?_) ?_
  ·have g139:=hk.val 1 139 rfl
   have hK:=hK _ X hS (Reg.Is.aj rfl) (fun _ _ _ h=>h)
   clear hk
   go_simp
   exact hK
  refine Reg.ah.plain rfl (fun T X hS hk K hK=>?_) ?_
  ·have g140:=hk.val 2 140 rfl
   obtain ⟨e0,e1⟩:=HX.out X hS
   have hK:=hK _ X hS (Reg.Is.aj rfl) (fun _ _ _ h=>h)
   clear hk
   go_simp
   exact hK
  refine Reg.ah.plain rfl (fun T X hS hk K hK=>?_) ?_
  ·have g0:=hk.old 0 rfl
   have hK:=hK _ X hS (Reg.Is.aj rfl) (fun _ _ _ h=>h)
   clear hk
   go_simp
   exact hK
  refine Reg.ah.plain rfl (fun T X hS hk K hK=>?_) ?_
  ·have g142:=hk.val 4 142 rfl
   have hK:=hK _ X hS (Reg.Is.aj rfl) (fun _ _ _ h=>h)
   clear hk
   go_simp
   exact hK
  refine Reg.ah.plain rfl (fun T X hS hk K hK=>?_) ?_
  ·have g143:=hk.val 5 143 rfl
   have hK:=hK _ X hS (Reg.Is.aj rfl) (fun _ _ _ h=>h)
   clear hk
   go_simp
   exact hK
  refine Reg.ah.plain rfl (fun T X hS hk K hK=>?_) ?_
  ·have g144:=hk.val 6 144 rfl
   obtain ⟨e0,e1⟩:=HX.out X hS
   have hK:=hK _ X hS (Reg.Is.aj rfl) (fun _ _ _ h=>h)
   clear hk
   go_simp
   exact hK
  refine Reg.ah.plain rfl (fun T X hS hk K hK=>?_) ?_
  ·have g145:=hk.val 7 145 rfl
   have hK:=hK _ X hS (Reg.Is.aj rfl) (fun _ _ _ h=>h)
   clear hk
   go_simp
   exact hK
  refine Reg.ah.plain rfl (fun T X hS hk K hK=>?_) ?_
  ·have g141:=hk.val 3 141 rfl
   have g146:=hk.val 8 146 rfl
   have hK:=hK _ X hS (Reg.Is.aj rfl) (fun _ _ _ h=>h)
   clear hk
   go_simp
   exact hK
  refine Reg.ah.plain rfl (fun T X hS hk K hK=>?_) ?_
  ·have g147:=hk.val 9 147 rfl
   have hK:=hK _ X hS (Reg.Is.aj rfl) (fun _ _ _ h=>h)
   clear hk
   go_simp
   exact hK
  refine Reg.ah.guarded 10 148 true rfl (by kernel_rfl) (by kernel_rfl) rfl (fun T X hS hk K hK=>?_) ?_
  ·have g0:=hk.old 0 rfl
   have hK:=hK _ X hS (Reg.Is.aj rfl) (fun _ _ _ h=>h)
   clear hk
   go_simp
   exact hK
  refine Reg.ah.guarded 10 148 true rfl (by kernel_rfl) (by kernel_rfl) rfl (fun T X hS hk K hK=>?_) ?_
  ·have g149:=hk.val 11 149 rfl
   have hK:=hK _ X hS (Reg.Is.aj rfl) (fun _ _ _ h=>h)
   clear hk
   go_simp
   exact hK
  refine Reg.ah.guarded 10 148 true rfl (by kernel_rfl) (by kernel_rfl) rfl (fun T X hS hk K hK=>?_) ?_
  ·have g150:=hk.val 12 150 rfl
   have hK:=hK _ X hS (Reg.Is.aj rfl) (fun _ _ _ h=>h)
   clear hk
   go_simp
   exact hK
  refine Reg.ah.guarded 10 148 true rfl (by kernel_rfl) (by kernel_rfl) rfl (fun T X hS hk K hK=>?_) ?_
  ·have g151:=hk.val 13 151 rfl
   obtain ⟨e0,e1⟩:=HX.out X hS
   have hK:=hK _ X hS (Reg.Is.aj rfl) (fun _ _ _ h=>h)
   clear hk
   go_simp
   exact hK
  refine Reg.ah.guarded 10 148 true rfl (by kernel_rfl) (by kernel_rfl) rfl (fun T X hS hk K hK=>?_) ?_
  ·have g0:=hk.old 0 rfl
   have hK:=hK _ X hS (Reg.Is.aj rfl) (fun _ _ _ h=>h)
   clear hk
   go_simp
   exact hK
  refine Reg.ah.guarded 10 148 true rfl (by kernel_rfl) (by kernel_rfl) rfl (fun T X hS hk K hK=>?_) ?_
  ·have g153:=hk.val 15 153 rfl
   have hK:=hK _ X hS (Reg.Is.aj rfl) (fun _ _ _ h=>h)
   clear hk
   go_simp
   exact hK
  refine Reg.ah.guarded 10 148 true rfl (by kernel_rfl) (by kernel_rfl) rfl (fun T X hS hk K hK=>?_) ?_
  ·have g154:=hk.val 16 154 rfl
   have hK:=hK _ X hS (Reg.Is.aj rfl) (fun _ _ _ h=>h)
   clear hk
   go_simp
   exact hK
  refine Reg.ah.guarded 10 148 true rfl (by kernel_rfl) (by kernel_rfl) rfl (fun T X hS hk K hK=>?_) ?_
  ·have g155:=hk.val 17 155 rfl
   obtain ⟨e0,e1⟩:=HX.out X hS
   have hK:=hK _ X hS (Reg.Is.aj rfl) (fun _ _ _ h=>h)
   clear hk
   go_simp
   exact hK
  refine Reg.ah.guarded 10 148 true rfl (by kernel_rfl) (by kernel_rfl) rfl (fun T X hS hk K hK=>?_) ?_
  ·have g152:=hk.val 14 152 rfl
   have g156:=hk.val 18 156 rfl
   have hK:=hK _ X hS (Reg.Is.aj rfl) (fun _ _ _ h=>h)
   clear hk
   go_simp
   exact hK
  refine Reg.ah.guarded 10 148 true rfl (by kernel_rfl) (by kernel_rfl) rfl (fun T X hS hk K hK=>?_) ?_
  ·have g157:=hk.val 19 157 rfl
   have e2:=HW.out X hS
   have hK:=hK _ X hS (Reg.Is.aj rfl) (fun _ _ _ h=>h)
   clear hk
   go_simp
   exact hK
  refine Reg.ah.guarded 10 148 true rfl (by kernel_rfl) (by kernel_rfl) rfl (fun T X hS hk K hK=>?_) ?_
  ·have g158:=hk.val 20 158 rfl
   clear hk
   go_simp
   refine (Ns.out X).mono ?_
   rintro e w1 ⟨rfl,hb⟩
   exact hK _ _ (hb▸hS) (Reg.Is.aj rfl) (fun _ _ _ h=>h)
  refine Reg.ah.plain rfl (fun T X hS hk K hK=>?_) ?_
  ·have g148:=hk.val 10 148 rfl
   have g159:=hk.val 21 159 rfl
   have hK:=hK _ X hS (Reg.Is.aj rfl) (fun _ _ _ h=>h)
   clear hk
   go_simp
   exact hK
  exact Reg.ah.nil
 case iW=>
  intro u w5 hS hI
  have e0:u 0= .pointer (some ⟨rb,0,none⟩):=(hI 0 (by decide)).val rfl
  have e1:u 1= .pointer (some ⟨rb,0,none⟩):=(hI 1 (by decide)).val rfl
  have e2:u 2= .pointer (some ⟨rb,1,none⟩):=(hI 2 (by decide)).val rfl
  have e3:u 3= .int .i64 pe:=(hI 3 (by decide)).val rfl
  have e4:u 4= .pointer (some ⟨rb,0,none⟩):=(hI 4 (by decide)).val rfl
  have e5:u 5= .pointer (some ⟨rb,0,none⟩):=(hI 5 (by decide)).val rfl
  have e6:u 6= .pointer (some ⟨rb,0,none⟩):=(hI 6 (by decide)).val rfl
  have e7:u 7= .slice (some ⟨x,ox,none⟩) l.length cap:=(hI 7 (by decide)).val rfl
  have e8:u 8= .int .i64 l.length:=(hI 8 (by decide)).val rfl
  have e9:u 9= .bool true:=(hI 9 (by decide)).val rfl
  have e10:u 10= .bool true:=(hI 10 (by decide)).val rfl
  have e11:u 11= .pointer (some ⟨rb,0,none⟩):=(hI 11 (by decide)).val rfl
  have e12:u 12= .pointer (some ⟨rb,0,none⟩):=(hI 12 (by decide)).val rfl
  have e13:u 13= .pointer (some ⟨rb,0,none⟩):=(hI 13 (by decide)).val rfl
  have e14:u 14= .slice (some ⟨x,ox,none⟩) l.length cap:=(hI 14 (by decide)).val rfl
  have e15:u 15= .pointer (some ⟨rb,0,none⟩):=(hI 15 (by decide)).val rfl
  have e16:u 16= .pointer (some ⟨rb,0,none⟩):=(hI 16 (by decide)).val rfl
  have e17:u 17= .pointer (some ⟨rb,1,none⟩):=(hI 17 (by decide)).val rfl
  have e18:u 18= .int .i64 pe:=(hI 18 (by decide)).val rfl
  have e19:u 19= .pointer (some ⟨x,ox+pe,none⟩):=(hI 19 (by decide)).val rfl
  have e20:u 20= .int .u8 ch:=(hI 20 (by decide)).val rfl
  have e21:u 21= .bool true:=(hI 21 (by decide)).val rfl
  have e22:u 22= .bool true:=(hI 22 (by decide)).val rfl
  clear hI
  simp only [Reg.aK,Act.put,List.setIfInBounds_toArray,List.set_cons_succ,List.set_cons_zero,Nat.zero_add,Nat.reduceAdd,e0,e1,e2,e3,e4,e5,e6,e7,e8,e9,e10,e11,e12,e13,e14,e15,e16,e17,e18,e19,e20,e21,e22]
  clear e0 e1 e2 e3 e4 e5 e6 e7 e8 e9 e10 e11 e12 e13 e14 e15 e16 e17 e18 e19 e20 e21 e22
  have HZ:=Lib.hid hS
  have Jr:=Lib.hid (HR2.out.next hS)
  have K5:=Lib.hid (K2.out.next hrw (Ch.of_below hS (Nat.le_of_lt HR2.out.lt)))
  obtain ⟨e0,e1⟩:=HX.out w5 hS
  clear hS
  have HFL:=Lib.hid (wG Jr.out 3 pe (by decide))
  go_wp2_with fail
  refine HFL.out.mono ?_
  rintro x2 wf ⟨rfl,hrf,hcf⟩
  have VL:=Lib.hid hrf
  have KF:=Lib.hid (K5.out.next hrw hcf)
  clear hrf hcf HFL
  have Am:Hid (∀g x',w.heap.size≤g→gU l (.slice (some ⟨x,ox,none⟩) l.length cap) rb pe 3 pe (wf.setRow g x')):=Lib.hid fun g x' hg'=>VL.out.vI HS.out KF.out.ch hrw hg' x'
  have jI:=Lib.hid KF.out.iJ
  unfold dw at jI
  go_wp2_with (first | (refine aC rfl _ _ rfl rfl w.heap.size ⟨#[110,117,109]⟩ cv ⟨#[]⟩ p 0 (.slice none 0 0) rfl rfl rfl _ jI.out rfl ?_) | fail)
  exact bodyPost_ret (aI rfl _ _ w.heap.size _ rfl (setRow_self jI.out _) rfl) rfl ⟨⟨.num cv p,none,0,rfl,by decide,pe,by rw [←IU.out];exact Am.out _ _ (Nat.le_refl _),by omega⟩,KF.out.ch.eY (Nat.le_refl _) hrw _⟩
theorem QD {l:List Int} {bv:Value} {rb n k:Nat} {w:World} (_ih:Bh l bv rb n) (n1: ¬fB l k=⟨#[43]⟩) (n2: ¬fB l k=⟨#[45]⟩) (n3: ¬fB l k=⟨#[33]⟩) (n4: ¬fB l k=⟨#[126]⟩) (n5: ¬fB l k=⟨#[40]⟩) (hkd:fC (l.drop (ay l k))=0) (hc:0<cN (l.drop (ay l k))) (hov:cO (l.drop (ay l k))=false) (hg:gG l (ay l k+cN (l.drop (ay l k)))=false) (h:gU l bv rb k 0 0 w) (hk:k≤l.length):
  Calls Tryz.prog 147 #[.pointer (some ⟨rb,0,none⟩)] w fun e w'=>Ak l bv rb (n+1) w.heap.size (.ok (.num (cV (l.drop (ay l k))) (ay l k)) (tok l (ay l k+cN (l.drop (ay l k))))) e w'∧Ch rb w w':=by
 have hrw:=h.lt
 have hll:=h.len
 have HS:=Lib.hid h.sl
 have yx:=Lib.hid h.ap
 have hsk:=bJ l k hk
 have hst:=gQ l k hk
 obtain ⟨W,hW⟩: ∃W,W=w.alloc dw:=⟨_,rfl⟩
 have HB0:Hid (Below w.heap.size w W):=Lib.hid (by rw [hW];exact (Below.refl _ _).alloc (Nat.le_refl _) _)
 have ql:Hid (Kp rb w W [(w.heap.size,dw)]):=Lib.hid (by rw [hW];exact Kp.start rb w hrw dw)
 have jK:=Lib.hid (fK (h.next HB0.out))
 have dR:=Lib.hid hW
 have HH:=Lib.hid h
 clear hW h
 obtain ⟨p,hpe⟩: ∃p,ay l k=p:=⟨_,rfl⟩
 rw [hpe] at jK hsk hst hkd hc hov hg⊢
 clear hst
 have Js:=Lib.hid hpe
 clear hpe
 unfold dw at dR
 obtain ⟨aa,cap,hbv,hcl⟩:=(show gU l bv rb k 0 0 w from HH.out).sh
 have hpc:p≤cap:=by omega
 have ZU:(if cap=p then aa else Option.map (fun x=>x.add p) aa)=kM aa cap p:=rfl
 have xk:Hid (∀X,Sl X bv l→Calls Tryz.prog 55 #[.slice (kM aa cap p) (l.length - p) (cap - p)] X fun e w'=>e= .returned (.int .i64 (fC (l.drop p)))∧X=w'):=Lib.hid fun X hX=>iP _ _ _ (by rw [hbv] at hX;exact hX.rU p hsk)
 have vH:Hid (∀X,Sl X bv l→Calls Tryz.prog 79 #[.slice (kM aa cap p) (l.length - p) (cap - p)] X fun e w'=>e= .returned (.tuple #[.int .i64 (cV (l.drop p)),.int .i64 (cN (l.drop p)),.bool (cO (l.drop p))])∧X=w'):=Lib.hid fun X hX=>iq _ _ _ (by rw [hbv] at hX;exact hX.rU p hsk)
 have q1:=aX (l:=[43]) n1
 have q2:=aX (l:=[45]) n2
 have q3:=aX (l:=[33]) n3
 have q4:=aX (l:=[126]) n4
 have q5:=aX (l:=[40]) n5
 clear n1 n2 n3 n4 n5 HH
 generalize fB l k=s at*
 subst hbv
 generalize kM aa cap p=d at*
 rw [hkd] at xk
 clear hkd
 have AY:Hid (tok l p=tok l k):=Lib.hid (by rw [←Js.out,kS])
 have hcl:=vg (l.drop p)
 rw [List.length_drop] at hcl
 rw [hov] at vH
 clear hov
 obtain ⟨cc,TA⟩: ∃cc,cN (l.drop p)=cc:=⟨_,rfl⟩
 obtain ⟨cv,Tv⟩: ∃cv,cV (l.drop p)=cv:=⟨_,rfl⟩
 rw [TA] at vH hcl hc hg⊢
 rw [Tv] at vH⊢
 have HG:=Lib.hid hg
 have Gm:Hid (p+cc≤l.length):=Lib.hid (by omega)
 have hcc:((cc:Int)==0)=false:=by simp;omega
 clear TA Tv hcl hc hg
 go_enter Tryz.func147,Tryz.ntmps147
 go_upto_region 1 with fail
 rw [←dR.out]
 go_wp2_with fail
 refine jK.out.mono ?_
 rintro x w1 ⟨rfl,hr1,hc1⟩
 have HR1:=Lib.hid hr1
 have K1:=Lib.hid (ql.out.next hrw hc1)
 clear hr1 hc1 jK
 obtain ⟨e0,e1,e2,_,_⟩:=HR1.out.cells
 go_wp2_with fail
 refine (xk.out _ HR1.out.sl).mono ?_
 rintro x w1' ⟨rfl,rfl⟩
 go_wp2_with fail
 refine (vH.out _ HR1.out.sl).mono ?_
 rintro x w1' ⟨rfl,rfl⟩
 have f1:=HR1.out.fr 1
 obtain ⟨pe,hpe⟩: ∃pe,pe=p+cc:=⟨_,rfl⟩
 have HR2:Hid (gU l (.slice aa l.length cap) rb pe 0 0 (w1.setCell ⟨rb,1,none⟩ (.int .i64 ((p:Int)+(cc:Int))))):=Lib.hid (by rw [hpe];exact HR1.out.rD (p+cc) (by have:=Gm.out;omega))
 have K2:=Lib.hid (K1.out.next hrw (Ch.set (rb:=rb) w1 1 (.int .i64 ((p:Int)+(cc:Int)))))
 have hpl:pe≤l.length:=by have:=Gm.out;omega
 have IU:Hid (pe=p+cc):=Lib.hid hpe
 clear hpe
 have aaj:=Gm.out
 go_wp2_with fail
 clear aaj
 generalize N8:w1.setCell ⟨rb,1,none⟩ (.int .i64 ((p:Int)+(cc:Int)))=w4 at*
 clear N8 e0 e1 e2 f1 K1 HR1 ql
 have HX:Hid (∀X,Below w4.heap.size w4 X→X.cell? ⟨rb,0,none⟩=some (.slice aa l.length cap)∧X.cell? ⟨rb,1,none⟩=some (.int .i64 pe)):=Lib.hid fun X hX=>⟨(HR2.out.next hX).cells.1,(HR2.out.next hX).cells.2.1⟩
 by_cases hlt:pe<l.length
 ·obtain ⟨x,ox,cap',hbv,hcl',hcm,hrow,hne⟩:=HR2.out.row hlt
  simp only [Value.slice.injEq] at hbv
  obtain ⟨rfl,_,rfl⟩:=hbv
  have HW:Hid (∀X,Below w4.heap.size w4 X→X.cell? ⟨x,ox+pe,none⟩=some (.int .u8 (l.getD pe 0))):=Lib.hid fun X hX=>(hrow.below hX) pe hlt
  have hby:=HR2.out.sl.1 pe
  have Ns:Hid (∀X,Calls Tryz.prog 94 #[.int .u8 (l.getD pe 0)] X fun e w'=>e= .returned (.bool (jh (l.getD pe 0) || jd (l.getD pe 0)))∧X=w'):=Lib.hid fun X=>xC _ X hby.1 hby.2
  have hgo:=Ii hlt
  rw [IU.out,HG.out, ←IU.out] at hgo
  rw [←hgo] at Ns
  clear hrow hcl' hby hgo
  generalize l.getD pe 0=ch at*
  have uF:(pe:Int)<l.length:=by omega
  have hdec:decide ((pe:Int)<l.length)=true:=by simpa using uF
  refine Reg.bI (fun X=>Below w4.heap.size w4 X) (fun j=>([some (.pointer (some ⟨rb,0,none⟩)),some (.pointer (some ⟨rb,0,none⟩)),some (.pointer (some ⟨rb,1,none⟩)),some (.int .i64 pe),some (.pointer (some ⟨rb,0,none⟩)),some (.pointer (some ⟨rb,0,none⟩)),some (.pointer (some ⟨rb,0,none⟩)),some (.slice (some ⟨x,ox,none⟩) l.length cap),some (.int .i64 l.length),some (.bool true),some (.bool true),some (.pointer (some ⟨rb,0,none⟩)),some (.pointer (some ⟨rb,0,none⟩)),some (.pointer (some ⟨rb,0,none⟩)),some (.slice (some ⟨x,ox,none⟩) l.length cap),some (.pointer (some ⟨rb,0,none⟩)),some (.pointer (some ⟨rb,0,none⟩)),some (.pointer (some ⟨rb,1,none⟩)),some (.int .i64 pe),some (.pointer (some ⟨x,ox+pe,none⟩)),some (.int .u8 ch),some (.bool false),some (.bool false)]:List (Option Value)).getD j none) (fun _ _ _=>True) (by kernel_rfl) (by kernel_rfl) (by kernel_rfl) (by kernel_rfl) ?iY ?rsE ?iW
  case iY=>exact (Below.refl _ _).drew
  case rsE=>
   refine Reg.ah.plain rfl (fun T X hS hk K hK=>?_) ?_
   ·have g0:=hk.old 0 rfl
    have hK:=hK _ X hS (Reg.Is.aj rfl) (fun _ _ _ h=>h)
    clear hk
    go_simp
    exact hK
   refine Reg.ah.plain rfl (fun T X hS hk K hK=>?_) ?_
   ·have g138:=hk.val 0 138 rfl
    have hK:=hK _ X hS (Reg.Is.aj rfl) (fun _ _ _ h=>h)
    clear hk
    go_simp
    exact hK
   refine Reg.ah.plain rfl (fun T X hS hk K hK=>?_) ?_
   ·have g139:=hk.val 1 139 rfl
    have hK:=hK _ X hS (Reg.Is.aj rfl) (fun _ _ _ h=>h)
    clear hk
    go_simp
    exact hK
   refine Reg.ah.plain rfl (fun T X hS hk K hK=>?_) ?_
   ·have g140:=hk.val 2 140 rfl
    obtain ⟨e0,e1⟩:=HX.out X hS
    have hK:=hK _ X hS (Reg.Is.aj rfl) (fun _ _ _ h=>h)
    clear hk
    go_simp
    exact hK
   refine Reg.ah.plain rfl (fun T X hS hk K hK=>?_) ?_
   ·have g0:=hk.old 0 rfl
    have hK:=hK _ X hS (Reg.Is.aj rfl) (fun _ _ _ h=>h)
    clear hk
    go_simp
    exact hK
   refine Reg.ah.plain rfl (fun T X hS hk K hK=>?_) ?_
   ·have g142:=hk.val 4 142 rfl
    have hK:=hK _ X hS (Reg.Is.aj rfl) (fun _ _ _ h=>h)
    clear hk
    go_simp
    exact hK
   refine Reg.ah.plain rfl (fun T X hS hk K hK=>?_) ?_
   ·have g143:=hk.val 5 143 rfl
    have hK:=hK _ X hS (Reg.Is.aj rfl) (fun _ _ _ h=>h)
    clear hk
    go_simp
    exact hK
   refine Reg.ah.plain rfl (fun T X hS hk K hK=>?_) ?_
   ·have g144:=hk.val 6 144 rfl
    obtain ⟨e0,e1⟩:=HX.out X hS
    have hK:=hK _ X hS (Reg.Is.aj rfl) (fun _ _ _ h=>h)
    clear hk
    go_simp
    exact hK
   refine Reg.ah.plain rfl (fun T X hS hk K hK=>?_) ?_
   ·have g145:=hk.val 7 145 rfl
    have hK:=hK _ X hS (Reg.Is.aj rfl) (fun _ _ _ h=>h)
    clear hk
    go_simp
    exact hK
   refine Reg.ah.plain rfl (fun T X hS hk K hK=>?_) ?_
   ·have g141:=hk.val 3 141 rfl
    have g146:=hk.val 8 146 rfl
    have hK:=hK _ X hS (Reg.Is.aj rfl) (fun _ _ _ h=>h)
    clear hk
    go_simp
    exact hK
   refine Reg.ah.plain rfl (fun T X hS hk K hK=>?_) ?_
   ·have g147:=hk.val 9 147 rfl
    have hK:=hK _ X hS (Reg.Is.aj rfl) (fun _ _ _ h=>h)
    clear hk
    go_simp
    exact hK
   refine Reg.ah.guarded 10 148 true rfl (by kernel_rfl) (by kernel_rfl) rfl (fun T X hS hk K hK=>?_) ?_
   ·have g0:=hk.old 0 rfl
    have hK:=hK _ X hS (Reg.Is.aj rfl) (fun _ _ _ h=>h)
    clear hk
    go_simp
    exact hK
   refine Reg.ah.guarded 10 148 true rfl (by kernel_rfl) (by kernel_rfl) rfl (fun T X hS hk K hK=>?_) ?_
   ·have g149:=hk.val 11 149 rfl
    have hK:=hK _ X hS (Reg.Is.aj rfl) (fun _ _ _ h=>h)
    clear hk
    go_simp
    exact hK
   refine Reg.ah.guarded 10 148 true rfl (by kernel_rfl) (by kernel_rfl) rfl (fun T X hS hk K hK=>?_) ?_
   ·have g150:=hk.val 12 150 rfl
    have hK:=hK _ X hS (Reg.Is.aj rfl) (fun _ _ _ h=>h)
    clear hk
    go_simp
    exact hK
   refine Reg.ah.guarded 10 148 true rfl (by kernel_rfl) (by kernel_rfl) rfl (fun T X hS hk K hK=>?_) ?_
   ·have g151:=hk.val 13 151 rfl
    obtain ⟨e0,e1⟩:=HX.out X hS
    have hK:=hK _ X hS (Reg.Is.aj rfl) (fun _ _ _ h=>h)
    clear hk
    go_simp
    exact hK
   refine Reg.ah.guarded 10 148 true rfl (by kernel_rfl) (by kernel_rfl) rfl (fun T X hS hk K hK=>?_) ?_
   ·have g0:=hk.old 0 rfl
    have hK:=hK _ X hS (Reg.Is.aj rfl) (fun _ _ _ h=>h)
    clear hk
    go_simp
    exact hK
   refine Reg.ah.guarded 10 148 true rfl (by kernel_rfl) (by kernel_rfl) rfl (fun T X hS hk K hK=>?_) ?_
   ·have g153:=hk.val 15 153 rfl
    have hK:=hK _ X hS (Reg.Is.aj rfl) (fun _ _ _ h=>h)
    clear hk
    go_simp
    exact hK
   refine Reg.ah.guarded 10 148 true rfl (by kernel_rfl) (by kernel_rfl) rfl (fun T X hS hk K hK=>?_) ?_
   ·have g154:=hk.val 16 154 rfl
    have hK:=hK _ X hS (Reg.Is.aj rfl) (fun _ _ _ h=>h)
    clear hk
    go_simp
    exact hK
   refine Reg.ah.guarded 10 148 true rfl (by kernel_rfl) (by kernel_rfl) rfl (fun T X hS hk K hK=>?_) ?_
   ·have g155:=hk.val 17 155 rfl
    obtain ⟨e0,e1⟩:=HX.out X hS
    have hK:=hK _ X hS (Reg.Is.aj rfl) (fun _ _ _ h=>h)
    clear hk
    go_simp
    exact hK
   refine Reg.ah.guarded 10 148 true rfl (by kernel_rfl) (by kernel_rfl) rfl (fun T X hS hk K hK=>?_) ?_
   ·have g152:=hk.val 14 152 rfl
    have g156:=hk.val 18 156 rfl
    have hK:=hK _ X hS (Reg.Is.aj rfl) (fun _ _ _ h=>h)
    clear hk
    go_simp
    exact hK
   refine Reg.ah.guarded 10 148 true rfl (by kernel_rfl) (by kernel_rfl) rfl (fun T X hS hk K hK=>?_) ?_
   ·have g157:=hk.val 19 157 rfl
    have e2:=HW.out X hS
    have hK:=hK _ X hS (Reg.Is.aj rfl) (fun _ _ _ h=>h)
    clear hk
    go_simp
    exact hK
   refine Reg.ah.guarded 10 148 true rfl (by kernel_rfl) (by kernel_rfl) rfl (fun T X hS hk K hK=>?_) ?_
   ·have g158:=hk.val 20 158 rfl
    clear hk
    go_simp
    refine (Ns.out X).mono ?_
    rintro e w1 ⟨rfl,hb⟩
    exact hK _ _ (hb▸hS) (Reg.Is.aj rfl) (fun _ _ _ h=>h)
   refine Reg.ah.plain rfl (fun T X hS hk K hK=>?_) ?_
   ·have g148:=hk.val 10 148 rfl
    have g159:=hk.val 21 159 rfl
    have hK:=hK _ X hS (Reg.Is.aj rfl) (fun _ _ _ h=>h)
    clear hk
    go_simp
    exact hK
   exact Reg.ah.nil
  case iW=>
   intro u w5 hS hI
   have e0:u 0= .pointer (some ⟨rb,0,none⟩):=(hI 0 (by decide)).val rfl
   have e1:u 1= .pointer (some ⟨rb,0,none⟩):=(hI 1 (by decide)).val rfl
   have e2:u 2= .pointer (some ⟨rb,1,none⟩):=(hI 2 (by decide)).val rfl
   have e3:u 3= .int .i64 pe:=(hI 3 (by decide)).val rfl
   have e4:u 4= .pointer (some ⟨rb,0,none⟩):=(hI 4 (by decide)).val rfl
   have e5:u 5= .pointer (some ⟨rb,0,none⟩):=(hI 5 (by decide)).val rfl
   have e6:u 6= .pointer (some ⟨rb,0,none⟩):=(hI 6 (by decide)).val rfl
   have e7:u 7= .slice (some ⟨x,ox,none⟩) l.length cap:=(hI 7 (by decide)).val rfl
   have e8:u 8= .int .i64 l.length:=(hI 8 (by decide)).val rfl
   have e9:u 9= .bool true:=(hI 9 (by decide)).val rfl
   have e10:u 10= .bool true:=(hI 10 (by decide)).val rfl
   have e11:u 11= .pointer (some ⟨rb,0,none⟩):=(hI 11 (by decide)).val rfl
   have e12:u 12= .pointer (some ⟨rb,0,none⟩):=(hI 12 (by decide)).val rfl
   have e13:u 13= .pointer (some ⟨rb,0,none⟩):=(hI 13 (by decide)).val rfl
   have e14:u 14= .slice (some ⟨x,ox,none⟩) l.length cap:=(hI 14 (by decide)).val rfl
   have e15:u 15= .pointer (some ⟨rb,0,none⟩):=(hI 15 (by decide)).val rfl
   have e16:u 16= .pointer (some ⟨rb,0,none⟩):=(hI 16 (by decide)).val rfl
   have e17:u 17= .pointer (some ⟨rb,1,none⟩):=(hI 17 (by decide)).val rfl
   have e18:u 18= .int .i64 pe:=(hI 18 (by decide)).val rfl
   have e19:u 19= .pointer (some ⟨x,ox+pe,none⟩):=(hI 19 (by decide)).val rfl
   have e20:u 20= .int .u8 ch:=(hI 20 (by decide)).val rfl
   have e21:u 21= .bool false:=(hI 21 (by decide)).val rfl
   have e22:u 22= .bool false:=(hI 22 (by decide)).val rfl
   clear hI
   simp only [Reg.aK,Act.put,List.setIfInBounds_toArray,List.set_cons_succ,List.set_cons_zero,Nat.zero_add,Nat.reduceAdd,e0,e1,e2,e3,e4,e5,e6,e7,e8,e9,e10,e11,e12,e13,e14,e15,e16,e17,e18,e19,e20,e21,e22]
   clear e0 e1 e2 e3 e4 e5 e6 e7 e8 e9 e10 e11 e12 e13 e14 e15 e16 e17 e18 e19 e20 e21 e22
   have HZ:=Lib.hid hS
   have Jr:=Lib.hid (HR2.out.next hS)
   have K5:=Lib.hid (K2.out.next hrw (Ch.of_below hS (Nat.le_of_lt HR2.out.lt)))
   obtain ⟨e0,e1⟩:=HX.out w5 hS
   clear hS
   have Am:Hid (∀g x',w.heap.size≤g→gU l (.slice (some ⟨x,ox,none⟩) l.length cap) rb pe 0 0 (w5.setRow g x')):=Lib.hid fun g x' hg'=>Jr.out.vI HS.out K5.out.ch hrw hg' x'
   have jI:=Lib.hid K5.out.iJ
   unfold dw at jI
   go_wp2_with (first | (refine aC rfl _ _ rfl rfl w.heap.size ⟨#[110,117,109]⟩ cv ⟨#[]⟩ p 0 (.slice none 0 0) rfl rfl rfl _ jI.out rfl ?_) | fail)
   exact bodyPost_ret (aI rfl _ _ w.heap.size _ rfl (setRow_self jI.out _) rfl) rfl ⟨⟨.num cv p,none,0,rfl,rfl,rfl,pe,Am.out _ _ (Nat.le_refl _),hpl,by rw [IU.out]⟩,K5.out.ch.eY (Nat.le_refl _) hrw _⟩
 ·have uF: ¬(pe:Int)<l.length:=by omega
  have hdec:decide ((pe:Int)<l.length)=false:=by simpa using uF
  refine Reg.bI (fun X=>Below w4.heap.size w4 X) (fun j=>([some (.pointer (some ⟨rb,0,none⟩)),some (.pointer (some ⟨rb,0,none⟩)),some (.pointer (some ⟨rb,1,none⟩)),some (.int .i64 pe),some (.pointer (some ⟨rb,0,none⟩)),some (.pointer (some ⟨rb,0,none⟩)),some (.pointer (some ⟨rb,0,none⟩)),some (.slice aa l.length cap),some (.int .i64 l.length),some (.bool false),some (.bool false),some undef,some undef,some undef,some undef,some undef,some undef,some undef,some undef,some undef,some undef,some undef,some (.bool false)]:List (Option Value)).getD j none) (fun _ _ _=>True) (by kernel_rfl) (by kernel_rfl) (by kernel_rfl) (by kernel_rfl) ?iY ?rsE ?iW
  case iY=>exact (Below.refl _ _).drew
  case rsE=>
   refine Reg.ah.plain rfl (fun T X hS hk K hK=>?_) ?_
   ·have g0:=hk.old 0 rfl
    have hK:=hK _ X hS (Reg.Is.aj rfl) (fun _ _ _ h=>h)
    clear hk
    go_simp
    exact hK
   refine Reg.ah.plain rfl (fun T X hS hk K hK=>?_) ?_
   ·have g138:=hk.val 0 138 rfl
    have hK:=hK _ X hS (Reg.Is.aj rfl) (fun _ _ _ h=>h)
    clear hk
    go_simp
    exact hK
   refine Reg.ah.plain rfl (fun T X hS hk K hK=>?_) ?_
   ·have g139:=hk.val 1 139 rfl
    have hK:=hK _ X hS (Reg.Is.aj rfl) (fun _ _ _ h=>h)
    clear hk
    go_simp
    exact hK
   refine Reg.ah.plain rfl (fun T X hS hk K hK=>?_) ?_
   ·have g140:=hk.val 2 140 rfl
    obtain ⟨e0,e1⟩:=HX.out X hS
    have hK:=hK _ X hS (Reg.Is.aj rfl) (fun _ _ _ h=>h)
    clear hk
    go_simp
    exact hK
   refine Reg.ah.plain rfl (fun T X hS hk K hK=>?_) ?_
   ·have g0:=hk.old 0 rfl
    have hK:=hK _ X hS (Reg.Is.aj rfl) (fun _ _ _ h=>h)
    clear hk
    go_simp
    exact hK
   refine Reg.ah.plain rfl (fun T X hS hk K hK=>?_) ?_
   ·have g142:=hk.val 4 142 rfl
    have hK:=hK _ X hS (Reg.Is.aj rfl) (fun _ _ _ h=>h)
    clear hk
    go_simp
    exact hK
   refine Reg.ah.plain rfl (fun T X hS hk K hK=>?_) ?_
   ·have g143:=hk.val 5 143 rfl
    have hK:=hK _ X hS (Reg.Is.aj rfl) (fun _ _ _ h=>h)
    clear hk
    go_simp
    exact hK
   refine Reg.ah.plain rfl (fun T X hS hk K hK=>?_) ?_
   ·have g144:=hk.val 6 144 rfl
    obtain ⟨e0,e1⟩:=HX.out X hS
    have hK:=hK _ X hS (Reg.Is.aj rfl) (fun _ _ _ h=>h)
    clear hk
    go_simp
    exact hK
   refine Reg.ah.plain rfl (fun T X hS hk K hK=>?_) ?_
   ·have g145:=hk.val 7 145 rfl
    have hK:=hK _ X hS (Reg.Is.aj rfl) (fun _ _ _ h=>h)
    clear hk
    go_simp
    exact hK
   refine Reg.ah.plain rfl (fun T X hS hk K hK=>?_) ?_
   ·have g141:=hk.val 3 141 rfl
    have g146:=hk.val 8 146 rfl
    have hK:=hK _ X hS (Reg.Is.aj rfl) (fun _ _ _ h=>h)
    clear hk
    go_simp
    exact hK
   refine Reg.ah.plain rfl (fun T X hS hk K hK=>?_) ?_
   ·have g147:=hk.val 9 147 rfl
    have hK:=hK _ X hS (Reg.Is.aj rfl) (fun _ _ _ h=>h)
    clear hk
    go_simp
    exact hK
   refine Reg.ah.passed 10 148 false rfl (by kernel_rfl) (by kernel_rfl) rfl rfl ?_
   refine Reg.ah.passed 10 148 false rfl (by kernel_rfl) (by kernel_rfl) rfl rfl ?_
   refine Reg.ah.passed 10 148 false rfl (by kernel_rfl) (by kernel_rfl) rfl rfl ?_
   refine Reg.ah.passed 10 148 false rfl (by kernel_rfl) (by kernel_rfl) rfl rfl ?_
   refine Reg.ah.passed 10 148 false rfl (by kernel_rfl) (by kernel_rfl) rfl rfl ?_
   refine Reg.ah.passed 10 148 false rfl (by kernel_rfl) (by kernel_rfl) rfl rfl ?_
   refine Reg.ah.passed 10 148 false rfl (by kernel_rfl) (by kernel_rfl) rfl rfl ?_
   refine Reg.ah.passed 10 148 false rfl (by kernel_rfl) (by kernel_rfl) rfl rfl ?_
   refine Reg.ah.passed 10 148 false rfl (by kernel_rfl) (by kernel_rfl) rfl rfl ?_
   refine Reg.ah.passed 10 148 false rfl (by kernel_rfl) (by kernel_rfl) rfl rfl ?_
   refine Reg.ah.passed 10 148 false rfl (by kernel_rfl) (by kernel_rfl) rfl rfl ?_
   refine Reg.ah.plain rfl (fun T X hS hk K hK=>?_) ?_
   ·have g148:=hk.val 10 148 rfl
    have g159:=hk.val 21 159 rfl
    have hK:=hK _ X hS (Reg.Is.aj rfl) (fun _ _ _ h=>h)
    clear hk
    go_simp
    exact hK
   exact Reg.ah.nil
  case iW=>
   intro u w5 hS hI
   have e0:u 0= .pointer (some ⟨rb,0,none⟩):=(hI 0 (by decide)).val rfl
   have e1:u 1= .pointer (some ⟨rb,0,none⟩):=(hI 1 (by decide)).val rfl
   have e2:u 2= .pointer (some ⟨rb,1,none⟩):=(hI 2 (by decide)).val rfl
   have e3:u 3= .int .i64 pe:=(hI 3 (by decide)).val rfl
   have e4:u 4= .pointer (some ⟨rb,0,none⟩):=(hI 4 (by decide)).val rfl
   have e5:u 5= .pointer (some ⟨rb,0,none⟩):=(hI 5 (by decide)).val rfl
   have e6:u 6= .pointer (some ⟨rb,0,none⟩):=(hI 6 (by decide)).val rfl
   have e7:u 7= .slice aa l.length cap:=(hI 7 (by decide)).val rfl
   have e8:u 8= .int .i64 l.length:=(hI 8 (by decide)).val rfl
   have e9:u 9= .bool false:=(hI 9 (by decide)).val rfl
   have e10:u 10= .bool false:=(hI 10 (by decide)).val rfl
   have e11:u 11=undef:=(hI 11 (by decide)).val rfl
   have e12:u 12=undef:=(hI 12 (by decide)).val rfl
   have e13:u 13=undef:=(hI 13 (by decide)).val rfl
   have e14:u 14=undef:=(hI 14 (by decide)).val rfl
   have e15:u 15=undef:=(hI 15 (by decide)).val rfl
   have e16:u 16=undef:=(hI 16 (by decide)).val rfl
   have e17:u 17=undef:=(hI 17 (by decide)).val rfl
   have e18:u 18=undef:=(hI 18 (by decide)).val rfl
   have e19:u 19=undef:=(hI 19 (by decide)).val rfl
   have e20:u 20=undef:=(hI 20 (by decide)).val rfl
   have e21:u 21=undef:=(hI 21 (by decide)).val rfl
   have e22:u 22= .bool false:=(hI 22 (by decide)).val rfl
   clear hI
   simp only [Reg.aK,Act.put,List.setIfInBounds_toArray,List.set_cons_succ,List.set_cons_zero,Nat.zero_add,Nat.reduceAdd,e0,e1,e2,e3,e4,e5,e6,e7,e8,e9,e10,e11,e12,e13,e14,e15,e16,e17,e18,e19,e20,e21,e22]
   clear e0 e1 e2 e3 e4 e5 e6 e7 e8 e9 e10 e11 e12 e13 e14 e15 e16 e17 e18 e19 e20 e21 e22
   have HZ:=Lib.hid hS
   have Jr:=Lib.hid (HR2.out.next hS)
   have K5:=Lib.hid (K2.out.next hrw (Ch.of_below hS (Nat.le_of_lt HR2.out.lt)))
   obtain ⟨e0,e1⟩:=HX.out w5 hS
   clear hS
   have Am:Hid (∀g x',w.heap.size≤g→gU l (.slice aa l.length cap) rb pe 0 0 (w5.setRow g x')):=Lib.hid fun g x' hg'=>Jr.out.vI HS.out K5.out.ch hrw hg' x'
   have jI:=Lib.hid K5.out.iJ
   unfold dw at jI
   go_wp2_with (first | (refine aC rfl _ _ rfl rfl w.heap.size ⟨#[110,117,109]⟩ cv ⟨#[]⟩ p 0 (.slice none 0 0) rfl rfl rfl _ jI.out rfl ?_) | fail)
   exact bodyPost_ret (aI rfl _ _ w.heap.size _ rfl (setRow_self jI.out _) rfl) rfl ⟨⟨.num cv p,none,0,rfl,rfl,rfl,pe,Am.out _ _ (Nat.le_refl _),hpl,by rw [IU.out]⟩,K5.out.ch.eY (Nat.le_refl _) hrw _⟩
def RbA (l:List Int) (bv:Value) (rb least n:Nat) (w:World) (A:Nat) (res:Rs) (m:Nat) (wr:World):Prop:=
 m≤n∧ ∃left kx oa na,rd l m (.loop least left) (tok l kx)=some res∧Kp rb w wr [(A,rG left (.slice oa na na)),(w.heap.size,dw)]∧w.heap.size<A∧left.kL wr (fun b=>w.heap.size+1≤b∧b≠A) (.slice oa na na)∧gU l bv rb kx 0 0 wr∧kx≤l.length
def RbF (l:List Int) (bv:Value) (rb n:Nat) (w:World) (A:Nat) (res:Rs) (wr:World):Prop:=
 ∃y c q kx oa na,res= .bad (c+1) q∧Kp rb w wr [(A,rG y (.slice oa na na)),(w.heap.size,dw)]∧w.heap.size<A∧gU l bv rb kx (c+1) q wr∧kx≤l.length+n
theorem Kp.putA2 {rb:Nat} {w W:World} {A k0:Nat} {o0 x:Obj} {x0 x1 x2 x3 x4 x5:Value} {ty:TypeId} (h:Kp rb w W [(k0,o0),(A,.cells #[x0,x1,x2,x3,x4,x5] ty),(w.heap.size,x)]) (hA:A≠w.heap.size) (hrb:rb<w.heap.size) (v0 v1 v2 v3 v4 v5:Value):Kp rb w (jJ W A v0 v1 v2 v3 v4 v5) [(A,.cells #[v0,v1,v2,v3,v4,v5] ty),(w.heap.size,x)] where
 ch:=by
  have hg:=h.ge (b:=A) (List.mem_cons_of_mem _ (List.mem_cons_self ..))
  have hs:=h.ch.1.size
  refine ⟨qM h.ch.1 (by show rb≤A;have:w.heap.size≤A:=hg;omega) _ _ _ _ _ _,fun i hi hb=>(bg _ _ _ _ _ _ _ _ i (by omega)).trans (h.ch.2 i hi hb)⟩
 all:=fun y hy=>by
  rcases List.mem_cons.1 hy with rfl | hy
  ·exact ⟨pF h.qB _ _ _ _ _ _,h.ge (List.mem_cons_of_mem _ (List.mem_cons_self ..))⟩
  ·obtain rfl:=List.mem_singleton.1 hy
   exact ⟨(bg _ _ _ _ _ _ _ _ _ (fun e=>hA e.symm)).trans h.IQ,Nat.le_refl _⟩
set_option maxHeartbeats 16000000 in
theorem aaI {l:List Int} {bv:Value} {rb n least k:Nat} {res:Rs} {w:World} (ih: ∀m,m≤n→Bh l bv rb m) (hrd:rd l (n+1) (.bin least) (tok l k)=some res) (h1:1≤least) (hle:least≤11) (h:gU l bv rb k 0 0 w) (hk:k≤l.length):
  Calls Tryz.prog 108 #[.pointer (some ⟨rb,0,none⟩),.int .i64 (least:Nat)] w fun e w'=>Ak l bv rb (n+1) w.heap.size res e w'∧Ch rb w w':=by
 have hrw:=h.lt
 have hll:=h.len
 have HS:=Lib.hid h.sl
 have yx:=Lib.hid h.ap
 have HBY:=Lib.hid h.sl.1
 obtain ⟨W,hW⟩: ∃W,W=w.alloc dw:=⟨_,rfl⟩
 have HB0:Hid (Below w.heap.size w W):=Lib.hid (by rw [hW];exact (Below.refl _ _).alloc (Nat.le_refl _) _)
 have ql:Hid (Kp rb w W [(w.heap.size,dw)]):=Lib.hid (by rw [hW];exact Kp.start rb w hrw dw)
 have hW0:w.heap.size<W.heap.size:=by rw [hW];simp
 have dR:=Lib.hid hW
 simp only [rd] at hrd
 obtain ⟨r1,hr1⟩: ∃r1,rd l n .iR (tok l k)=r1:=⟨_,rfl⟩
 obtain ⟨r1,rfl⟩: ∃r,r1=some r:=by
  cases r1 with
  | none=>rw [hr1] at hrd;cases hrd
  | some r=>exact ⟨r,rfl⟩
 have JF:=Lib.hid ((ih n (Nat.le_refl _)).iR k r1 W hr1 (h.next HB0.out) hk)
 rw [hr1] at hrd
 have Ap:=Lib.hid hrd
 have IH:=Lib.hid ih
 clear hW h hrd hr1 ih
 unfold dw at dR
 go_enter Tryz.func108,Tryz.ntmps108
 go_upto_region 1 with fail
 rw [←dR.out]
 go_wp2_with fail
 refine JF.out.mono ?_
 rintro x w1 ⟨⟨ya,oa,na,rfl,hq1⟩,hc1⟩
 have K1:=Lib.hid (ql.out.next hrw hc1)
 have rH:=Lib.hid hq1
 have Sr:=lt_of_heap K1.out.iJ
 have tq:=Lib.hid (K1.out.add hrw (rG ya (.slice oa na na)))
 clear hq1 hc1 JF
 have HST:Hid (∀o,o=rG ya (.slice oa na na)→RbA l bv rb least n w w1.heap.size res n (w1.alloc o)∨RbF l bv rb n w w1.heap.size res (w1.alloc o)):=Lib.hid fun o ho=>by
  subst ho
  have hrd:=Ap.out
  cases r1 with
  | ok t nx=>
   obtain ⟨rfl,hi,kx,hr,hkl,rfl⟩:=rH.out
   exact Or.inl ⟨Nat.le_refl _,ya,kx,oa,na,hrd,tq.out,Sr,(Tr.In.toP (fun k' hk' hk2=>⟨by omega,by omega⟩) ya _ hi).kept (fun k' _ hk2=>aB _ _ k' hk2) ya _,hr.next ((Below.refl _ _).alloc (Nat.le_refl _) _),hkl⟩
  | bad c q=>
   obtain ⟨hc,kx,hr,hkl⟩:=rH.out
   obtain ⟨c1,rfl⟩: ∃c1,c=c1+1:=⟨c - 1,by omega⟩
   exact Or.inr ⟨ya,c1,q,kx,oa,na,(Option.some.inj hrd).symm,tq.out,Sr,hr.next ((Below.refl _ _).alloc (Nat.le_refl _) _),hkl⟩
 clear Ap rH K1 tq
 go_wp2_with fail
 generalize w1.heap.size=A at*
 go_loopg [6,7,8] n (fun m _ _ _ wr=>RbA l bv rb least n w A res m wr∨RbF l bv rb n w A res wr)
 case atStart=>exact HST.out _ rfl
 case round=>
  clear HST
  rcases hrel with hA | hF
  ·obtain ⟨hgn,left,kx,oa,na,hl,hkp,hAl,hin,hr,hkx⟩:=hA
   have JG:=Lib.hid hkp
   have nY:=Lib.hid hin
   have HR:=Lib.hid hr
   have Og:=Lib.hid hl
   obtain ⟨e0,e1,e2,_,_⟩:=hr.cells
   have hAs:=lt_of_heap hkp.iJ
   have jK:=Lib.hid (fK hr)
   have hsk:=bJ l kx hkx
   have hst:=gQ l kx hkx
   have Qq:=Lib.hid (aat HBY.out kx)
   have NG:Hid (¬fB l kx=ak→(tok l kx).stop=ay l kx+(fB l kx).size∧(tok l kx).start=ay l kx):=Lib.hid (oC l kx)
   have HTC:=Lib.hid (tN HBY.out kx)
   have HTK:=Lib.hid (kS l kx)
   clear hkp hin hr hl
   go_wp2_with fail
   refine jK.out.mono ?_
   rintro x w2 ⟨rfl,hr2,hc2⟩
   have HR2:=Lib.hid hr2
   have K2:=Lib.hid (JG.out.next hrw hc2)
   have Qv:=Lib.hid (nY.out.kept (fun k' hk' hs=>hc2.2 k' hs (by omega)) left _)
   clear hr2 hc2 jK JG nY HR e0 e1 e2
   have HLV:=Lib.hid (U7 _ (IX l kx) w2)
   obtain ⟨y,hy⟩: ∃y,dO (fB l kx)=y:=⟨_,rfl⟩
   have hy10:y≤10:=by rw [←hy];exact I4 _
   rw [hy] at HLV
   have HY:=Lib.hid hy
   clear hy
   go_wp2_with fail
   refine HLV.out.mono ?_
   rintro x w2' ⟨rfl,rfl⟩
   obtain ⟨e0,e1,e2,_,_⟩:=HR2.out.cells
   have f1:=HR2.out.fr 1
   by_cases hge:least≤y
   ·cases gk with
    | zero=>
     have:=Og.out
     simp [rd] at this
    | succ gm=>
     have hne: ¬fB l kx=ak:=oK h1 (by rw [HY.out];exact hge)
     obtain ⟨hstop,hstart⟩:=NG.out hne
     have hl:=Og.out
     simp only [rd] at hl
     rw [Qq.out,HY.out,if_pos hge] at hl
     have htx:(tok l kx).text=fB l kx:=by
      rcases HTC.out with e | ⟨e,_⟩
      ·exact e
      ·exact absurd e hne
     rw [htx,hstop,hstart] at hl
     have YM:=Lib.hid hl
     have hs3:=OQ l kx
     obtain ⟨p1,hp1⟩: ∃p1,ay l kx=p1:=⟨_,rfl⟩
     rw [hp1] at HR2 hst hsk YM
     clear e0 e1 e2 f1
     obtain ⟨e0,e1,e2,_,_⟩:=HR2.out.cells
     have f1:=HR2.out.fr 1
     obtain ⟨s,hs⟩: ∃s,fB l kx=s:=⟨_,rfl⟩
     rw [hs] at hst hs3 YM⊢
     clear hl htx hstop hstart hne hp1 hs Qq NG HTC HTK HLV Og
     have hnl: ¬(y:Int)<least:=by omega
     have hnd:decide ((y:Int)<least)=false:=by simpa using hnl
     have hy0:((y:Int)==0)=false:=by simp;omega
     have HR3:Hid (gU l bv rb (p1+s.size) 0 0 (w2'.setCell ⟨rb,1,none⟩ (.int .i64 ((p1:Int)+(s.size:Int))))):=Lib.hid (HR2.out.rD (p1+s.size) (by omega))
     have K3:=Lib.hid (K2.out.next hrw (Ch.set (rb:=rb) w2' 1 (.int .i64 ((p1:Int)+(s.size:Int)))))
     have DV:=Lib.hid (Qv.out.kept (fun k' hk' hs=>(Ch.set (rb:=rb) w2' 1 (.int .i64 ((p1:Int)+(s.size:Int)))).2 k' hs (by omega)) left _)
     obtain ⟨r2,hr2⟩: ∃r2,rd l gm (.bin (y+1)) (tok l (p1+s.size))=some r2:=by
      cases h':rd l gm (.bin (y+1)) (tok l (p1+s.size)) with
      | none=>
       have:=YM.out
       rw [h'] at this
       cases this
      | some r=>exact ⟨r,rfl⟩
     have HR2E:=Lib.hid hr2
     have Jt:=Lib.hid ((IH.out gm (by omega)).bin (y+1) (p1+s.size) r2 (w2'.setCell ⟨rb,1,none⟩ (.int .i64 ((p1:Int)+(s.size:Int)))).drew hr2 (by omega) (by omega) ⟨HR3.out.blk,HR3.out.sl,HR3.out.len,HR3.out.hi,HR3.out.ap⟩ hst)
     clear hr2
     go_wp2_with fail
     generalize hW3:w2'.setCell ⟨rb,1,none⟩ (.int .i64 ((p1:Int)+(s.size:Int)))=w3 at*
     clear hW3 e0 e1 e2 f1 K2 HR2 Qv hAs
     obtain ⟨⟨k0,k1,k2,k3,k4,k5⟩,_⟩:=aA K3.out.iJ
     have H3S:=Lib.hid (lt_of_heap K3.out.iJ)
     have hwy:IntKind.i64.wrap ((y:Int)+1)=((y+1:Nat):Int):=by rw [IntKind.wrap_i64];omega
     generalize y+1=y1 at*
     have HAG:Hid (A≠w.heap.size):=Lib.hid (by omega)
     go_region_with (first | (go_at_call 108;(with_reducible refine Jt.out.mono ?_);rintro e w8 ⟨⟨yb,ob,nb,rfl,hq⟩,hch⟩;have HQ:=Lib.hid hq;have K8:=Lib.hid (K3.out.drew.next hrw hch);have HC8:=Lib.hid hch;clear hq hch;obtain ⟨⟨x0,x1,x2,x3,x4,x5⟩,_⟩:=aA K8.out.iJ;have K9:=Lib.hid (K8.out.add hrw (.cells #[.string left.op,.int .i64 left.val,.string left.nm,.int .i64 left.pos,.int .i64 left.aG,.slice oa na na,.string yb.op,.int .i64 yb.val,.string yb.nm,.int .i64 yb.pos,.int .i64 yb.aG,.slice ob nb nb] 30));obtain ⟨⟨z0,z1,z2,z3,z4,z5⟩,g0,g1,g2,g3,g4,g5⟩:=aA K9.out.qB))
     all_goals
      have HPQ:=Lib.hid (K9.out.putA2 HAG.out hrw (.string s) (.int .i64 0) (.string ⟨#[]⟩) (.int .i64 p1) (.int .i64 0) (.slice (some ⟨w8.heap.size,0,none⟩) 2 2))
      obtain ⟨V,hV⟩: ∃V:World,V=jJ (w8.alloc (.cells #[.string left.op,.int .i64 left.val,.string left.nm,.int .i64 left.pos,.int .i64 left.aG,.slice oa na na,.string yb.op,.int .i64 yb.val,.string yb.nm,.int .i64 yb.pos,.int .i64 yb.aG,.slice ob nb nb] 30)) A (.string s) (.int .i64 0) (.string ⟨#[]⟩) (.int .i64 p1) (.int .i64 0) (.slice (some ⟨w8.heap.size,0,none⟩) 2 2):=⟨_,rfl⟩
      have VK:Hid (∀k',k'≠A→k'<w8.heap.size→V.heap[k']? =w8.heap[k']?):=Lib.hid fun k' h1 h2=>by rw [hV];exact (bg _ _ _ _ _ _ _ _ _ h1).trans (aB _ _ _ h2)
      have WX:=H3S.out
      have h8s:=lt_of_heap K8.out.iJ
      have h9s:=HC8.out.1.size
      have hdr:w3.drew.heap.size=w3.heap.size:=rfl
      have WY:Hid (V.heap[w8.heap.size]? =some (.cells #[.string left.op,.int .i64 left.val,.string left.nm,.int .i64 left.pos,.int .i64 left.aG,.slice oa na na,.string yb.op,.int .i64 yb.val,.string yb.nm,.int .i64 yb.pos,.int .i64 yb.aG,.slice ob nb nb] 30)):=Lib.hid (by rw [hV];exact (bg _ _ _ _ _ _ _ _ _ (by omega)).trans (heap_alloc_last w8 _))
      rw [←hV] at HPQ
      have hAg:=HAG.out
      have HVL:Hid (left.kL V (fun b=>w.heap.size+1≤b∧b≠A) (.slice oa na na)):=Lib.hid ((DV.out.kept (w':=w8) (fun k' hk' hs=>(nH HC8.out).2 k' hs (by omega)) left _).kept (fun k' hk' hs=>VK.out _ hk'.2 hs) left _)
      have hV':=hV
      unfold jJ at hV'
      rw [←hV']
      clear hV hV' z0 z1 z2 z3 z4 z5 g0 g1 g2 g3 g4 g5 x0 x1 x2 x3 x4 x5 k0 k1 k2 k3 k4 k5
      have hh:=YM.out
      rw [HR2E.out] at hh
      have HN:Hid (RbA l bv rb least n w A res gm V∨RbF l bv rb n w A res V):=Lib.hid (by
       cases r2 with
       | ok t nx=>
        obtain ⟨rfl,hi,kx2,hr,hkl,rfl⟩:=HQ.out
        refine Or.inl ⟨by omega,.bin s p1 left yb,kx2,_,2,hh,HPQ.out,by omega,?_,⟨(VK.out _ (by omega) (by omega)).trans hr.blk,mW HS.out yx.out HPQ.out.ch,hr.len,hr.hi,hr.ap⟩,hkl⟩
        exact ⟨w8.heap.size,_,_,rfl,⟨by omega,by omega⟩,WY.out,HVL.out,(Tr.In.toP (P:=fun b=>w.heap.size+1≤b∧b≠A) (fun k' hk' hk2=>⟨by omega,by omega⟩) yb _ hi).kept (fun k' hk' hs=>VK.out _ hk'.2 hs) yb _⟩
       | bad c q=>
        obtain ⟨hc,kx2,hr,hkl⟩:=HQ.out
        obtain ⟨c1,rfl⟩: ∃c1,c=c1+1:=⟨c - 1,by omega⟩
        exact Or.inr ⟨.bin s p1 left yb,c1,q,kx2,_,2,(Option.some.inj hh).symm,HPQ.out,by omega,⟨(VK.out _ (by omega) (by omega)).trans hr.blk,mW HS.out yx.out HPQ.out.ch,hr.len,hr.hi,hr.ap⟩,by omega⟩)
      clear hh HPQ VK WY HVL YM HR2E Jt K9 K8 HQ HC8 K3 HR3 DV
      go_wp2
      go_roundg gm
      case measure=>omega
      case rel=>exact HN.out
   ·have hyl:(y:Int)<least:=by omega
    have VJ:decide ((y:Int)<least)=true:=by simpa using hyl
    have hres:res= .ok left (tok l kx):=by
     have hl:=Og.out
     cases gk with
     | zero=>simp [rd] at hl
     | succ m=>
      simp only [rd] at hl
      rw [Qq.out,HY.out,if_neg hge] at hl
      simpa using hl.symm
    subst hres
    have jI:=Lib.hid K2.out.qB
    obtain ⟨⟨k0,k1,k2,k3,k4,k5⟩,_⟩:=aA K2.out.iJ
    have Am:Hid (∀g x,w.heap.size≤g→gU l bv rb (ay l kx) 0 0 (w2'.setRow g x)):=Lib.hid fun g x hg=>HR2.out.vI HS.out K2.out.ch hrw hg x
    have hwg: ∀(c:Array Value),left.In (w2'.setRow w.heap.size c) w.heap.size (.slice oa na na):=fun c=>Tr.kL.to (fun k' h=>by omega) left _ (Qv.out.kept (fun k' hk' _=>by
     show (w2'.heap.modify w.heap.size _)[k']? =_
     rw [Array.getElem?_modify,if_neg (by omega)]) left _)
    have HWG:=Lib.hid hwg
    clear hwg Og Qq HY NG HTC hge
    unfold dw at jI
    go_wp2_with (first | (refine aC rfl _ _ rfl rfl w.heap.size left.op left.val left.nm left.pos left.aG (.slice oa na na) rfl rfl rfl _ jI.out rfl ?_) | fail)
    exact bodyPost_ret (aI rfl _ _ w.heap.size _ rfl (setRow_self jI.out _) rfl) rfl ⟨⟨left,oa,na,rfl,rfl,HWG.out _,_,Am.out _ _ (Nat.le_refl _),hsk,HTK.out⟩,K2.out.ch.eY (Nat.le_refl _) hrw _⟩
  ·obtain ⟨y,c,q,kx,oa,na,rfl,hkp,hAl,hr,hkx⟩:=hF
   have HR:=Lib.hid hr
   have K2:=Lib.hid hkp
   obtain ⟨e0,e1,e2,_,_⟩:=hr.cells
   have hcn:(((c+1:Nat):Int)==0)=false:=by simp;omega
   have jI:=Lib.hid K2.out.qB
   obtain ⟨⟨k0,k1,k2,k3,k4,k5⟩,_⟩:=aA K2.out.iJ
   have Am:Hid (∀g x,w.heap.size≤g→gU l bv rb kx (c+1) q (wr.setRow g x)):=Lib.hid fun g x hg=>HR.out.vI HS.out K2.out.ch hrw hg x
   clear hr hkp
   unfold dw at jI
   go_wp2_with (first | (refine aC rfl _ _ rfl rfl w.heap.size y.op y.val y.nm y.pos y.aG (.slice oa na na) rfl rfl rfl _ jI.out rfl ?_) | fail)
   exact bodyPost_ret (aI rfl _ _ w.heap.size _ rfl (setRow_self jI.out _) rfl) rfl ⟨⟨y,oa,na,rfl,by omega,_,Am.out _ _ (Nat.le_refl _),by omega⟩,K2.out.ch.eY (Nat.le_refl _) hrw _⟩
end Go.Proofs.YtacfglopionkfaaGreatDoor
