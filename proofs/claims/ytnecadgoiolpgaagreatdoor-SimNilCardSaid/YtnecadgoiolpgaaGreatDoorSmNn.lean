import Derived.Test.YtnecadgoiolpgaaGreatDoorKSc
import Derived.Deep.LoopGhost
namespace Go.Proofs.YtnecadgoiolpgaaGreatDoor
set_option maxHeartbeats 8000000
set_option maxRecDepth 100000
open Go.RowKit
theorem ssearch_nil (sa : Option Addr) (N sc : Nat) (a : Int) (w : World) :
  Calls Tryz.prog 15 #[.pointer none, .slice sa N sc, .int .i64 a] w fun r w' => r = .returned (hitV (((none, 0) : Option (Nat × Nat) × Nat))) ∧ Below w.heap.size w w' := by
 obtain ⟨W, hW⟩ : ∃ W, W = w.alloc (.cells #[.bool false, .int .i64 0, .int .i64 0, .int .i64 0] 30) := ⟨_, rfl⟩
 have hb : Below w.heap.size w W := by rw [hW]; exact (Below.refl _ _).alloc (Nat.le_refl _) _
 have H6 : Hid (W.heap[w.heap.size]? = some (.cells #[.bool false, .int .i64 0, .int .i64 0, .int .i64 0] 30 (0, 0))) := Lib.hid (by rw [hW]; exact alloc_last w _)
 have hz : W.heap.size = w.heap.size + 1 := by rw [hW]; simp
 have HRO := Lib.hid (runOf_any none sa N sc W)
 have HPA : Hid (∀ X, X.heap[W.heap.size]? = some (.cells (runCells (.pointer none) (.slice sa N sc)) 88 (0, 0)) → Below W.heap.size W X → Calls Tryz.prog 23 #[.pointer (some ⟨W.heap.size, 0, none⟩), .int .i64 a, .int .i64 (1 : Nat)] X fun r w' => r = .returned (hitV (((none, 0) : Option (Nat × Nat) × Nat))) ∧ Below W.heap.size X w') := Lib.hid (fun X h1 h2 => (spass_nil W.heap.size sa N sc a 1 X h1).mono fun r w' hq => ⟨hq.1, hq.2.mono h2.size⟩)
 have HB := Lib.hid hb
 have HWE := Lib.hid hW
 obtain ⟨R, hR⟩ : ∃ R, R = ((none, 0) : Option (Nat × Nat) × Nat) := ⟨_, rfl⟩
 rw [← hR] at HPA ⊢
 obtain ⟨hh, vi⟩ := R
 obtain ⟨s0, e0, _, _, hval⟩ := hitC_parts hh
 rw [hval vi] at HPA ⊢
 have HZ := Lib.hid hz
 clear hb hW hR hval hz
 go_enter Tryz.func15, Tryz.ntmps15
 go_upto_region 1 with fail
 rw [← HWE.out]
 go_wp2_with fail
 refine HRO.out.mono ?_
 rintro r X1 ⟨rfl, hc1, hb1⟩
 have HB1 := Lib.hid hb1
 have HPX := Lib.hid (HPA.out X1 hc1 hb1)
 clear hc1 hb1
 go_wp2_with fail
 refine HPX.out.mono ?_
 rintro r X2 ⟨rfl, hb2⟩
 have hh6 : X2.heap[w.heap.size]? = some (.cells #[.bool false, .int .i64 0, .int .i64 0, .int .i64 0] 30 (0, 0)) := (hb2.block _ (by have := HZ.out; omega)).trans (blk_below H6.out HB1.out)
 have HB2 : Hid (Below w.heap.size w X2) := Lib.hid (HB.out.trans ((HB1.out.trans hb2).mono (by have := HZ.out; omega)))
 have r0 : X2.cell? ⟨w.heap.size, 0, none⟩ = some (.bool false) := (Lib.cell_of_heap hh6 0).trans rfl
 have r1 : X2.cell? ⟨w.heap.size, 1, none⟩ = some (.int .i64 0) := (Lib.cell_of_heap hh6 1).trans rfl
 have r2 : X2.cell? ⟨w.heap.size, 2, none⟩ = some (.int .i64 0) := (Lib.cell_of_heap hh6 2).trans rfl
 have r3 : X2.cell? ⟨w.heap.size, 3, none⟩ = some (.int .i64 0) := (Lib.cell_of_heap hh6 3).trans rfl
 have g0 : X2.frozen? ⟨w.heap.size, 0, none⟩ = false := row_freeN hh6 0
 have g1 : X2.frozen? ⟨w.heap.size, 1, none⟩ = false := row_freeN hh6 1
 have g2 : X2.frozen? ⟨w.heap.size, 2, none⟩ = false := row_freeN hh6 2
 have g3 : X2.frozen? ⟨w.heap.size, 3, none⟩ = false := row_freeN hh6 3
 have rz := lt_blkB hh6
 have HH6 := Lib.hid hh6
 clear hb2 hh6
 go_wp2_with fail
 have hbx := blk_setI (i := 3) (y := .int .i64 (vi : Nat)) (blk_setI (i := 2) (y := .int .i64 (e0 : Nat)) (blk_setI (i := 1) (y := .int .i64 (s0 : Nat)) (blk_setI (i := 0) (y := .bool hh.isSome) HH6.out)))
 have HX : Hid (Below w.heap.size w ((((X2.setCell ⟨w.heap.size, 0, none⟩ (.bool hh.isSome)).setCell ⟨w.heap.size, 1, none⟩ (.int .i64 (s0 : Nat))).setCell ⟨w.heap.size, 2, none⟩ (.int .i64 (e0 : Nat))).setCell ⟨w.heap.size, 3, none⟩ (.int .i64 (vi : Nat)))) := Lib.hid ((((HB2.out.setCell (p := ⟨w.heap.size, 0, none⟩) (Nat.le_refl _) _).setCell (p := ⟨w.heap.size, 1, none⟩) (Nat.le_refl _) _).setCell (p := ⟨w.heap.size, 2, none⟩) (Nat.le_refl _) _).setCell (p := ⟨w.heap.size, 3, none⟩) (Nat.le_refl _) _)
 generalize (((X2.setCell ⟨w.heap.size, 0, none⟩ (.bool hh.isSome)).setCell ⟨w.heap.size, 1, none⟩ (.int .i64 (s0 : Nat))).setCell ⟨w.heap.size, 2, none⟩ (.int .i64 (e0 : Nat))).setCell ⟨w.heap.size, 3, none⟩ (.int .i64 (vi : Nat)) = X at *
 have m0 : X.cell? ⟨w.heap.size, 0, none⟩ = some (.bool hh.isSome) := (Lib.cell_of_heap hbx 0).trans rfl
 have m1 : X.cell? ⟨w.heap.size, 1, none⟩ = some (.int .i64 (s0 : Nat)) := (Lib.cell_of_heap hbx 1).trans rfl
 have m2 : X.cell? ⟨w.heap.size, 2, none⟩ = some (.int .i64 (e0 : Nat)) := (Lib.cell_of_heap hbx 2).trans rfl
 have m3 : X.cell? ⟨w.heap.size, 3, none⟩ = some (.int .i64 (vi : Nat)) := (Lib.cell_of_heap hbx 3).trans rfl
 refine bodyPost_ret (v := .agg #[.bool hh.isSome, .int .i64 (s0 : Nat), .int .i64 (e0 : Nat), .int .i64 (vi : Nat)]) (by simp [results, Tryz.results15, go_sem, m0, m1, m2, m3]) rfl ?_
 exact ⟨rfl, HX.out⟩
theorem slongest_nil (sa : Option Addr) (N sc : Nat) (a : Int) (w : World) :
  Calls Tryz.prog 13 #[.pointer none, .slice sa N sc, .int .i64 a] w fun r w' => r = .returned (hitV (((none, 0) : Option (Nat × Nat) × Nat))) ∧ Below w.heap.size w w' := by
 obtain ⟨W, hW⟩ : ∃ W, W = w.alloc (.cells #[.bool false, .int .i64 0, .int .i64 0, .int .i64 0] 30) := ⟨_, rfl⟩
 have hb : Below w.heap.size w W := by rw [hW]; exact (Below.refl _ _).alloc (Nat.le_refl _) _
 have H6 : Hid (W.heap[w.heap.size]? = some (.cells #[.bool false, .int .i64 0, .int .i64 0, .int .i64 0] 30 (0, 0))) := Lib.hid (by rw [hW]; exact alloc_last w _)
 have hz : W.heap.size = w.heap.size + 1 := by rw [hW]; simp
 have HRO := Lib.hid (runOf_any none sa N sc W)
 have HPA : Hid (∀ X, X.heap[W.heap.size]? = some (.cells (runCells (.pointer none) (.slice sa N sc)) 88 (0, 0)) → Below W.heap.size W X → Calls Tryz.prog 23 #[.pointer (some ⟨W.heap.size, 0, none⟩), .int .i64 a, .int .i64 (0 : Nat)] X fun r w' => r = .returned (hitV (((none, 0) : Option (Nat × Nat) × Nat))) ∧ Below W.heap.size X w') := Lib.hid (fun X h1 h2 => (spass_nil W.heap.size sa N sc a 0 X h1).mono fun r w' hq => ⟨hq.1, hq.2.mono h2.size⟩)
 have HB := Lib.hid hb
 have HWE := Lib.hid hW
 obtain ⟨R, hR⟩ : ∃ R, R = ((none, 0) : Option (Nat × Nat) × Nat) := ⟨_, rfl⟩
 rw [← hR] at HPA ⊢
 obtain ⟨hh, vi⟩ := R
 obtain ⟨s0, e0, _, _, hval⟩ := hitC_parts hh
 rw [hval vi] at HPA ⊢
 have HZ := Lib.hid hz
 clear hb hW hR hval hz
 go_enter Tryz.func13, Tryz.ntmps13
 go_upto_region 1 with fail
 rw [← HWE.out]
 go_wp2_with fail
 refine HRO.out.mono ?_
 rintro r X1 ⟨rfl, hc1, hb1⟩
 have HB1 := Lib.hid hb1
 have HPX := Lib.hid (HPA.out X1 hc1 hb1)
 clear hc1 hb1
 go_wp2_with fail
 refine HPX.out.mono ?_
 rintro r X2 ⟨rfl, hb2⟩
 have hh6 : X2.heap[w.heap.size]? = some (.cells #[.bool false, .int .i64 0, .int .i64 0, .int .i64 0] 30 (0, 0)) := (hb2.block _ (by have := HZ.out; omega)).trans (blk_below H6.out HB1.out)
 have HB2 : Hid (Below w.heap.size w X2) := Lib.hid (HB.out.trans ((HB1.out.trans hb2).mono (by have := HZ.out; omega)))
 have r0 : X2.cell? ⟨w.heap.size, 0, none⟩ = some (.bool false) := (Lib.cell_of_heap hh6 0).trans rfl
 have r1 : X2.cell? ⟨w.heap.size, 1, none⟩ = some (.int .i64 0) := (Lib.cell_of_heap hh6 1).trans rfl
 have r2 : X2.cell? ⟨w.heap.size, 2, none⟩ = some (.int .i64 0) := (Lib.cell_of_heap hh6 2).trans rfl
 have r3 : X2.cell? ⟨w.heap.size, 3, none⟩ = some (.int .i64 0) := (Lib.cell_of_heap hh6 3).trans rfl
 have g0 : X2.frozen? ⟨w.heap.size, 0, none⟩ = false := row_freeN hh6 0
 have g1 : X2.frozen? ⟨w.heap.size, 1, none⟩ = false := row_freeN hh6 1
 have g2 : X2.frozen? ⟨w.heap.size, 2, none⟩ = false := row_freeN hh6 2
 have g3 : X2.frozen? ⟨w.heap.size, 3, none⟩ = false := row_freeN hh6 3
 have rz := lt_blkB hh6
 have HH6 := Lib.hid hh6
 clear hb2 hh6
 go_wp2_with fail
 have hbx := blk_setI (i := 3) (y := .int .i64 (vi : Nat)) (blk_setI (i := 2) (y := .int .i64 (e0 : Nat)) (blk_setI (i := 1) (y := .int .i64 (s0 : Nat)) (blk_setI (i := 0) (y := .bool hh.isSome) HH6.out)))
 have HX : Hid (Below w.heap.size w ((((X2.setCell ⟨w.heap.size, 0, none⟩ (.bool hh.isSome)).setCell ⟨w.heap.size, 1, none⟩ (.int .i64 (s0 : Nat))).setCell ⟨w.heap.size, 2, none⟩ (.int .i64 (e0 : Nat))).setCell ⟨w.heap.size, 3, none⟩ (.int .i64 (vi : Nat)))) := Lib.hid ((((HB2.out.setCell (p := ⟨w.heap.size, 0, none⟩) (Nat.le_refl _) _).setCell (p := ⟨w.heap.size, 1, none⟩) (Nat.le_refl _) _).setCell (p := ⟨w.heap.size, 2, none⟩) (Nat.le_refl _) _).setCell (p := ⟨w.heap.size, 3, none⟩) (Nat.le_refl _) _)
 generalize (((X2.setCell ⟨w.heap.size, 0, none⟩ (.bool hh.isSome)).setCell ⟨w.heap.size, 1, none⟩ (.int .i64 (s0 : Nat))).setCell ⟨w.heap.size, 2, none⟩ (.int .i64 (e0 : Nat))).setCell ⟨w.heap.size, 3, none⟩ (.int .i64 (vi : Nat)) = X at *
 have m0 : X.cell? ⟨w.heap.size, 0, none⟩ = some (.bool hh.isSome) := (Lib.cell_of_heap hbx 0).trans rfl
 have m1 : X.cell? ⟨w.heap.size, 1, none⟩ = some (.int .i64 (s0 : Nat)) := (Lib.cell_of_heap hbx 1).trans rfl
 have m2 : X.cell? ⟨w.heap.size, 2, none⟩ = some (.int .i64 (e0 : Nat)) := (Lib.cell_of_heap hbx 2).trans rfl
 have m3 : X.cell? ⟨w.heap.size, 3, none⟩ = some (.int .i64 (vi : Nat)) := (Lib.cell_of_heap hbx 3).trans rfl
 refine bodyPost_ret (v := .agg #[.bool hh.isSome, .int .i64 (s0 : Nat), .int .i64 (e0 : Nat), .int .i64 (vi : Nat)]) (by simp [results, Tryz.results13, go_sem, m0, m1, m2, m3]) rfl ?_
 exact ⟨rfl, HX.out⟩
theorem sany_nil (sa : Option Addr) (N sc : Nat) (a : Int) (w : World) :
  Calls Tryz.prog 14 #[.pointer none, .slice sa N sc, .int .i64 a] w fun r w' => r = .returned (anyV (((none, 0) : Option (Nat × Nat) × Nat))) ∧ Below w.heap.size w w' := by
 obtain ⟨W, hW⟩ : ∃ W, W = w.alloc (.cells #[.bool false, .int .i64 0, .int .i64 0, .int .i64 0] 30) := ⟨_, rfl⟩
 have hb : Below w.heap.size w W := by rw [hW]; exact (Below.refl _ _).alloc (Nat.le_refl _) _
 have H6 : Hid (W.heap[w.heap.size]? = some (.cells #[.bool false, .int .i64 0, .int .i64 0, .int .i64 0] 30 (0, 0))) := Lib.hid (by rw [hW]; exact alloc_last w _)
 have hz : W.heap.size = w.heap.size + 1 := by rw [hW]; simp
 have HRO := Lib.hid (runOf_any none sa N sc W)
 have HPA : Hid (∀ X, X.heap[W.heap.size]? = some (.cells (runCells (.pointer none) (.slice sa N sc)) 88 (0, 0)) → Below W.heap.size W X → Calls Tryz.prog 23 #[.pointer (some ⟨W.heap.size, 0, none⟩), .int .i64 a, .int .i64 (2 : Nat)] X fun r w' => r = .returned (hitV (((none, 0) : Option (Nat × Nat) × Nat))) ∧ Below W.heap.size X w') := Lib.hid (fun X h1 h2 => (spass_nil W.heap.size sa N sc a 2 X h1).mono fun r w' hq => ⟨hq.1, hq.2.mono h2.size⟩)
 have HB := Lib.hid hb
 have HWE := Lib.hid hW
 obtain ⟨R, hR⟩ : ∃ R, R = ((none, 0) : Option (Nat × Nat) × Nat) := ⟨_, rfl⟩
 rw [← hR] at HPA ⊢
 obtain ⟨hh, vi⟩ := R
 obtain ⟨s0, e0, _, _, hval⟩ := hitC_parts hh
 rw [hval vi] at HPA
 have HZ := Lib.hid hz
 unfold anyV
 dsimp only
 clear hb hW hR hval hz
 go_enter Tryz.func14, Tryz.ntmps14
 go_upto_region 1 with fail
 rw [← HWE.out]
 go_wp2_with fail
 refine HRO.out.mono ?_
 rintro r X1 ⟨rfl, hc1, hb1⟩
 have HB1 := Lib.hid hb1
 have HPX := Lib.hid (HPA.out X1 hc1 hb1)
 clear hc1 hb1
 go_wp2_with fail
 refine HPX.out.mono ?_
 rintro r X2 ⟨rfl, hb2⟩
 have hh6 : X2.heap[w.heap.size]? = some (.cells #[.bool false, .int .i64 0, .int .i64 0, .int .i64 0] 30 (0, 0)) := (hb2.block _ (by have := HZ.out; omega)).trans (blk_below H6.out HB1.out)
 have HB2 : Hid (Below w.heap.size w X2) := Lib.hid (HB.out.trans ((HB1.out.trans hb2).mono (by have := HZ.out; omega)))
 have r0 : X2.cell? ⟨w.heap.size, 0, none⟩ = some (.bool false) := (Lib.cell_of_heap hh6 0).trans rfl
 have r1 : X2.cell? ⟨w.heap.size, 1, none⟩ = some (.int .i64 0) := (Lib.cell_of_heap hh6 1).trans rfl
 have r2 : X2.cell? ⟨w.heap.size, 2, none⟩ = some (.int .i64 0) := (Lib.cell_of_heap hh6 2).trans rfl
 have r3 : X2.cell? ⟨w.heap.size, 3, none⟩ = some (.int .i64 0) := (Lib.cell_of_heap hh6 3).trans rfl
 have g0 : X2.frozen? ⟨w.heap.size, 0, none⟩ = false := row_freeN hh6 0
 have g1 : X2.frozen? ⟨w.heap.size, 1, none⟩ = false := row_freeN hh6 1
 have g2 : X2.frozen? ⟨w.heap.size, 2, none⟩ = false := row_freeN hh6 2
 have g3 : X2.frozen? ⟨w.heap.size, 3, none⟩ = false := row_freeN hh6 3
 have rz := lt_blkB hh6
 have HH6 := Lib.hid hh6
 clear hb2 hh6
 go_wp2_with fail
 have hlt6 : w.heap.size < ((((X2.setCell ⟨w.heap.size, 0, none⟩ (.bool hh.isSome)).setCell ⟨w.heap.size, 1, none⟩ (.int .i64 0)).setCell ⟨w.heap.size, 2, none⟩ (.int .i64 0)).setCell ⟨w.heap.size, 3, none⟩ (.int .i64 (vi : Nat))).heap.size := by simpa using rz
 have hbx := blk_alloc (blk_setI (i := 3) (y := .int .i64 (vi : Nat)) (blk_setI (i := 2) (y := .int .i64 0) (blk_setI (i := 1) (y := .int .i64 0) (blk_setI (i := 0) (y := .bool hh.isSome) HH6.out)))) (.cells #[.bool hh.isSome, .int .i64 0, .int .i64 0, .int .i64 (vi : Nat)] 30)
 have HX : Hid (Below w.heap.size w (((((X2.setCell ⟨w.heap.size, 0, none⟩ (.bool hh.isSome)).setCell ⟨w.heap.size, 1, none⟩ (.int .i64 0)).setCell ⟨w.heap.size, 2, none⟩ (.int .i64 0)).setCell ⟨w.heap.size, 3, none⟩ (.int .i64 (vi : Nat))).alloc (.cells #[.bool hh.isSome, .int .i64 0, .int .i64 0, .int .i64 (vi : Nat)] 30))) := Lib.hid (((((HB2.out.setCell (p := ⟨w.heap.size, 0, none⟩) (Nat.le_refl _) _).setCell (p := ⟨w.heap.size, 1, none⟩) (Nat.le_refl _) _).setCell (p := ⟨w.heap.size, 2, none⟩) (Nat.le_refl _) _).setCell (p := ⟨w.heap.size, 3, none⟩) (Nat.le_refl _) _).alloc (Nat.le_of_lt hlt6) _)
 generalize ((((X2.setCell ⟨w.heap.size, 0, none⟩ (.bool hh.isSome)).setCell ⟨w.heap.size, 1, none⟩ (.int .i64 0)).setCell ⟨w.heap.size, 2, none⟩ (.int .i64 0)).setCell ⟨w.heap.size, 3, none⟩ (.int .i64 (vi : Nat))).alloc (.cells #[.bool hh.isSome, .int .i64 0, .int .i64 0, .int .i64 (vi : Nat)] 30) = X at *
 have m0 : X.cell? ⟨w.heap.size, 0, none⟩ = some (.bool hh.isSome) := (Lib.cell_of_heap hbx 0).trans rfl
 have m1 : X.cell? ⟨w.heap.size, 1, none⟩ = some (.int .i64 0) := (Lib.cell_of_heap hbx 1).trans rfl
 have m2 : X.cell? ⟨w.heap.size, 2, none⟩ = some (.int .i64 0) := (Lib.cell_of_heap hbx 2).trans rfl
 have m3 : X.cell? ⟨w.heap.size, 3, none⟩ = some (.int .i64 (vi : Nat)) := (Lib.cell_of_heap hbx 3).trans rfl
 refine bodyPost_ret (v := .agg #[.bool hh.isSome, .int .i64 0, .int .i64 0, .int .i64 (vi : Nat)]) (by simp [results, Tryz.results14, go_sem, m0, m1, m2, m3]) rfl ?_
 exact ⟨rfl, HX.out⟩
theorem srall_nil (rb : Nat) (sa : Option Addr) (N sc : Nat) (w : World) (h : w.heap[rb]? = some (.cells (runCells (.pointer none) (.slice sa N sc)) 88 (0, 0))) :
  Calls Tryz.prog 24 #[.pointer (some ⟨rb, 0, none⟩)] w fun r w' => r = .returned (.slice none 0 0) ∧ Below w.heap.size w w' := by
 have HP := Lib.hid (spass_nil rb sa N sc 0 1 w h)
 clear h
 go_enter Tryz.func24, Tryz.ntmps24
 go_wp2_with fail
 go_loopg [3, 4, 5] 1 (fun gh s3 s4 s5 X => gh = 1 ∧ s3 = .slice none 0 0 ∧ s4 = .int .i64 0 ∧ s5 = .int .i64 (-1) ∧ X = w)
 case atStart => exact ⟨rfl, rfl, rfl, rfl, rfl⟩
 case round =>
  obtain ⟨hgh, rfl, rfl, rfl, rfl⟩ := hrel
  go_wp2_with fail
  refine HP.out.mono ?_
  rintro r X1 ⟨rfl, hb1⟩
  have HB1 := Lib.hid hb1
  clear hb1
  rw [show hitV (none, 0) = .agg #[.bool false, .int .i64 0, .int .i64 0, .int .i64 0] from rfl]
  go_wp2_with fail
  go_ret
  exact ⟨rfl, HB1.out.alloc HB1.out.size _⟩
theorem sall_nil (sa : Option Addr) (N sc : Nat) (w : World) :
  Calls Tryz.prog 16 #[.pointer none, .slice sa N sc] w fun r w' => r = .returned (.slice none 0 0) ∧ Below w.heap.size w w' := by
 have HRO := Lib.hid (runOf_any none sa N sc w)
 have HAL : Hid (∀ X, X.heap[w.heap.size]? = some (.cells (runCells (.pointer none) (.slice sa N sc)) 88 (0, 0)) → Below w.heap.size w X → Calls Tryz.prog 24 #[.pointer (some ⟨w.heap.size, 0, none⟩)] X fun r w' => r = .returned (.slice none 0 0) ∧ Below w.heap.size w w') := Lib.hid (fun X h1 h2 => (srall_nil w.heap.size sa N sc X h1).mono fun r w' hq => ⟨hq.1, h2.trans (hq.2.mono h2.size)⟩)
 go_enter Tryz.func16, Tryz.ntmps16
 go_wp2_with fail
 refine HRO.out.mono ?_
 rintro r X1 ⟨rfl, hc1, hb1⟩
 have HPX := Lib.hid (HAL.out X1 hc1 hb1)
 clear hc1 hb1
 go_wp2_with fail
 refine HPX.out.mono ?_
 rintro r X2 ⟨rfl, hb2⟩
 have HB2 := Lib.hid hb2
 clear hb2
 go_wp2
 go_ret
 exact ⟨rfl, HB2.out⟩
end Go.Proofs.YtnecadgoiolpgaaGreatDoor
