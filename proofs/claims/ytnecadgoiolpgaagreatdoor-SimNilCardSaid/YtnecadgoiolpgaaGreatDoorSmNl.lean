import Derived.Test.YtnecadgoiolpgaaGreatDoorSmNn
import Derived.Test.YtnecadgoiolpgaaGreatDoorKSd
namespace Go.Proofs.YtnecadgoiolpgaaGreatDoor
open Go.RowKit
set_option maxRecDepth 100000 in
set_option maxHeartbeats 8000000 in
theorem snil_any (e : Nat → Addr) (sv : Value) (l : List Int) (a : Int) (w : World) (hs : Snt w e) (he : Es w w.heap.size e) (ht : Ety w) (hsv : Sl w sv l) :
  Calls Tryz.prog 4 #[sv, .int .i64 a] w fun x w' => x = .returned (.bool true) ∧ Below w.heap.size w w' := by
 have HAW : Hid (∀ X, Below w.heap.size w X → Calls Tryz.prog 12 #[] X fun x w' => x = .returned (.bool true) ∧ Below X.heap.size X w') := Lib.hid (fun X hX => awake10_any e X (hs.below hX) ⟨(he.below hX).var, Nat.lt_of_lt_of_le he.low hX.size, Nat.le_refl _⟩ (ht.below hX))
 obtain ⟨sa, sc, rfl⟩ := sl_shapeL hsv
 obtain ⟨N, hN⟩ : ∃ N, N = l.length := ⟨_, rfl⟩
 rw [← hN]
 have HB0 : Hid (Below w.heap.size w w) := Lib.hid (Below.refl _ _)
 clear hs he ht hsv hN
 go_enter Tryz.func4, Tryz.ntmps4
 go_wp2_with fail
 refine (ssearch_nil sa N sc a w).mono ?_
 rintro x w1 ⟨rfl, hb⟩
 have HB1 := Lib.hid hb
 clear hb
 rw [show hitV (none, 0) = .agg #[.bool false, .int .i64 0, .int .i64 0, .int .i64 0] from rfl]
 go_wp2_with fail
 refine (slongest_nil sa N sc a w1).mono ?_
 rintro x w2 ⟨rfl, hb⟩
 have HB2 := Lib.hid (HB1.out.trans (hb.mono HB1.out.size))
 clear hb HB1
 rw [show hitV (none, 0) = .agg #[.bool false, .int .i64 0, .int .i64 0, .int .i64 0] from rfl]
 go_wp2_with fail
 refine (sany_nil sa N sc a w2).mono ?_
 rintro x w3 ⟨rfl, hb⟩
 have HB3 := Lib.hid (HB2.out.trans (hb.mono HB2.out.size))
 clear hb HB2
 rw [show anyV (none, 0) = .agg #[.bool false, .int .i64 0, .int .i64 0, .int .i64 0] from rfl]
 go_wp2_with fail
 refine (sall_nil sa N sc w3).mono ?_
 rintro x w4 ⟨rfl, hb⟩
 have HB4 := Lib.hid (HB3.out.trans (hb.mono HB3.out.size))
 clear hb HB3
 go_wp2_with fail
 refine (HAW.out w4 HB4.out).mono ?_
 rintro x w5 ⟨rfl, hb⟩
 have HB5 := Lib.hid (HB4.out.trans (hb.mono HB4.out.size))
 clear hb HB4
 go_wp2
 go_ret
 exact ⟨rfl, HB5.out⟩
end Go.Proofs.YtnecadgoiolpgaaGreatDoor
