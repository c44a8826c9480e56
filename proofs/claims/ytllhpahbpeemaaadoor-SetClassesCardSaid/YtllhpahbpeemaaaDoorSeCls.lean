/- The contract of Class, given named's. -/
import Derived.Test.YtllhpahbpeemaaaDoorSeEq
namespace Go.Proofs.YtllhpahbpeemaaaDoor
open Go.RowKit

/-- Has it a byte? -/
def anyS (p : Nat → Bool) : Bool := !((((sw p 0 : Nat) : Int) == 0) && ((((sw p 1 : Nat) : Int) == 0) && ((((sw p 2 : Nat) : Int) == 0) && (((sw p 3 : Nat) : Int) == 0))))

set_option maxRecDepth 100000 in
set_option maxHeartbeats 8000000 in
theorem class_of (nm : ByteArray) (p : Nat → Bool) (hn : ∀ w, Calls Tryd.prog 38 #[.string nm] w fun e w' => e = .returned (SV p) ∧ Below w.heap.size w w') (w : World) :
    Calls Tryd.prog 27 #[.string nm] w fun e w' => e = .returned (.tuple #[SV p, .bool (anyS p)]) ∧ Below w.heap.size w w' := by
  have HN := Lib.hid hn
  clear hn
  obtain ⟨b, hb⟩ : ∃ b, b = anyS p := ⟨_, rfl⟩
  rw [← hb]
  have he : ∀ w, (Op.equalIn 10000 24 (.agg #[.int .u64 (sw p 0 : Nat), .int .u64 (sw p 1 : Nat), .int .u64 (sw p 2 : Nat), .int .u64 (sw p 3 : Nat)]) (.agg #[.int .u64 0, .int .u64 0, .int .u64 0, .int .u64 0])).run Tryd.prog w = .ok (!b) w := fun w => by
    rw [hb]
    unfold anyS
    rw [Bool.not_not]
    exact eq_arr 9998 _ _ _ _ _ _ _ _ w
  clear hb
  go_enter Tryd.func27, Tryd.ntmps27
  go_wp2_with fail
  refine (HN.out _).mono ?_
  rintro e w1 ⟨rfl, hb1⟩
  have HB := Lib.hid (hb1.mono (show w.heap.size + 1 ≤ (w.alloc (.cells #[.int .u64 0, .int .u64 0, .int .u64 0, .int .u64 0] 24)).heap.size by simp))
  clear hb1
  obtain ⟨c0, c1, c2, c3, g0, g1, g2, g3, hz⟩ := res_facts HB.out (Nat.lt_succ_self _)
  unfold SV
  go_wp2
  go_region
  all_goals
    go_wp2
    exact bodyPost_ret (by simp [results, Tryd.results27, go_sem, World.cell?_alloc_lt, hz, c0, c1, c2, c3]; rfl) rfl ⟨rfl, (((res_below HB.out _ _ _ _).alloc (by simp; exact Nat.le_of_lt hz) _).drew)⟩
end Go.Proofs.YtllhpahbpeemaaaDoor
