/- Contracts of digit and isBase. -/
import Derived.Test.YtopnckfmdjhbjaaGreatDoorProg
import Derived.Test.YtopnckfmdjhbjaaGreatDoorScMath
import Derived.Outline
import Derived.Lib.Hide
import Derived.BigQuiet
import Derived.BigGuardPart
namespace Go.Proofs.YtopnckfmdjhbjaaGreatDoor
open Go.RowKit

theorem ret_int {k : IntKind} {a b : Int} (h : a = b) : Ending.returned (.int k a) = .returned (.int k b) := by rw [h]
theorem ret_bool {a b : Bool} (h : a = b) : Ending.returned (.bool a) = .returned (.bool b) := by rw [h]

set_option maxHeartbeats 2000000 in
theorem isBase_any (b : Int) (w : World) :
    Calls Tryz.prog 90 #[.int .i64 b] w fun e w' => e = .returned (.bool (decide (2 ≤ b ∧ b ≤ 16))) ∧ w = w' := by
  rcases (by omega : b < 2 ∨ (2 ≤ b ∧ b ≤ 16) ∨ 16 < b) with h | h | h
  all_goals
    have hd : ∃ x, x = decide (2 ≤ b ∧ b ≤ 16) := ⟨_, rfl⟩
    obtain ⟨x, hx⟩ := hd
    rw [← hx]
    have HX := Lib.hid hx
    clear hx
    go_enter Tryz.func90, Tryz.ntmps90
    go_wp2
    all_goals
      go_ret
      exact ⟨ret_bool (by rw [HX.out]; simp; omega), rfl⟩

end Go.Proofs.YtopnckfmdjhbjaaGreatDoor
