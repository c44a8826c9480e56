/- Contracts of digit and isBase. -/
import Derived.Test.YtacfglopionkfaaGreatDoorProg
import Derived.Test.YtacfglopionkfaaGreatDoorScMath
import Derived.Outline
import Derived.Lib.Hide
import Derived.BigQuiet
import Derived.BigGuardPart
namespace Go.Proofs.YtacfglopionkfaaGreatDoor
open Go.RowKit

theorem ret_int {k : IntKind} {a b : Int} (h : a = b) : Ending.returned (.int k a) = .returned (.int k b) := by rw [h]
theorem ret_bool {a b : Bool} (h : a = b) : Ending.returned (.bool a) = .returned (.bool b) := by rw [h]

set_option maxHeartbeats 2000000 in
theorem digit_any (c : Int) (w : World) (h0 : 0 ≤ c) (h1 : c ≤ 255) :
    Calls Tryz.prog 169 #[.int .u8 c] w fun e w' => e = .returned (.int .u64 (dgt c)) ∧ w = w' := by
  rcases (by omega : c < 48 ∨ (48 ≤ c ∧ c ≤ 57) ∨ (57 < c ∧ c < 65) ∨ (65 ≤ c ∧ c ≤ 70) ∨ (70 < c ∧ c < 97) ∨ (97 ≤ c ∧ c ≤ 102) ∨ 102 < c) with h | h | h | h | h | h | h
  all_goals
    go_enter Tryz.func169, Tryz.ntmps169
    go_wp2
    all_goals
      go_ret
      exact ⟨ret_int (by unfold dgt; (repeat' split) <;> omega), rfl⟩

set_option maxHeartbeats 2000000 in
theorem isBase_any (b : Int) (w : World) :
    Calls Tryz.prog 170 #[.int .i64 b] w fun e w' => e = .returned (.bool (decide (2 ≤ b ∧ b ≤ 16))) ∧ w = w' := by
  rcases (by omega : b < 2 ∨ (2 ≤ b ∧ b ≤ 16) ∨ 16 < b) with h | h | h
  all_goals
    have hd : ∃ x, x = decide (2 ≤ b ∧ b ≤ 16) := ⟨_, rfl⟩
    obtain ⟨x, hx⟩ := hd
    rw [← hx]
    have HX := Lib.hid hx
    clear hx
    go_enter Tryz.func170, Tryz.ntmps170
    go_wp2
    all_goals
      go_ret
      exact ⟨ret_bool (by rw [HX.out]; simp; omega), rfl⟩

end Go.Proofs.YtacfglopionkfaaGreatDoor
