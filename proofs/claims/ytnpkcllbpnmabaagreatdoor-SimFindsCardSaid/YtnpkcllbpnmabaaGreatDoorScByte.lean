import Derived.Test.YtnpkcllbpnmabaaGreatDoorProg
import Derived.Test.YtnpkcllbpnmabaaGreatDoorScMath
import Derived.Outline
import Derived.Lib.Hide
import Derived.BigQuiet
import Derived.BigGuardPart
namespace Go.Proofs.YtnpkcllbpnmabaaGreatDoor
open Go.RowKit
theorem ret_int {k : IntKind} {a b : Int} (h : a = b) : Ending.returned (.int k a) = .returned (.int k b) := by rw [h]
set_option maxHeartbeats 2000000 in
theorem digit_any (c : Int) (w : World) (h0 : 0 ≤ c) (h1 : c ≤ 255) :
  Calls Tryz.prog 107 #[.int .u8 c] w fun e w' => e = .returned (.int .u64 (dgt c)) ∧ w = w' := by
 rcases (by omega : c < 48 ∨ (48 ≤ c ∧ c ≤ 57) ∨ (57 < c ∧ c < 65) ∨ (65 ≤ c ∧ c ≤ 70) ∨ (70 < c ∧ c < 97) ∨ (97 ≤ c ∧ c ≤ 102) ∨ 102 < c) with h | h | h | h | h | h | h
 all_goals
  go_enter Tryz.func107, Tryz.ntmps107
  go_wp2
  all_goals
   go_ret
   exact ⟨ret_int (by unfold dgt; (repeat' split) <;> omega), rfl⟩
end Go.Proofs.YtnpkcllbpnmabaaGreatDoor
