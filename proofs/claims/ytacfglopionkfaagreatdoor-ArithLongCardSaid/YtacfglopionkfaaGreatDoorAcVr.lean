/- Contract of the reference's value. -/
import Derived.Test.YtacfglopionkfaaGreatDoorScByte
namespace Go.Proofs.YtacfglopionkfaaGreatDoor
open Go.RowKit

/-- What the reference's value tells of a byte. -/
def refv (c : Int) : Int := if dgt c = 16 then 99 else dgt c
set_option maxHeartbeats 2000000 in
theorem value_any (c : Int) (w : World) (h0 : 0 ≤ c) (h1 : c ≤ 255) :
    Calls Tryz.prog 109 #[.int .u8 c] w fun e w' => e = .returned (.int .i64 (refv c)) ∧ w = w' := by
  rcases (by omega : c < 48 ∨ (48 ≤ c ∧ c ≤ 57) ∨ (57 < c ∧ c < 65) ∨ (65 ≤ c ∧ c ≤ 70) ∨ (70 < c ∧ c < 97) ∨ (97 ≤ c ∧ c ≤ 102) ∨ 102 < c) with h | h | h | h | h | h | h
  all_goals
    go_enter Tryz.func109, Tryz.ntmps109
    go_wp2
    all_goals
      go_ret
      exact ⟨ret_int (by unfold refv dgt; (repeat' split) <;> omega), rfl⟩

end Go.Proofs.YtacfglopionkfaaGreatDoor
