import Derived.Test.YtnpkcllbpnmabaaGreatDoorScByte
namespace Go.Proofs.YtnpkcllbpnmabaaGreatDoor
open Go.RowKit
set_option maxHeartbeats 2000000 in
theorem plus_any (a b : Nat) (h : a + b ≤ 1099511627776) (w : World) :
  Calls Tryz.prog 36 #[.int .i64 (a : Nat), .int .i64 (b : Nat)] w fun r w' => r = .returned (.int .i64 ((min (a + b) 4001 : Nat) : Int)) ∧ w' = w := by
 by_cases hc : a + b < 4001
 ·have hi : ((a : Int) + (b : Int)) < 4001 := by omega
  have hi2 : ¬ (4001 : Int) < ((a : Int) + (b : Int)) := by omega
  have hmin : ((min (a + b) 4001 : Nat) : Int) = (a : Int) + (b : Int) := by omega
  rw [hmin]
  clear hmin
  go_enter Tryz.func36, Tryz.ntmps36
  go_wp2
  go_ret
  exact ⟨rfl, rfl⟩
 ·have hmin : ((min (a + b) 4001 : Nat) : Int) = 4001 := by omega
  rw [hmin]
  clear hmin
  by_cases he : a + b = 4001
  ·have hi : ((a : Int) + (b : Int)) = 4001 := by omega
   go_enter Tryz.func36, Tryz.ntmps36
   go_wp2_with (first | rw [hi] | fail)
   all_goals
    go_ret
    first | exact ⟨rfl, rfl⟩ | (rw [hi]; exact ⟨rfl, rfl⟩) | exact ⟨by congr 2; omega, rfl⟩
  ·have hi : ¬ ((a : Int) + (b : Int)) < 4001 := by omega
   have hi2 : (4001 : Int) < ((a : Int) + (b : Int)) := by omega
   have hi3 : (4001 : Int) ≤ ((a : Int) + (b : Int)) := by omega
   have hi4 : ¬ ((a : Int) + (b : Int)) ≤ 4001 := by omega
   go_enter Tryz.func36, Tryz.ntmps36
   go_wp2
   all_goals
    go_ret
    first | exact ⟨rfl, rfl⟩ | exact ⟨by congr 2; omega, rfl⟩
end Go.Proofs.YtnpkcllbpnmabaaGreatDoor
