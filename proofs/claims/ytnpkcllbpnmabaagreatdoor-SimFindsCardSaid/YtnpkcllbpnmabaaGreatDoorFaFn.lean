import Derived.Test.YtnpkcllbpnmabaaGreatDoorKFa
import Derived.Defers
import Derived.Recover
import Derived.RegionTactic
import Derived.ChangeAlike
namespace Go.Proofs.YtnpkcllbpnmabaaGreatDoor
open Go.RowKit Go.Extern.Stop Go.Stop Go.Extern
set_option maxHeartbeats 4000000 in
theorem of_some (s : Nat → Addr) (w : World) (hs : Snt w s) (k : Nat) (h1 : 1 ≤ k) (h2 : k ≤ 21) :
  Calls Tryz.prog 20 #[.int .i64 k] w fun e w' => e = .returned (bot (s k)) ∧ w = w' := by
 have hv := hs.var k h1 h2
 have HS := Lib.hid hs
 clear hs
 unfold bot
 obtain rfl | rfl | rfl | rfl | rfl | rfl | rfl | rfl | rfl | rfl | rfl | rfl | rfl | rfl | rfl | rfl | rfl | rfl | rfl | rfl | rfl : k = 1 ∨ k = 2 ∨ k = 3 ∨ k = 4 ∨ k = 5 ∨ k = 6 ∨ k = 7 ∨ k = 8 ∨ k = 9 ∨ k = 10 ∨ k = 11 ∨ k = 12 ∨ k = 13 ∨ k = 14 ∨ k = 15 ∨ k = 16 ∨ k = 17 ∨ k = 18 ∨ k = 19 ∨ k = 20 ∨ k = 21 := by omega
 all_goals
  try simp only [Nat.reduceSub] at hv
  go_enter Tryz.func20, Tryz.ntmps20
  go_wp2
  go_ret
  exact ⟨rfl, rfl⟩
theorem wrap_At (vt : TypeId) (vv : Value) (n : Int) (w : World) :
  Calls Tryz.prog 22 #[.iface vt vv, .int .i64 n] w fun e w' => e = .returned (.iface 98 (.pointer (some ⟨w.heap.size, 0, none⟩))) ∧ w' = w.alloc (.cells #[.iface vt vv, .int .i64 n] 100) := by
 go_enter Tryz.func22, Tryz.ntmps22
 go_wp2
 go_ret
 exact ⟨rfl, rfl⟩
theorem wrap_In (vt : TypeId) (vv : Value) (n : Int) (w : World) :
  Calls Tryz.prog 21 #[.iface vt vv, .int .i64 n] w fun e w' => e = .returned (.iface 95 (.pointer (some ⟨w.heap.size, 0, none⟩))) ∧ w' = w.alloc (.cells #[.iface vt vv, .int .i64 n] 97) := by
 go_enter Tryz.func21, Tryz.ntmps21
 go_wp2
 go_ret
 exact ⟨rfl, rfl⟩
end Go.Proofs.YtnpkcllbpnmabaaGreatDoor
