import Derived.Test.YtnpkcllbpnmabaaGreatDoorSeBel
import Derived.BigRegion
import Derived.StillTailTactics
namespace Go.Proofs.YtnpkcllbpnmabaaGreatDoor
open Go.RowKit
theorem sw_andNot (p q : Nat → Bool) (i : Nat) : bits .andNot .u64 (sw p i : Int) (sw q i : Int) = (sw (fun c => p c && !q c) i : Nat) := wd_andNot _ _
set_option maxHeartbeats 4000000 in
theorem without_any (p q : Nat → Bool) (w : World) :
  Calls Tryz.prog 85 #[SV p, SV q] w fun e w' => e = .returned (SV fun c => p c && !q c) ∧ Below w.heap.size w w' := by
 have b0 := sw_andNot p q 0
 have b1 := sw_andNot p q 1
 have b2 := sw_andNot p q 2
 have b3 := sw_andNot p q 3
 unfold SV
 generalize sw p 0 = x0 at *
 generalize sw p 1 = x1 at *
 generalize sw p 2 = x2 at *
 generalize sw p 3 = x3 at *
 generalize sw q 0 = y0 at *
 generalize sw q 1 = y1 at *
 generalize sw q 2 = y2 at *
 generalize sw q 3 = y3 at *
 go_enter Tryz.func85, Tryz.ntmps85
 go_wp2
 refine wp_loop_rounds 5 ?_
 iterate 4 (rw [rounds_succ]; go_wp2; go_region; go_wp2)
 rw [rounds_succ]
 go_wp2
 exact bodyPost_ret (by simp [results, Tryz.results85, go_sem]) rfl ⟨rfl, ((((((((Below.refl _ _).alloc (Nat.le_refl _) _).alloc (by simp) _).alloc (by simp; omega) _).drew).drew).drew).drew)⟩
end Go.Proofs.YtnpkcllbpnmabaaGreatDoor
