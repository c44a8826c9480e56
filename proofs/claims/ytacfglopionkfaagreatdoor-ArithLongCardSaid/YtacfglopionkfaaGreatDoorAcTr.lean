/- The reference's Trim: what strings.Trim tells at the three white bytes. -/
import Derived.Test.YtacfglopionkfaaGreatDoorArTok
import Derived.Lib.SlTrimSet
import Derived.LoopTactic
import Derived.Deep.QuietTactic
namespace Go.Proofs.YtacfglopionkfaaGreatDoor
open Go.RowKit

theorem whiteR_any (c : Int) (w : World) : Calls Tryz.prog 78 #[.int .u8 c] w fun e w' => e = .returned (.bool (whiteB c)) ∧ w = w' := by
  have hd : ∃ x, x = whiteB c := ⟨_, rfl⟩
  obtain ⟨x, hx⟩ := hd
  rw [← hx]
  have HX := Lib.hid hx
  clear hx
  go_enter Tryz.func78, Tryz.ntmps78
  go_wp2
  all_goals
    go_ret
    exact ⟨ret_bool (by rw [HX.out]; unfold whiteB; rw [Bool.eq_iff_iff]; simp; try omega), rfl⟩
end Go.Proofs.YtacfglopionkfaaGreatDoor
