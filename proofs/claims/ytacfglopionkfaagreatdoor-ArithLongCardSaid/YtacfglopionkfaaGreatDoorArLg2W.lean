/- The witness of ArithLong: each check by itself. -/
import Derived.Test.YtacfglopionkfaaGreatDoorRows
import Derived.Test.YtacfglopionkfaaGreatDoorCards
import Derived.SizedLaws
import Derived.ProofKit
import Derived.LaidMore
import Derived.Stop.Joined
import Derived.Carry
namespace Go.Proofs.YtacfglopionkfaaGreatDoor
open Go.ChangeShapes Go.WideShapes Go.ChangeAt Go.RowKit

theorem arithLong_own : ownKnob Tryz.prog.godebug = none := by kernel_rfl
theorem arithLong_laidOut : laidOutB Tryz.prog = true := by kernel_rfl
theorem arithLong_door (os : Os) (args : Array Value) : laidMetH Tryz.prog Rows.arithLongRow.laid ((World.doorLaid Tryz.prog 440 os).forCall (fun _ _ => 0) ⟨#[], args, []⟩).memory :=
  laidMetH_of_parts3 (fuel := 8) (laidMet_of_run' 8 (by kernel_rfl) (by kernel_rfl)) (by kernel_rfl) (by kernel_rfl)
end Go.Proofs.YtacfglopionkfaaGreatDoor
