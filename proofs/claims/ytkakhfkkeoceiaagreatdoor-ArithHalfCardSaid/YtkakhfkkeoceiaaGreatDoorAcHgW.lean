import Derived.Test.YtkakhfkkeoceiaaGreatDoorRows
import Derived.Test.YtkakhfkkeoceiaaGreatDoorCards
import Derived.Lay
import Derived.MakeChecks
import Derived.SizedLaws
import Derived.ProofKit
import Derived.LaidMore
import Derived.Stop.Joined
import Derived.Carry
namespace Go.Proofs.YtkakhfkkeoceiaaGreatDoor
set_option maxRecDepth 100000
open Go.ChangeShapes Go.WideShapes Go.ChangeAt Go.RowKit
theorem arithHalf_own : ownKnob Tryz.prog.godebug = none := by kernel_rfl
theorem arithHalf_laidOut : laidOutB Tryz.prog = true := by kernel_rfl
theorem arithHalf_s1 (os : Os) : ((World.laidAll Tryz.prog os Rows.arithHalfRow.laid).forCall (fun _ _ => 0) ⟨#[], #[.slice none 0 0, .string ⟨#[]⟩], []⟩).variablesZipB Tryz.prog = true := by kernel_rfl
theorem arithHalf_s2 (os : Os) : (((World.laidAll Tryz.prog os Rows.arithHalfRow.laid).forCall (fun _ _ => 0) ⟨#[], #[.slice none 0 0, .string ⟨#[]⟩], []⟩).heap.toList.drop Tryz.prog.globals.size).take ((begin Tryz.prog (fun _ _ => 0) default).world.heap.size - Tryz.prog.globals.size) = (begin Tryz.prog (fun _ _ => 0) default).world.heap.toList.drop Tryz.prog.globals.size := by kernel_rfl
theorem arithHalf_s3 (os : Os) : Input.okWideB Tryz.prog ((World.laidAll Tryz.prog os Rows.arithHalfRow.laid).forCall (fun _ _ => 0) ⟨#[], #[.slice none 0 0, .string ⟨#[]⟩], []⟩) 10 ⟨#[], #[.slice none 0 0, .string ⟨#[]⟩], []⟩ = true := by kernel_rfl
theorem arithHalf_s4 {H : Type} (enc : TypeId × Value → H) (os : Os) : Rows.arithHalfSpec.preB enc Tryz.prog Tryz.f10 [] false ((World.laidAll Tryz.prog os Rows.arithHalfRow.laid).forCall (fun _ _ => 0) ⟨#[], #[.slice none 0 0, .string ⟨#[]⟩], []⟩).memory #[.slice none 0 0, .string ⟨#[]⟩] 8 = true := by kernel_rfl
theorem arithHalf_s5 {H : Type} (enc : TypeId × Value → H) (os : Os) : Rows.arithHalfSpec.sizedB enc Tryz.prog Tryz.f10 false ((World.laidAll Tryz.prog os Rows.arithHalfRow.laid).forCall (fun _ _ => 0) ⟨#[], #[.slice none 0 0, .string ⟨#[]⟩], []⟩).memory #[.slice none 0 0, .string ⟨#[]⟩] 8 = true := by kernel_rfl
theorem arithHalf_s6 (os : Os) : laidMetH Tryz.prog Rows.arithHalfRow.laid ((World.laidAll Tryz.prog os Rows.arithHalfRow.laid).forCall (fun _ _ => 0) ⟨#[], #[.slice none 0 0, .string ⟨#[]⟩], []⟩).memory := by rw [MakeChecks.laidMetH_plain _ _ _ (by kernel_rfl)]; exact laidMet_laidAll _ (by kernel_rfl) (by kernel_rfl)
end Go.Proofs.YtkakhfkkeoceiaaGreatDoor
