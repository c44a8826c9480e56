/- The witness of ArithLaws: each check by itself. -/
import Derived.Test.YthpmkpnndbjflaaGreatDoorRows
import Derived.Test.YthpmkpnndbjflaaGreatDoorCards
import Derived.Lay
import Derived.MakeChecks
import Derived.SizedLaws
import Derived.ProofKit
import Derived.LaidMore
import Derived.Stop.Joined
import Derived.Carry
namespace Go.Proofs.YthpmkpnndbjflaaGreatDoor
open Go.ChangeShapes Go.WideShapes Go.ChangeAt Go.RowKit

theorem arithLaws_own : ownKnob Tryz.prog.godebug = none := by kernel_rfl
theorem arithLaws_laidOut : laidOutB Tryz.prog = true := by kernel_rfl
set_option maxRecDepth 100000 in
theorem arithLaws_s1 (os : Os) : ((World.laidAll Tryz.prog os Rows.arithLawsRow.laid).forCall (fun _ _ => 0) ⟨#[], #[.slice none 0 0, .slice none 0 0, .slice none 0 0], []⟩).variablesZipB Tryz.prog = true := by kernel_rfl
set_option maxRecDepth 100000 in
theorem arithLaws_s2 (os : Os) : (((World.laidAll Tryz.prog os Rows.arithLawsRow.laid).forCall (fun _ _ => 0) ⟨#[], #[.slice none 0 0, .slice none 0 0, .slice none 0 0], []⟩).heap.toList.drop Tryz.prog.globals.size).take ((begin Tryz.prog (fun _ _ => 0) default).world.heap.size - Tryz.prog.globals.size) = (begin Tryz.prog (fun _ _ => 0) default).world.heap.toList.drop Tryz.prog.globals.size := by kernel_rfl
set_option maxRecDepth 100000 in
theorem arithLaws_s3 (os : Os) : Input.okWideB Tryz.prog ((World.laidAll Tryz.prog os Rows.arithLawsRow.laid).forCall (fun _ _ => 0) ⟨#[], #[.slice none 0 0, .slice none 0 0, .slice none 0 0], []⟩) 6 ⟨#[], #[.slice none 0 0, .slice none 0 0, .slice none 0 0], []⟩ = true := by kernel_rfl
set_option maxRecDepth 100000 in
theorem arithLaws_s4 {H : Type} (enc : TypeId × Value → H) (os : Os) : Rows.arithLawsSpec.preB enc Tryz.prog Tryz.f6 [] false ((World.laidAll Tryz.prog os Rows.arithLawsRow.laid).forCall (fun _ _ => 0) ⟨#[], #[.slice none 0 0, .slice none 0 0, .slice none 0 0], []⟩).memory #[.slice none 0 0, .slice none 0 0, .slice none 0 0] 8 = true := by kernel_rfl
set_option maxRecDepth 100000 in
theorem arithLaws_s5 {H : Type} (enc : TypeId × Value → H) (os : Os) : Rows.arithLawsSpec.sizedB enc Tryz.prog Tryz.f6 false ((World.laidAll Tryz.prog os Rows.arithLawsRow.laid).forCall (fun _ _ => 0) ⟨#[], #[.slice none 0 0, .slice none 0 0, .slice none 0 0], []⟩).memory #[.slice none 0 0, .slice none 0 0, .slice none 0 0] 8 = true := by kernel_rfl
set_option maxRecDepth 100000 in
theorem arithLaws_s6 (os : Os) : laidMetH Tryz.prog Rows.arithLawsRow.laid ((World.laidAll Tryz.prog os Rows.arithLawsRow.laid).forCall (fun _ _ => 0) ⟨#[], #[.slice none 0 0, .slice none 0 0, .slice none 0 0], []⟩).memory := by rw [MakeChecks.laidMetH_plain _ _ _ (by kernel_rfl)]; exact laidMet_laidAll _ (by kernel_rfl) (by kernel_rfl)
end Go.Proofs.YthpmkpnndbjflaaGreatDoor
