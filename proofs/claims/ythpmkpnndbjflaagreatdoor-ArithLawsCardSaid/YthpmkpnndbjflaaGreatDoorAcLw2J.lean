/- The closed facts of the row of ArithLaws, one by one. -/
import Derived.Test.YthpmkpnndbjflaaGreatDoorProg
import Derived.Test.YthpmkpnndbjflaaGreatDoorRows
import Derived.JoinedOf
import Derived.ProofKit
namespace Go.Proofs.YthpmkpnndbjflaaGreatDoor
open Go.ChangeShapes Go.WideShapes Go.ChangeAt Go.RowKit

theorem arithLaws_and {x y : Bool} (hx : x = true) (hy : y = true) : (x && y) = true := by rw [hx, hy]; rfl
set_option maxRecDepth 100000 in
theorem arithLaws_l0 : (Rows.arithLawsRow.wf (OpenSpec.ofChange Rows.arithLawsSpec)) = true := by kernel_rfl
set_option maxRecDepth 100000 in
theorem arithLaws_l1 : (laidOutB Tryz.prog) = true := by kernel_rfl
set_option maxRecDepth 100000 in
theorem arithLaws_l2 : (mapsRowed Tryz.prog) = true := by kernel_rfl
set_option maxRecDepth 100000 in
theorem arithLaws_l4 : (namedTie Tryz.prog Rows.arithLawsRow.named Rows.arithLawsSpec.vars) = true := by kernel_rfl
set_option maxRecDepth 100000 in
theorem arithLaws_l9 : ((Rows.arithLawsRow.inPlace == Tryz.prog.inPlace 6)) = true := by kernel_rfl
set_option maxRecDepth 100000 in
theorem arithLaws_l10 : ((Rows.arithLawsRow.unfollowed == Tryz.prog.unfollowed 6)) = true := by kernel_rfl
set_option maxRecDepth 100000 in
theorem arithLaws_l11 : ((Rows.arithLawsRow.recurses == Tryz.prog.recurses 6)) = true := by kernel_rfl
set_option maxRecDepth 100000 in
theorem arithLaws_l12 : ((Rows.arithLawsRow.named == Tryz.prog.varsNamed 6)) = true := by kernel_rfl
set_option maxRecDepth 100000 in
theorem arithLaws_l22 : ((Rows.arithLawsRow.plainKeys == Tryz.prog.plainKeys)) = true := by kernel_rfl
set_option maxRecDepth 100000 in
theorem arithLaws_l24 : (Tryz.prog.stopsHeard) = true := by kernel_rfl
set_option maxRecDepth 100000 in
theorem arithLaws_l25 : (Tryz.prog.mayEnter) = true := by kernel_rfl
set_option maxRecDepth 100000 in
theorem arithLaws_l26 : ((Rows.arithLawsRow.lifted == Tryz.prog.liftsFinal)) = true := by kernel_rfl
set_option maxRecDepth 100000 in
theorem arithLaws_l27 : ((Tryz.prog.make == some Rows.arithLawsRow.make)) = true := by kernel_rfl
set_option maxRecDepth 100000 in
theorem arithLaws_joined : joinedFacts Tryz.prog 6 Tryz.f6 Rows.arithLawsSpec Rows.arithLawsRow = true :=
  (arithLaws_and (arithLaws_and (arithLaws_and (arithLaws_and (arithLaws_and (arithLaws_and (arithLaws_and (arithLaws_and (arithLaws_and (arithLaws_and (arithLaws_and (arithLaws_and (arithLaws_and (arithLaws_and (arithLaws_and (arithLaws_and (arithLaws_and (arithLaws_and (arithLaws_and (arithLaws_and (arithLaws_and (arithLaws_and (arithLaws_and (arithLaws_and (arithLaws_and (arithLaws_and (arithLaws_and (arithLaws_and (arithLaws_and (arithLaws_and (arithLaws_and arithLaws_l0 arithLaws_l1) arithLaws_l2) (by kernel_rfl)) arithLaws_l4) (by kernel_rfl)) (by kernel_rfl)) (by kernel_rfl)) (by kernel_rfl)) arithLaws_l9) arithLaws_l10) arithLaws_l11) arithLaws_l12) (by kernel_rfl)) (by kernel_rfl)) (by kernel_rfl)) (by kernel_rfl)) (by kernel_rfl)) (by kernel_rfl)) (by kernel_rfl)) (by kernel_rfl)) (by kernel_rfl)) arithLaws_l22) (by kernel_rfl)) arithLaws_l24) arithLaws_l25) arithLaws_l26) arithLaws_l27) (by kernel_rfl)) (by kernel_rfl)) (by kernel_rfl)) (by kernel_rfl))
end Go.Proofs.YthpmkpnndbjflaaGreatDoor
