import Derived.Test.YtkakhfkkeoceiaaGreatDoorProg
import Derived.Test.YtkakhfkkeoceiaaGreatDoorRows
import Derived.JoinedOf
import Derived.ProofKit
namespace Go.Proofs.YtkakhfkkeoceiaaGreatDoor
set_option maxRecDepth 100000
open Go.ChangeShapes Go.WideShapes Go.ChangeAt Go.RowKit
theorem arithValues_and {x y : Bool} (hx : x = true) (hy : y = true) : (x && y) = true := by rw [hx, hy]; rfl
theorem arithValues_l0 : (Rows.arithValuesRow.wf (OpenSpec.ofChange Rows.arithValuesSpec)) = true := by kernel_rfl
theorem arithValues_l1 : (laidOutB Tryz.prog) = true := by kernel_rfl
theorem arithValues_l2 : (mapsRowed Tryz.prog) = true := by kernel_rfl
theorem arithValues_l4 : (namedTie Tryz.prog Rows.arithValuesRow.named Rows.arithValuesSpec.vars) = true := by kernel_rfl
theorem arithValues_l9 : ((Rows.arithValuesRow.inPlace == Tryz.prog.inPlace 5)) = true := by kernel_rfl
theorem arithValues_l10 : ((Rows.arithValuesRow.unfollowed == Tryz.prog.unfollowed 5)) = true := by kernel_rfl
theorem arithValues_l11 : ((Rows.arithValuesRow.recurses == Tryz.prog.recurses 5)) = true := by kernel_rfl
theorem arithValues_l12 : ((Rows.arithValuesRow.named == Tryz.prog.varsNamed 5)) = true := by kernel_rfl
theorem arithValues_l22 : ((Rows.arithValuesRow.plainKeys == Tryz.prog.plainKeys)) = true := by kernel_rfl
theorem arithValues_l24 : (Tryz.prog.stopsHeard) = true := by kernel_rfl
theorem arithValues_l25 : (Tryz.prog.mayEnter) = true := by kernel_rfl
theorem arithValues_l26 : ((Rows.arithValuesRow.lifted == Tryz.prog.liftsFinal)) = true := by kernel_rfl
theorem arithValues_l27 : ((Tryz.prog.make == some Rows.arithValuesRow.make)) = true := by kernel_rfl
theorem arithValues_joined : joinedFacts Tryz.prog 5 Tryz.f5 Rows.arithValuesSpec Rows.arithValuesRow = true :=
 (arithValues_and (arithValues_and (arithValues_and (arithValues_and (arithValues_and (arithValues_and (arithValues_and (arithValues_and (arithValues_and (arithValues_and (arithValues_and (arithValues_and (arithValues_and (arithValues_and (arithValues_and (arithValues_and (arithValues_and (arithValues_and (arithValues_and (arithValues_and (arithValues_and (arithValues_and (arithValues_and (arithValues_and (arithValues_and (arithValues_and (arithValues_and (arithValues_and (arithValues_and (arithValues_and (arithValues_and arithValues_l0 arithValues_l1) arithValues_l2) (by kernel_rfl)) arithValues_l4) (by kernel_rfl)) (by kernel_rfl)) (by kernel_rfl)) (by kernel_rfl)) arithValues_l9) arithValues_l10) arithValues_l11) arithValues_l12) (by kernel_rfl)) (by kernel_rfl)) (by kernel_rfl)) (by kernel_rfl)) (by kernel_rfl)) (by kernel_rfl)) (by kernel_rfl)) (by kernel_rfl)) (by kernel_rfl)) arithValues_l22) (by kernel_rfl)) arithValues_l24) arithValues_l25) arithValues_l26) arithValues_l27) (by kernel_rfl)) (by kernel_rfl)) (by kernel_rfl)) (by kernel_rfl))
end Go.Proofs.YtkakhfkkeoceiaaGreatDoor
