import Derived.Test.YtkakhfkkeoceiaaGreatDoorProg
import Derived.Test.YtkakhfkkeoceiaaGreatDoorRows
import Derived.JoinedOf
import Derived.ProofKit
namespace Go.Proofs.YtkakhfkkeoceiaaGreatDoor
set_option maxRecDepth 100000
open Go.ChangeShapes Go.WideShapes Go.ChangeAt Go.RowKit
theorem arithHalf_and {x y : Bool} (hx : x = true) (hy : y = true) : (x && y) = true := by rw [hx, hy]; rfl
theorem arithHalf_l0 : (Rows.arithHalfRow.wf (OpenSpec.ofChange Rows.arithHalfSpec)) = true := by kernel_rfl
theorem arithHalf_l1 : (laidOutB Tryz.prog) = true := by kernel_rfl
theorem arithHalf_l2 : (mapsRowed Tryz.prog) = true := by kernel_rfl
theorem arithHalf_l4 : (namedTie Tryz.prog Rows.arithHalfRow.named Rows.arithHalfSpec.vars) = true := by kernel_rfl
theorem arithHalf_l9 : ((Rows.arithHalfRow.inPlace == Tryz.prog.inPlace 10)) = true := by kernel_rfl
theorem arithHalf_l10 : ((Rows.arithHalfRow.unfollowed == Tryz.prog.unfollowed 10)) = true := by kernel_rfl
theorem arithHalf_l11 : ((Rows.arithHalfRow.recurses == Tryz.prog.recurses 10)) = true := by kernel_rfl
theorem arithHalf_l12 : ((Rows.arithHalfRow.named == Tryz.prog.varsNamed 10)) = true := by kernel_rfl
theorem arithHalf_l22 : ((Rows.arithHalfRow.plainKeys == Tryz.prog.plainKeys)) = true := by kernel_rfl
theorem arithHalf_l24 : (Tryz.prog.stopsHeard) = true := by kernel_rfl
theorem arithHalf_l25 : (Tryz.prog.mayEnter) = true := by kernel_rfl
theorem arithHalf_l26 : ((Rows.arithHalfRow.lifted == Tryz.prog.liftsFinal)) = true := by kernel_rfl
theorem arithHalf_l27 : ((Tryz.prog.make == some Rows.arithHalfRow.make)) = true := by kernel_rfl
theorem arithHalf_joined : joinedFacts Tryz.prog 10 Tryz.f10 Rows.arithHalfSpec Rows.arithHalfRow = true :=
 (arithHalf_and (arithHalf_and (arithHalf_and (arithHalf_and (arithHalf_and (arithHalf_and (arithHalf_and (arithHalf_and (arithHalf_and (arithHalf_and (arithHalf_and (arithHalf_and (arithHalf_and (arithHalf_and (arithHalf_and (arithHalf_and (arithHalf_and (arithHalf_and (arithHalf_and (arithHalf_and (arithHalf_and (arithHalf_and (arithHalf_and (arithHalf_and (arithHalf_and (arithHalf_and (arithHalf_and (arithHalf_and (arithHalf_and (arithHalf_and (arithHalf_and arithHalf_l0 arithHalf_l1) arithHalf_l2) (by kernel_rfl)) arithHalf_l4) (by kernel_rfl)) (by kernel_rfl)) (by kernel_rfl)) (by kernel_rfl)) arithHalf_l9) arithHalf_l10) arithHalf_l11) arithHalf_l12) (by kernel_rfl)) (by kernel_rfl)) (by kernel_rfl)) (by kernel_rfl)) (by kernel_rfl)) (by kernel_rfl)) (by kernel_rfl)) (by kernel_rfl)) (by kernel_rfl)) arithHalf_l22) (by kernel_rfl)) arithHalf_l24) arithHalf_l25) arithHalf_l26) arithHalf_l27) (by kernel_rfl)) (by kernel_rfl)) (by kernel_rfl)) (by kernel_rfl))
end Go.Proofs.YtkakhfkkeoceiaaGreatDoor
