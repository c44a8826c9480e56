import Derived.Test.YtkakhfkkeoceiaaGreatDoorProg
import Derived.Test.YtkakhfkkeoceiaaGreatDoorRows
import Derived.JoinedOf
import Derived.ProofKit
namespace Go.Proofs.YtkakhfkkeoceiaaGreatDoor
set_option maxRecDepth 100000
open Go.ChangeShapes Go.WideShapes Go.ChangeAt Go.RowKit
theorem arithNil_and {x y : Bool} (hx : x = true) (hy : y = true) : (x && y) = true := by rw [hx, hy]; rfl
theorem arithNil_l0 : (Rows.arithNilRow.wf (OpenSpec.ofChange Rows.arithNilSpec)) = true := by kernel_rfl
theorem arithNil_l1 : (laidOutB Tryz.prog) = true := by kernel_rfl
theorem arithNil_l2 : (mapsRowed Tryz.prog) = true := by kernel_rfl
theorem arithNil_l4 : (namedTie Tryz.prog Rows.arithNilRow.named Rows.arithNilSpec.vars) = true := by kernel_rfl
theorem arithNil_l9 : ((Rows.arithNilRow.inPlace == Tryz.prog.inPlace 7)) = true := by kernel_rfl
theorem arithNil_l10 : ((Rows.arithNilRow.unfollowed == Tryz.prog.unfollowed 7)) = true := by kernel_rfl
theorem arithNil_l11 : ((Rows.arithNilRow.recurses == Tryz.prog.recurses 7)) = true := by kernel_rfl
theorem arithNil_l12 : ((Rows.arithNilRow.named == Tryz.prog.varsNamed 7)) = true := by kernel_rfl
theorem arithNil_l22 : ((Rows.arithNilRow.plainKeys == Tryz.prog.plainKeys)) = true := by kernel_rfl
theorem arithNil_l24 : (Tryz.prog.stopsHeard) = true := by kernel_rfl
theorem arithNil_l25 : (Tryz.prog.mayEnter) = true := by kernel_rfl
theorem arithNil_l26 : ((Rows.arithNilRow.lifted == Tryz.prog.liftsFinal)) = true := by kernel_rfl
theorem arithNil_l27 : ((Tryz.prog.make == some Rows.arithNilRow.make)) = true := by kernel_rfl
theorem arithNil_joined : joinedFacts Tryz.prog 7 Tryz.f7 Rows.arithNilSpec Rows.arithNilRow = true :=
 (arithNil_and (arithNil_and (arithNil_and (arithNil_and (arithNil_and (arithNil_and (arithNil_and (arithNil_and (arithNil_and (arithNil_and (arithNil_and (arithNil_and (arithNil_and (arithNil_and (arithNil_and (arithNil_and (arithNil_and (arithNil_and (arithNil_and (arithNil_and (arithNil_and (arithNil_and (arithNil_and (arithNil_and (arithNil_and (arithNil_and (arithNil_and (arithNil_and (arithNil_and (arithNil_and (arithNil_and arithNil_l0 arithNil_l1) arithNil_l2) (by kernel_rfl)) arithNil_l4) (by kernel_rfl)) (by kernel_rfl)) (by kernel_rfl)) (by kernel_rfl)) arithNil_l9) arithNil_l10) arithNil_l11) arithNil_l12) (by kernel_rfl)) (by kernel_rfl)) (by kernel_rfl)) (by kernel_rfl)) (by kernel_rfl)) (by kernel_rfl)) (by kernel_rfl)) (by kernel_rfl)) (by kernel_rfl)) arithNil_l22) (by kernel_rfl)) arithNil_l24) arithNil_l25) arithNil_l26) arithNil_l27) (by kernel_rfl)) (by kernel_rfl)) (by kernel_rfl)) (by kernel_rfl))
end Go.Proofs.YtkakhfkkeoceiaaGreatDoor
