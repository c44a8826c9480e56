/- The closed facts of the row of ArithLong, one by one. -/
import Derived.Test.YtacfglopionkfaaGreatDoorProg
import Derived.Test.YtacfglopionkfaaGreatDoorRows
import Derived.JoinedOf
import Derived.ProofKit
namespace Go.Proofs.YtacfglopionkfaaGreatDoor
open Go.ChangeShapes Go.WideShapes Go.ChangeAt Go.RowKit

theorem arithLong_and {x y : Bool} (hx : x = true) (hy : y = true) : (x && y) = true := by rw [hx, hy]; rfl
set_option maxRecDepth 100000 in
theorem arithLong_l0 : (Rows.arithLongRow.wf (OpenSpec.ofChange Rows.arithLongSpec)) = true := by kernel_rfl
set_option maxRecDepth 100000 in
theorem arithLong_l1 : (laidOutB Tryz.prog) = true := by kernel_rfl
set_option maxRecDepth 100000 in
theorem arithLong_l2 : (mapsRowed Tryz.prog) = true := by kernel_rfl
set_option maxRecDepth 100000 in
theorem arithLong_l4 : (namedTie Tryz.prog Rows.arithLongRow.named Rows.arithLongSpec.vars) = true := by kernel_rfl
set_option maxRecDepth 100000 in
theorem arithLong_l9 : ((Rows.arithLongRow.inPlace == Tryz.prog.inPlace 3)) = true := by kernel_rfl
set_option maxRecDepth 100000 in
theorem arithLong_l10 : ((Rows.arithLongRow.unfollowed == Tryz.prog.unfollowed 3)) = true := by kernel_rfl
set_option maxRecDepth 100000 in
theorem arithLong_l11 : ((Rows.arithLongRow.recurses == Tryz.prog.recurses 3)) = true := by kernel_rfl
set_option maxRecDepth 100000 in
theorem arithLong_l12 : ((Rows.arithLongRow.named == Tryz.prog.varsNamed 3)) = true := by kernel_rfl
set_option maxRecDepth 100000 in
theorem arithLong_l22 : ((Rows.arithLongRow.plainKeys == Tryz.prog.plainKeys)) = true := by kernel_rfl
set_option maxRecDepth 100000 in
theorem arithLong_l24 : (Tryz.prog.stopsHeard) = true := by kernel_rfl
set_option maxRecDepth 100000 in
theorem arithLong_l25 : (Tryz.prog.mayEnter) = true := by kernel_rfl
set_option maxRecDepth 100000 in
theorem arithLong_l26 : ((Rows.arithLongRow.lifted == Tryz.prog.liftsFinal)) = true := by kernel_rfl
set_option maxRecDepth 100000 in
theorem arithLong_l27 : ((Tryz.prog.make == some Rows.arithLongRow.make)) = true := by kernel_rfl
set_option maxRecDepth 100000 in
theorem arithLong_joined : joinedFacts Tryz.prog 3 Tryz.f3 Rows.arithLongSpec Rows.arithLongRow = true :=
  (arithLong_and (arithLong_and (arithLong_and (arithLong_and (arithLong_and (arithLong_and (arithLong_and (arithLong_and (arithLong_and (arithLong_and (arithLong_and (arithLong_and (arithLong_and (arithLong_and (arithLong_and (arithLong_and (arithLong_and (arithLong_and (arithLong_and (arithLong_and (arithLong_and (arithLong_and (arithLong_and (arithLong_and (arithLong_and (arithLong_and (arithLong_and (arithLong_and (arithLong_and (arithLong_and (arithLong_and arithLong_l0 arithLong_l1) arithLong_l2) (by kernel_rfl)) arithLong_l4) (by kernel_rfl)) (by kernel_rfl)) (by kernel_rfl)) (by kernel_rfl)) arithLong_l9) arithLong_l10) arithLong_l11) arithLong_l12) (by kernel_rfl)) (by kernel_rfl)) (by kernel_rfl)) (by kernel_rfl)) (by kernel_rfl)) (by kernel_rfl)) (by kernel_rfl)) (by kernel_rfl)) (by kernel_rfl)) arithLong_l22) (by kernel_rfl)) arithLong_l24) arithLong_l25) arithLong_l26) arithLong_l27) (by kernel_rfl)) (by kernel_rfl)) (by kernel_rfl)) (by kernel_rfl))
end Go.Proofs.YtacfglopionkfaaGreatDoor
