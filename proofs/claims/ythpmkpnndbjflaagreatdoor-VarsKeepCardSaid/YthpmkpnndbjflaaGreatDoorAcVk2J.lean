/- The closed facts of the row of VarsKeep, one by one. -/
import Derived.Test.YthpmkpnndbjflaaGreatDoorProg
import Derived.Test.YthpmkpnndbjflaaGreatDoorRows
import Derived.JoinedOf
import Derived.ProofKit
namespace Go.Proofs.YthpmkpnndbjflaaGreatDoor
open Go.ChangeShapes Go.WideShapes Go.ChangeAt Go.RowKit

theorem varsKeep_and {x y : Bool} (hx : x = true) (hy : y = true) : (x && y) = true := by rw [hx, hy]; rfl
set_option maxRecDepth 100000 in
theorem varsKeep_l0 : (Rows.varsKeepRow.wf (OpenSpec.ofChange Rows.varsKeepSpec)) = true := by kernel_rfl
set_option maxRecDepth 100000 in
theorem varsKeep_l1 : (laidOutB Tryz.prog) = true := by kernel_rfl
set_option maxRecDepth 100000 in
theorem varsKeep_l2 : (mapsRowed Tryz.prog) = true := by kernel_rfl
set_option maxRecDepth 100000 in
theorem varsKeep_l4 : (namedTie Tryz.prog Rows.varsKeepRow.named Rows.varsKeepSpec.vars) = true := by kernel_rfl
set_option maxRecDepth 100000 in
theorem varsKeep_l9 : ((Rows.varsKeepRow.inPlace == Tryz.prog.inPlace 3)) = true := by kernel_rfl
set_option maxRecDepth 100000 in
theorem varsKeep_l10 : ((Rows.varsKeepRow.unfollowed == Tryz.prog.unfollowed 3)) = true := by kernel_rfl
set_option maxRecDepth 100000 in
theorem varsKeep_l11 : ((Rows.varsKeepRow.recurses == Tryz.prog.recurses 3)) = true := by kernel_rfl
set_option maxRecDepth 100000 in
theorem varsKeep_l12 : ((Rows.varsKeepRow.named == Tryz.prog.varsNamed 3)) = true := by kernel_rfl
set_option maxRecDepth 100000 in
theorem varsKeep_l22 : ((Rows.varsKeepRow.plainKeys == Tryz.prog.plainKeys)) = true := by kernel_rfl
set_option maxRecDepth 100000 in
theorem varsKeep_l24 : (Tryz.prog.stopsHeard) = true := by kernel_rfl
set_option maxRecDepth 100000 in
theorem varsKeep_l25 : (Tryz.prog.mayEnter) = true := by kernel_rfl
set_option maxRecDepth 100000 in
theorem varsKeep_l26 : ((Rows.varsKeepRow.lifted == Tryz.prog.liftsFinal)) = true := by kernel_rfl
set_option maxRecDepth 100000 in
theorem varsKeep_l27 : ((Tryz.prog.make == some Rows.varsKeepRow.make)) = true := by kernel_rfl
set_option maxRecDepth 100000 in
theorem varsKeep_joined : joinedFacts Tryz.prog 3 Tryz.f3 Rows.varsKeepSpec Rows.varsKeepRow = true :=
  (varsKeep_and (varsKeep_and (varsKeep_and (varsKeep_and (varsKeep_and (varsKeep_and (varsKeep_and (varsKeep_and (varsKeep_and (varsKeep_and (varsKeep_and (varsKeep_and (varsKeep_and (varsKeep_and (varsKeep_and (varsKeep_and (varsKeep_and (varsKeep_and (varsKeep_and (varsKeep_and (varsKeep_and (varsKeep_and (varsKeep_and (varsKeep_and (varsKeep_and (varsKeep_and (varsKeep_and (varsKeep_and (varsKeep_and (varsKeep_and (varsKeep_and varsKeep_l0 varsKeep_l1) varsKeep_l2) (by kernel_rfl)) varsKeep_l4) (by kernel_rfl)) (by kernel_rfl)) (by kernel_rfl)) (by kernel_rfl)) varsKeep_l9) varsKeep_l10) varsKeep_l11) varsKeep_l12) (by kernel_rfl)) (by kernel_rfl)) (by kernel_rfl)) (by kernel_rfl)) (by kernel_rfl)) (by kernel_rfl)) (by kernel_rfl)) (by kernel_rfl)) (by kernel_rfl)) varsKeep_l22) (by kernel_rfl)) varsKeep_l24) varsKeep_l25) varsKeep_l26) varsKeep_l27) (by kernel_rfl)) (by kernel_rfl)) (by kernel_rfl)) (by kernel_rfl))
end Go.Proofs.YthpmkpnndbjflaaGreatDoor
