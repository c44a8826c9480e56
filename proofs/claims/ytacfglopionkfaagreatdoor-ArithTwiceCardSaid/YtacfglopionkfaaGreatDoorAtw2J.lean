import Derived.Test.YtacfglopionkfaaGreatDoorRows
import Derived.ProofKit
namespace Go.Proofs.YtacfglopionkfaaGreatDoor
set_option maxRecDepth 100000
open Go.ChangeShapes Go.WideShapes Go.ChangeAt Go.RowKit
theorem bV {x y:Bool} (hx:x=true) (hy:y=true):(x && y)=true:=by rw [hx,hy];rfl
theorem V3:(Rows.arithTwiceRow.wf (OpenSpec.ofChange Rows.arithTwiceSpec))=true:=by kernel_rfl
theorem VZ:(laidOutB Tryz.prog)=true:=by kernel_rfl
theorem VY:(mapsRowed Tryz.prog)=true:=by kernel_rfl
theorem VX:(namedTie Tryz.prog Rows.arithTwiceRow.named Rows.arithTwiceSpec.vars)=true:=by kernel_rfl
theorem VW:((Rows.arithTwiceRow.inPlace==Tryz.prog.inPlace 6))=true:=by kernel_rfl
theorem Vx:((Rows.arithTwiceRow.unfollowed==Tryz.prog.unfollowed 6))=true:=by kernel_rfl
theorem Vw:((Rows.arithTwiceRow.recurses==Tryz.prog.recurses 6))=true:=by kernel_rfl
theorem Vu:((Rows.arithTwiceRow.named==Tryz.prog.varsNamed 6))=true:=by kernel_rfl
theorem Vt:((Rows.arithTwiceRow.plainKeys==Tryz.prog.plainKeys))=true:=by kernel_rfl
theorem Vs:(Tryz.prog.stopsHeard)=true:=by kernel_rfl
theorem Vr:(Tryz.prog.mayEnter)=true:=by kernel_rfl
theorem Vq:((Rows.arithTwiceRow.lifted==Tryz.prog.liftsFinal))=true:=by kernel_rfl
theorem Vp:((Tryz.prog.make==some Rows.arithTwiceRow.make))=true:=by kernel_rfl
theorem Ql:joinedFacts Tryz.prog 6 Tryz.f6 Rows.arithTwiceSpec Rows.arithTwiceRow=true:=
 (bV (bV (bV (bV (bV (bV (bV (bV (bV (bV (bV (bV (bV (bV (bV (bV (bV (bV (bV (bV (bV (bV (bV (bV (bV (bV (bV (bV (bV (bV (bV V3 VZ) VY) (by kernel_rfl)) VX) (by kernel_rfl)) (by kernel_rfl)) (by kernel_rfl)) (by kernel_rfl)) VW) Vx) Vw) Vu) (by kernel_rfl)) (by kernel_rfl)) (by kernel_rfl)) (by kernel_rfl)) (by kernel_rfl)) (by kernel_rfl)) (by kernel_rfl)) (by kernel_rfl)) (by kernel_rfl)) Vt) (by kernel_rfl)) Vs) Vr) Vq) Vp) (by kernel_rfl)) (by kernel_rfl)) (by kernel_rfl)) (by kernel_rfl))
end Go.Proofs.YtacfglopionkfaaGreatDoor
