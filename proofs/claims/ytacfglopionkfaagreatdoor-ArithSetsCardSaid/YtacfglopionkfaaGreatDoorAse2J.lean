import Derived.Test.YtacfglopionkfaaGreatDoorProg
import Derived.Test.YtacfglopionkfaaGreatDoorRows
import Derived.JoinedOf
import Derived.ProofKit
namespace Go.Proofs.YtacfglopionkfaaGreatDoor
set_option maxRecDepth 100000
open Go.ChangeShapes Go.WideShapes Go.ChangeAt Go.RowKit
theorem dh {x y:Bool} (hx:x=true) (hy:y=true):(x && y)=true:=by rw [hx,hy];rfl
theorem Yf:(Rows.arithSetsRow.wf (OpenSpec.ofChange Rows.arithSetsSpec))=true:=by kernel_rfl
theorem Ye:(laidOutB Tryz.prog)=true:=by kernel_rfl
theorem Yd:(mapsRowed Tryz.prog)=true:=by kernel_rfl
theorem Yc:(namedTie Tryz.prog Rows.arithSetsRow.named Rows.arithSetsSpec.vars)=true:=by kernel_rfl
theorem Yb:((Rows.arithSetsRow.inPlace==Tryz.prog.inPlace 8))=true:=by kernel_rfl
theorem Wp:((Rows.arithSetsRow.unfollowed==Tryz.prog.unfollowed 8))=true:=by kernel_rfl
theorem Wn:((Rows.arithSetsRow.recurses==Tryz.prog.recurses 8))=true:=by kernel_rfl
theorem Wj:((Rows.arithSetsRow.named==Tryz.prog.varsNamed 8))=true:=by kernel_rfl
theorem Wi:((Rows.arithSetsRow.plainKeys==Tryz.prog.plainKeys))=true:=by kernel_rfl
theorem Wh:(Tryz.prog.stopsHeard)=true:=by kernel_rfl
theorem V9:(Tryz.prog.mayEnter)=true:=by kernel_rfl
theorem V8:((Rows.arithSetsRow.lifted==Tryz.prog.liftsFinal))=true:=by kernel_rfl
theorem V6:((Tryz.prog.make==some Rows.arithSetsRow.make))=true:=by kernel_rfl
theorem QX:joinedFacts Tryz.prog 8 Tryz.f8 Rows.arithSetsSpec Rows.arithSetsRow=true:=
 (dh (dh (dh (dh (dh (dh (dh (dh (dh (dh (dh (dh (dh (dh (dh (dh (dh (dh (dh (dh (dh (dh (dh (dh (dh (dh (dh (dh (dh (dh (dh Yf Ye) Yd) (by kernel_rfl)) Yc) (by kernel_rfl)) (by kernel_rfl)) (by kernel_rfl)) (by kernel_rfl)) Yb) Wp) Wn) Wj) (by kernel_rfl)) (by kernel_rfl)) (by kernel_rfl)) (by kernel_rfl)) (by kernel_rfl)) (by kernel_rfl)) (by kernel_rfl)) (by kernel_rfl)) (by kernel_rfl)) Wi) (by kernel_rfl)) Wh) V9) V8) V6) (by kernel_rfl)) (by kernel_rfl)) (by kernel_rfl)) (by kernel_rfl))
end Go.Proofs.YtacfglopionkfaaGreatDoor
