import Derived.Test.YtacfglopionkfaaGreatDoorProg
import Derived.Test.YtacfglopionkfaaGreatDoorRows
import Derived.JoinedOf
import Derived.ProofKit
namespace Go.Proofs.YtacfglopionkfaaGreatDoor
set_option maxRecDepth 100000
open Go.ChangeShapes Go.WideShapes Go.ChangeAt Go.RowKit
theorem dn {x y:Bool} (hx:x=true) (hy:y=true):(x && y)=true:=by rw [hx,hy];rfl
theorem Yp:(Rows.arithRunsRow.wf (OpenSpec.ofChange Rows.arithRunsSpec))=true:=by kernel_rfl
theorem Yo:(laidOutB Tryz.prog)=true:=by kernel_rfl
theorem Yn:(mapsRowed Tryz.prog)=true:=by kernel_rfl
theorem Ym:(namedTie Tryz.prog Rows.arithRunsRow.named Rows.arithRunsSpec.vars)=true:=by kernel_rfl
theorem Yl:((Rows.arithRunsRow.inPlace==Tryz.prog.inPlace 5))=true:=by kernel_rfl
theorem WC:((Rows.arithRunsRow.unfollowed==Tryz.prog.unfollowed 5))=true:=by kernel_rfl
theorem WB:((Rows.arithRunsRow.recurses==Tryz.prog.recurses 5))=true:=by kernel_rfl
theorem WA:((Rows.arithRunsRow.named==Tryz.prog.varsNamed 5))=true:=by kernel_rfl
theorem Wy:((Rows.arithRunsRow.plainKeys==Tryz.prog.plainKeys))=true:=by kernel_rfl
theorem Wx:(Tryz.prog.stopsHeard)=true:=by kernel_rfl
theorem Wv:(Tryz.prog.mayEnter)=true:=by kernel_rfl
theorem Wu:((Rows.arithRunsRow.lifted==Tryz.prog.liftsFinal))=true:=by kernel_rfl
theorem Ws:((Tryz.prog.make==some Rows.arithRunsRow.make))=true:=by kernel_rfl
theorem QZ:joinedFacts Tryz.prog 5 Tryz.f5 Rows.arithRunsSpec Rows.arithRunsRow=true:=
 (dn (dn (dn (dn (dn (dn (dn (dn (dn (dn (dn (dn (dn (dn (dn (dn (dn (dn (dn (dn (dn (dn (dn (dn (dn (dn (dn (dn (dn (dn (dn Yp Yo) Yn) (by kernel_rfl)) Ym) (by kernel_rfl)) (by kernel_rfl)) (by kernel_rfl)) (by kernel_rfl)) Yl) WC) WB) WA) (by kernel_rfl)) (by kernel_rfl)) (by kernel_rfl)) (by kernel_rfl)) (by kernel_rfl)) (by kernel_rfl)) (by kernel_rfl)) (by kernel_rfl)) (by kernel_rfl)) Wy) (by kernel_rfl)) Wx) Wv) Wu) Ws) (by kernel_rfl)) (by kernel_rfl)) (by kernel_rfl)) (by kernel_rfl))
end Go.Proofs.YtacfglopionkfaaGreatDoor
