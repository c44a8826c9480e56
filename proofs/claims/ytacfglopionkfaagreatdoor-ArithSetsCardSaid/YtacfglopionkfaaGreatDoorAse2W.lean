import Derived.Test.YtacfglopionkfaaGreatDoorRows
import Derived.Test.YtacfglopionkfaaGreatDoorCards
import Derived.Lay
import Derived.LaidHandle
import Derived.SizedLaws
import Derived.ProofKit
import Derived.LaidMore
import Derived.Stop.Joined
import Derived.Carry
namespace Go.Proofs.YtacfglopionkfaaGreatDoor
set_option maxRecDepth 100000
open Go.ChangeShapes Go.WideShapes Go.ChangeAt Go.RowKit
theorem V4:ownKnob Tryz.prog.godebug=none:=by kernel_rfl
theorem Ah:laidOutB Tryz.prog=true:=by kernel_rfl
theorem VA {P:Program} {w0:World} {l:List (String × DataW Unit)} (args:Array Value) (hf:w0.layFits P l []=true) (hi:w0.layIfaces P l (w0.layVars P l)=true):laidMet P l ((w0.layVars P l).forCall (fun _ _=>0) ⟨#[],args,[]⟩).memory:=by
 have e1:(l.filter fun x=>(l.map (·.1)).contains x.1)=l:=List.filter_eq_self.2 fun x hx=>by simpa using ⟨x.2,hx⟩
 have e2:(l.filter fun x=> !(l.map (·.1)).contains x.1)=[]:=List.filter_eq_nil_iff.2 fun x hx=>by simpa using ⟨x.2,hx⟩
 refine (laidMet_layVars (w0:=w0) (w':=w0.layVars P l) (l.map (·.1)) [] ?_ ?_ ?_ ?_).of_heap (by simp [World.memory,World.forCall,Input.heap])
 ·rw [e1]
 ·rw [e1];exact hf
 ·rw [e1];exact hi
 ·rw [e2];exact LaidIn.none
noncomputable def sW (os:Os):World:=(World.doorLaid Tryz.prog 440 os).layVars Tryz.prog (Rows.arithSetsRow.laid.filter fun x=>x.2.handleName?.isNone)
theorem VD (os:Os) (args:Array Value):laidMetH Tryz.prog Rows.arithSetsRow.laid ((sW os).forCall (fun _ _=>0) ⟨#[],args,[]⟩).memory:=
 laidMetH_of_parts3 (fuel:=8) (VA args (by kernel_rfl) (by kernel_rfl)) (by kernel_rfl) (by kernel_rfl)
theorem Ya (os:Os):((sW os).forCall (fun _ _=>0) ⟨#[], #[.string ⟨#[]⟩,.slice none 0 0,.slice none 0 0],[]⟩).variablesZipB Tryz.prog=true:=by kernel_rfl
theorem X8 (os:Os):(((sW os).forCall (fun _ _=>0) ⟨#[], #[.string ⟨#[]⟩,.slice none 0 0,.slice none 0 0],[]⟩).heap.toList.drop Tryz.prog.globals.size).take ((begin Tryz.prog (fun _ _=>0) default).world.heap.size - Tryz.prog.globals.size)=(begin Tryz.prog (fun _ _=>0) default).world.heap.toList.drop Tryz.prog.globals.size:=by kernel_rfl
theorem XZ (os:Os):Input.okWideB Tryz.prog ((sW os).forCall (fun _ _=>0) ⟨#[], #[.string ⟨#[]⟩,.slice none 0 0,.slice none 0 0],[]⟩) 8 ⟨#[], #[.string ⟨#[]⟩,.slice none 0 0,.slice none 0 0],[]⟩=true:=by kernel_rfl
theorem XY {H:Type} (enc:TypeId × Value→H) (os:Os):Rows.arithSetsSpec.preB enc Tryz.prog Tryz.f8 [] false ((sW os).forCall (fun _ _=>0) ⟨#[], #[.string ⟨#[]⟩,.slice none 0 0,.slice none 0 0],[]⟩).memory #[.string ⟨#[]⟩,.slice none 0 0,.slice none 0 0] 8=true:=by kernel_rfl
theorem XW {H:Type} (enc:TypeId × Value→H) (os:Os):Rows.arithSetsSpec.sizedB enc Tryz.prog Tryz.f8 false ((sW os).forCall (fun _ _=>0) ⟨#[], #[.string ⟨#[]⟩,.slice none 0 0,.slice none 0 0],[]⟩).memory #[.string ⟨#[]⟩,.slice none 0 0,.slice none 0 0] 8=true:=by kernel_rfl
end Go.Proofs.YtacfglopionkfaaGreatDoor
