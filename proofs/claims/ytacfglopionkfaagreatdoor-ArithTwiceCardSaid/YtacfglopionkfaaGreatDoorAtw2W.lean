import Derived.Test.YtacfglopionkfaaGreatDoorCards
import Derived.Lay
import Derived.SizedLaws
import Derived.ProofKit
import Derived.LaidMore
import Derived.Stop.Joined
namespace Go.Proofs.YtacfglopionkfaaGreatDoor
set_option maxRecDepth 100000
open Go.ChangeShapes Go.WideShapes Go.ChangeAt Go.RowKit
theorem Vo:ownKnob Tryz.prog.godebug=none:=by kernel_rfl
theorem E5:laidOutB Tryz.prog=true:=by kernel_rfl
theorem RQ {P:Program} {w0:World} {l:List (String × DataW Unit)} (args:Array Value) (hf:w0.layFits P l []=true) (hi:w0.layIfaces P l (w0.layVars P l)=true):laidMet P l ((w0.layVars P l).forCall (fun _ _=>0) ⟨#[],args,[]⟩).memory:=by
 have e1:(l.filter fun x=>(l.map (·.1)).contains x.1)=l:=List.filter_eq_self.2 fun x hx=>by simpa using ⟨x.2,hx⟩
 have e2:(l.filter fun x=> !(l.map (·.1)).contains x.1)=[]:=List.filter_eq_nil_iff.2 fun x hx=>by simpa using ⟨x.2,hx⟩
 refine (laidMet_layVars (w0:=w0) (w':=w0.layVars P l) (l.map (·.1)) [] ?_ ?_ ?_ ?_).of_heap (by simp [World.memory,World.forCall,Input.heap])
 ·rw [e1]
 ·rw [e1];exact hf
 ·rw [e1];exact hi
 ·rw [e2];exact LaidIn.none
noncomputable def qR (os:Os):World:=(World.doorLaid Tryz.prog 440 os).layVars Tryz.prog (Rows.arithTwiceRow.laid.filter fun x=>x.2.handleName?.isNone)
theorem RS (os:Os) (args:Array Value):laidMetH Tryz.prog Rows.arithTwiceRow.laid ((qR os).forCall (fun _ _=>0) ⟨#[],args,[]⟩).memory:=
 laidMetH_of_parts3 (fuel:=8) (RQ args (by kernel_rfl) (by kernel_rfl)) (by kernel_rfl) (by kernel_rfl)
theorem VU (os:Os):((qR os).forCall (fun _ _=>0) ⟨#[], #[.slice none 0 0,.slice none 0 0],[]⟩).variablesZipB Tryz.prog=true:=by kernel_rfl
theorem VT (os:Os):(((qR os).forCall (fun _ _=>0) ⟨#[], #[.slice none 0 0,.slice none 0 0],[]⟩).heap.toList.drop Tryz.prog.globals.size).take ((begin Tryz.prog (fun _ _=>0) default).world.heap.size - Tryz.prog.globals.size)=(begin Tryz.prog (fun _ _=>0) default).world.heap.toList.drop Tryz.prog.globals.size:=by kernel_rfl
theorem VR (os:Os):Input.okWideB Tryz.prog ((qR os).forCall (fun _ _=>0) ⟨#[], #[.slice none 0 0,.slice none 0 0],[]⟩) 6 ⟨#[], #[.slice none 0 0,.slice none 0 0],[]⟩=true:=by kernel_rfl
theorem VQ {H:Type} (enc:TypeId × Value→H) (os:Os):Rows.arithTwiceSpec.preB enc Tryz.prog Tryz.f6 [] false ((qR os).forCall (fun _ _=>0) ⟨#[], #[.slice none 0 0,.slice none 0 0],[]⟩).memory #[.slice none 0 0,.slice none 0 0] 8=true:=by kernel_rfl
theorem VP {H:Type} (enc:TypeId × Value→H) (os:Os):Rows.arithTwiceSpec.sizedB enc Tryz.prog Tryz.f6 false ((qR os).forCall (fun _ _=>0) ⟨#[], #[.slice none 0 0,.slice none 0 0],[]⟩).memory #[.slice none 0 0,.slice none 0 0] 8=true:=by kernel_rfl
end Go.Proofs.YtacfglopionkfaaGreatDoor
