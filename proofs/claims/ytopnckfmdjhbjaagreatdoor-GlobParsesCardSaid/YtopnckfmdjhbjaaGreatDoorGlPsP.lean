/- Proved here: for any bytes the pattern that Parse tells, its pieces and its text, or its error, are the reference's. Condition: the sentinels' variables, errors' own and the listed tables read as the row lists them, which the tie gives. -/
import Derived.Test.YtopnckfmdjhbjaaGreatDoorGlPs
import Derived.Test.YtopnckfmdjhbjaaGreatDoorRows
import Derived.Test.YtopnckfmdjhbjaaGreatDoorCards
import Derived.Test.YtopnckfmdjhbjaaGreatDoorTie
import Derived.Lay
import Derived.LaidHandle
import Derived.SizedLaws
import Derived.ProofKit
import Derived.LaidMore
import Derived.Stop.Joined
import Derived.Carry
namespace Go.Proofs.YtopnckfmdjhbjaaGreatDoor
open Go.ChangeShapes Go.WideShapes Go.ChangeAt Go.RowKit

theorem globParses_own : ownKnob Tryz.prog.godebug = none := by kernel_rfl
theorem globParses_laidOut : laidOutB Tryz.prog = true := by kernel_rfl
theorem globParses_layP {P : Program} {w0 : World} {l : List (String × DataW Unit)} (args : Array Value) (hf : w0.layFits P l [] = true) (hi : w0.layIfaces P l (w0.layVars P l) = true) : laidMet P l ((w0.layVars P l).forCall (fun _ _ => 0) ⟨#[], args, []⟩).memory := by
 have e1 : (l.filter fun x => (l.map (·.1)).contains x.1) = l := List.filter_eq_self.2 fun x hx => by simpa using ⟨x.2, hx⟩
 have e2 : (l.filter fun x => !(l.map (·.1)).contains x.1) = [] := List.filter_eq_nil_iff.2 fun x hx => by simpa using ⟨x.2, hx⟩
 refine (laidMet_layVars (w0 := w0) (w' := w0.layVars P l) (l.map (·.1)) [] ?_ ?_ ?_ ?_).of_heap (by simp [World.memory, World.forCall, Input.heap])
 ·rw [e1]
 ·rw [e1]; exact hf
 ·rw [e1]; exact hi
 ·rw [e2]; exact LaidIn.none
noncomputable def globParses_wit (os : Os) : World := (World.doorLaid Tryz.prog 440 os).layVars Tryz.prog (Rows.globParsesRow.laid.filter fun x => x.2.handleName?.isNone)
theorem globParses_door (os : Os) (args : Array Value) : laidMetH Tryz.prog Rows.globParsesRow.laid ((globParses_wit os).forCall (fun _ _ => 0) ⟨#[], args, []⟩).memory :=
 laidMetH_of_parts3 (fuel := 8) (globParses_layP args (by kernel_rfl) (by kernel_rfl)) (by kernel_rfl) (by kernel_rfl)

set_option maxRecDepth 100000 in
theorem globParses_lifted (os : Os) (started : os.Started) (H : Type) (enc : TypeId × Value → H) :
  ReturnsInHanded {} Tryz.checked os 3 .any (fun w args => (Rows.globParsesSpec.pre enc Tryz.prog Tryz.f3 [] false w args ∧ laidMetH Tryz.prog Rows.globParsesRow.laid w) ∧ sizedMet enc Tryz.prog Tryz.f3 (OpenSpec.ofChange Rows.globParsesSpec) false w args)
   (Rows.globParsesSpec.post enc Tryz.prog Tryz.f3 false true false false) := by
 refine returnsInHanded_of_change_and (C := Tryz.checked) (X := fun w _ => laidMetH Tryz.prog Rows.globParsesRow.laid w) (fun _ _ _ hh h => h.of_heap hh) globParses_own started (by kernel_rfl) Tryz.func3
  (ChangeSpec.witness_shaped (enc := enc) (C := Tryz.checked) (os := os) (X := fun w _ => laidMetH Tryz.prog Rows.globParsesRow.laid w) false (globParses_wit os) #[.slice none 0 0] 8 ((World.layVars_os _ _ _).trans rfl) (World.shaped_of_ZipB (by kernel_rfl) (by kernel_rfl)) (by kernel_rfl) (by kernel_rfl) (by kernel_rfl) (globParses_door os _)) ?_
 intro W base args ds gs before hval0 hW _ hsz0 hL _
 have hval : ∀ (j : Nat) t v, Tryz.f3.params[j]? = some t → args[j]? = some v → Value.okWide Tryz.prog W .any base t v := hval0
 have hsz : (DataW.weightsEach Tryz.prog (Tryz.f3.params.toList ++ Rows.globParsesSpec.plain.varTypes Tryz.prog) (ds ++ gs)).all (· ≤ reachBytes) = true := hsz0
 clear hsz0
 have hW' := hW
 obtain ⟨p, q, hA0, hV, rfl, hfz, hnd⟩ := hW
 have hA : DataW.TrodAll enc Tryz.prog W 0 (fun _ => true) true Tryz.f3.params.toList args.toList ds p := hA0
 rw [Tryz.params3] at hA hval hsz
 obtain ⟨v0, d0, rfl, rfl, h0⟩ := trodAll_one hA
 obtain ⟨rfl, rfl⟩ := trodVars_none hV
 clear hA0 hval0
 simp only [List.append_nil] at hW'
 have hlt : ∀ x ∈ p, x.block < W.heap.size := fun x hx => by first | simpa using hW'.lt x hx | simpa using hW'.lt x (by simpa using hx)
 refine (globParses_open W base v0 h0 (hval 0 22 v0 rfl rfl) hsz hL).mono fun e W' ⟨he, hb⟩ => ?_
 subst he
 have e1 : Rows.globParsesSpec.fn H ([d0] ++ []) = { results := [.lit (.bool true)], args := [d0] } := by simp [Rows.globParsesSpec]
 refine ⟨_, rfl, _, _, _, [], p, [], hW', ?_, ?_, ?_, hb.frame _, fun h => by cases h⟩
 ·rw [e1]; exact trodAll_mk1 (shut_bool Tryz.underlying4 true)
 ·rw [e1]; exact trodAll_mk1 (Below.trod globParses_laidOut (by kernel_rfl) (of_decide_eq_true (by kernel_rfl)) h0 hb (fun x hx => hlt x (by simp [hx])))
 ·rw [e1]; rfl

theorem globParses_said : Rows.GlobParsesSaid :=
 OpenClaim.holds_of_wide 3 Tryz.f3 rfl rfl rfl rfl rfl rfl rfl ⟨rfl, rfl, rfl, rfl, rfl⟩ rfl rfl rfl rfl rfl (by kernel_rfl) Tryz.func3 (by kernel_rfl)
  (of_decide_eq_true (by kernel_rfl)) (by unfold Func.isWrapper; rw [if_neg (of_decide_eq_false (by kernel_rfl))]; exact ⟨rfl, rfl⟩)
  (fun os started H enc _ => globParses_lifted os started H enc)

theorem globParses_holds : Rows.GlobParsesCardSaid :=
 Claim7.holds_tied_plain_at .later [] Rows.globParsesCard.laidKinds true Rows.globParsesCard.stood.harness Rows.globParsesCard.stood.looks
  globParses_said (fun _ h => by cases h) (by kernel_rfl) (fun _ h => by cases h) globParses_row_tie rfl ⟨rfl, rfl⟩ (by kernel_rfl) rfl
  (fun f fn hf hfn => by
   obtain rfl : f = 3 := Option.some.inj ((show Tryz.prog.funcNamed "pidgin/pidginlaw6.GlobParses" = some 3 by kernel_rfl).symm.trans hf) |>.symm
   obtain rfl : fn = Tryz.f3 := (Option.some.inj (Tryz.func3.symm.trans hfn)).symm
   exact ⟨by kernel_rfl, fun j t ht => by
    rw [Tryz.params3] at ht
    have hm : t ∈ [22] := by simpa using Array.mem_of_getElem? ht
    have hall : ([22].all fun u => !Tryz.prog.wantsStandIn u) = true := by kernel_rfl
    exact (show Tryz.prog.wantsStandIn t = false by simpa using List.all_eq_true.1 hall t hm)⟩)
  (by kernel_rfl)
#print axioms globParses_holds
end Go.Proofs.YtopnckfmdjhbjaaGreatDoor
