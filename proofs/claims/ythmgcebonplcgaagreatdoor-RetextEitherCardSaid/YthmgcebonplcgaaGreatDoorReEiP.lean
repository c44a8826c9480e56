/- Proved here: of any two extended texts with a bar between, both are read or neither, and what is read has both's branches. Condition: the sentinels' variables, errors' own and the listed tables read as the row lists them, which the tie gives. -/
import Derived.Test.YthmgcebonplcgaaGreatDoorKEi
import Derived.Test.YthmgcebonplcgaaGreatDoorRows
import Derived.Test.YthmgcebonplcgaaGreatDoorCards
import Derived.Test.YthmgcebonplcgaaGreatDoorTie
import Derived.Lay
import Derived.LaidHandle
import Derived.SizedLaws
import Derived.ProofKit
import Derived.LaidMore
import Derived.Stop.Joined
import Derived.Carry
namespace Go.Proofs.YthmgcebonplcgaaGreatDoor
open Go.ChangeShapes Go.WideShapes Go.ChangeAt Go.RowKit

theorem retextEither_own : ownKnob Tryz.prog.godebug = none := by kernel_rfl
theorem retextEither_laidOut : laidOutB Tryz.prog = true := by kernel_rfl
theorem retextEither_layP {P : Program} {w0 : World} {l : List (String × DataW Unit)} (args : Array Value) (hf : w0.layFits P l [] = true) (hi : w0.layIfaces P l (w0.layVars P l) = true) : laidMet P l ((w0.layVars P l).forCall (fun _ _ => 0) ⟨#[], args, []⟩).memory := by
  have e1 : (l.filter fun x => (l.map (·.1)).contains x.1) = l := List.filter_eq_self.2 fun x hx => by simpa using ⟨x.2, hx⟩
  have e2 : (l.filter fun x => !(l.map (·.1)).contains x.1) = [] := List.filter_eq_nil_iff.2 fun x hx => by simpa using ⟨x.2, hx⟩
  refine (laidMet_layVars (w0 := w0) (w' := w0.layVars P l) (l.map (·.1)) [] ?_ ?_ ?_ ?_).of_heap (by simp [World.memory, World.forCall, Input.heap])
  · rw [e1]
  · rw [e1]; exact hf
  · rw [e1]; exact hi
  · rw [e2]; exact LaidIn.none
noncomputable def retextEither_wit (os : Os) : World := (World.doorLaid Tryz.prog 440 os).layVars Tryz.prog (Rows.retextEitherRow.laid.filter fun x => x.2.handleName?.isNone)
theorem retextEither_door (os : Os) (args : Array Value) : laidMetH Tryz.prog Rows.retextEitherRow.laid ((retextEither_wit os).forCall (fun _ _ => 0) ⟨#[], args, []⟩).memory :=
  laidMetH_of_parts3 (fuel := 8) (retextEither_layP args (by kernel_rfl) (by kernel_rfl)) (by kernel_rfl) (by kernel_rfl)

set_option maxRecDepth 100000 in
theorem retextEither_lifted (os : Os) (started : os.Started) (H : Type) (enc : TypeId × Value → H) :
    ReturnsInHanded {} Tryz.checked os 3 .any (fun w args => (Rows.retextEitherSpec.pre enc Tryz.prog Tryz.f3 [] false w args ∧ laidMetH Tryz.prog Rows.retextEitherRow.laid w) ∧ sizedMet enc Tryz.prog Tryz.f3 (OpenSpec.ofChange Rows.retextEitherSpec) false w args)
      (Rows.retextEitherSpec.post enc Tryz.prog Tryz.f3 false true false false) := by
  refine returnsInHanded_of_change_and (C := Tryz.checked) (X := fun w _ => laidMetH Tryz.prog Rows.retextEitherRow.laid w) (fun _ _ _ hh h => h.of_heap hh) retextEither_own started (by kernel_rfl) Tryz.func3
    (ChangeSpec.witness_shaped (enc := enc) (C := Tryz.checked) (os := os) (X := fun w _ => laidMetH Tryz.prog Rows.retextEitherRow.laid w) false (retextEither_wit os) #[.slice none 0 0, .slice none 0 0] 8 ((World.layVars_os _ _ _).trans rfl) (World.shaped_of_ZipB (by kernel_rfl) (by kernel_rfl)) (by kernel_rfl) (by kernel_rfl) (by kernel_rfl) (retextEither_door os _)) ?_
  intro W base args ds gs before hval0 hW _ hsz0 hL _
  have hval : ∀ (j : Nat) t v, Tryz.f3.params[j]? = some t → args[j]? = some v → Value.okWide Tryz.prog W .any base t v := hval0
  have hsz : (DataW.weightsEach Tryz.prog (Tryz.f3.params.toList ++ Rows.retextEitherSpec.plain.varTypes Tryz.prog) (ds ++ gs)).all (· ≤ reachBytes) = true := hsz0
  clear hsz0
  have hW' := hW
  obtain ⟨p, q, hA0, hV, rfl, hfz, hnd⟩ := hW
  have hA : DataW.TrodAll enc Tryz.prog W 0 (fun _ => true) true Tryz.f3.params.toList args.toList ds p := hA0
  rw [Tryz.params3] at hA hval hsz
  obtain ⟨v0, v1, d0, d1, p0, p1, rfl, rfl, rfl, h0, h1⟩ := trodAll_two hA
  obtain ⟨rfl, rfl⟩ := trodVars_none hV
  clear hA0 hval0
  simp only [List.append_nil] at hW'
  have hlt : ∀ x ∈ p0 ++ (p1), x.block < W.heap.size := fun x hx => by first | simpa using hW'.lt x hx | simpa using hW'.lt x (by simpa using hx)
  refine (retextEither_open W base v0 v1 h0 h1 (hval 0 22 v0 rfl rfl) (hval 1 22 v1 rfl rfl) hsz hL).mono fun e W' ⟨he, hb⟩ => ?_
  subst he
  have e1 : Rows.retextEitherSpec.fn H ([d0, d1] ++ []) = { results := [.lit (.bool true)], args := [d0, d1] } := by simp [Rows.retextEitherSpec]
  refine ⟨_, rfl, _, _, _, [], p0 ++ (p1), [], hW', ?_, ?_, ?_, hb.frame _, fun h => by cases h⟩
  · rw [e1]; exact trodAll_mk1 (shut_bool Tryz.underlying4 true)
  · rw [e1]; exact trodAll_mk2 (Below.trod retextEither_laidOut (by kernel_rfl) (of_decide_eq_true (by kernel_rfl)) h0 hb (fun x hx => hlt x (by simp [hx]))) (Below.trod retextEither_laidOut (by kernel_rfl) (of_decide_eq_true (by kernel_rfl)) h1 hb (fun x hx => hlt x (by simp [hx])))
  · rw [e1]; rfl

theorem retextEither_said : Rows.RetextEitherSaid :=
  OpenClaim.holds_of_wide 3 Tryz.f3 rfl rfl rfl rfl rfl rfl rfl ⟨rfl, rfl, rfl, rfl, rfl⟩ rfl rfl rfl rfl rfl (by kernel_rfl) Tryz.func3 (by kernel_rfl)
    (of_decide_eq_true (by kernel_rfl)) (by unfold Func.isWrapper; rw [if_neg (of_decide_eq_false (by kernel_rfl))]; exact ⟨rfl, rfl⟩)
    (fun os started H enc _ => retextEither_lifted os started H enc)

theorem retextEither_holds : Rows.RetextEitherCardSaid :=
  Claim7.holds_tied_plain_at .later [] Rows.retextEitherCard.laidKinds true Rows.retextEitherCard.stood.harness Rows.retextEitherCard.stood.looks
    retextEither_said (fun _ h => by cases h) (by kernel_rfl) (fun _ h => by cases h) retextEither_row_tie rfl ⟨rfl, rfl⟩ (by kernel_rfl) rfl
    (fun f fn hf hfn => by
      obtain rfl : f = 3 := Option.some.inj ((show Tryz.prog.funcNamed "pidgin/pidginlaw8.RetextEither" = some 3 by kernel_rfl).symm.trans hf) |>.symm
      obtain rfl : fn = Tryz.f3 := (Option.some.inj (Tryz.func3.symm.trans hfn)).symm
      exact ⟨by kernel_rfl, fun j t ht => by
        rw [Tryz.params3] at ht
        have hm : t ∈ [22, 22] := by simpa using Array.mem_of_getElem? ht
        have hall : ([22, 22].all fun u => !Tryz.prog.wantsStandIn u) = true := by kernel_rfl
        exact (show Tryz.prog.wantsStandIn t = false by simpa using List.all_eq_true.1 hall t hm)⟩)
    (by kernel_rfl)
#print axioms retextEither_holds
end Go.Proofs.YthmgcebonplcgaaGreatDoor
