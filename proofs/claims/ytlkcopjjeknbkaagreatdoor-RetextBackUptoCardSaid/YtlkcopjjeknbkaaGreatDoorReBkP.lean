/- Proved here: any text of at most so many bytes as the form's bound says, quoted and read, is its bytes, one behind the other. Condition: the sentinels' variables, errors' own and the listed tables read as the row lists them, which the tie gives. -/
import Derived.Test.YtlkcopjjeknbkaaGreatDoorKBk
import Derived.Test.YtlkcopjjeknbkaaGreatDoorRows
import Derived.Test.YtlkcopjjeknbkaaGreatDoorCards
import Derived.Test.YtlkcopjjeknbkaaGreatDoorTie
import Derived.Lay
import Derived.LaidHandle
import Derived.Deep.DeepHandedRow
import Derived.SizedLaws
import Derived.ProofKit
import Derived.LaidMore
import Derived.Stop.Joined
import Derived.Carry
namespace Go.Proofs.YtlkcopjjeknbkaaGreatDoor
open Go.ChangeShapes Go.WideShapes Go.ChangeAt Go.RowKit

theorem retextBack_own : ownKnob Tryz.prog.godebug = none := by kernel_rfl
theorem retextBack_laidOut : laidOutB Tryz.prog = true := by kernel_rfl
theorem retextBack_layP {P : Program} {w0 : World} {l : List (String × DataW Unit)} (args : Array Value) (hf : w0.layFits P l [] = true) (hi : w0.layIfaces P l (w0.layVars P l) = true) : laidMet P l ((w0.layVars P l).forCall (fun _ _ => 0) ⟨#[], args, []⟩).memory := by
  have e1 : (l.filter fun x => (l.map (·.1)).contains x.1) = l := List.filter_eq_self.2 fun x hx => by simpa using ⟨x.2, hx⟩
  have e2 : (l.filter fun x => !(l.map (·.1)).contains x.1) = [] := List.filter_eq_nil_iff.2 fun x hx => by simpa using ⟨x.2, hx⟩
  refine (laidMet_layVars (w0 := w0) (w' := w0.layVars P l) (l.map (·.1)) [] ?_ ?_ ?_ ?_).of_heap (by simp [World.memory, World.forCall, Input.heap])
  · rw [e1]
  · rw [e1]; exact hf
  · rw [e1]; exact hi
  · rw [e2]; exact LaidIn.none
noncomputable def retextBack_wit (os : Os) : World := (World.doorLaid Tryz.prog 440 os).layVars Tryz.prog (Rows.retextBackUptoRow.laid.filter fun x => x.2.handleName?.isNone)
theorem retextBack_door (os : Os) (args : Array Value) : laidMetH Tryz.prog Rows.retextBackUptoRow.laid ((retextBack_wit os).forCall (fun _ _ => 0) ⟨#[], args, []⟩).memory :=
  laidMetH_of_parts3 (fuel := 8) (retextBack_layP args (by kernel_rfl) (by kernel_rfl)) (by kernel_rfl) (by kernel_rfl)

set_option maxRecDepth 100000 in
theorem retextBack_reads (os : Os) {H : Type} (enc : TypeId × Value → H) : ∃ places, DataW.whole enc Tryz.prog ((retextBack_wit os).forCall (fun _ _ => 0) ⟨#[], #[.string ⟨#[]⟩, .bool false], []⟩).memory Tryz.f8.params.toList Rows.retextBackSpec.vars false #[.string ⟨#[]⟩, .bool false].toList 8 = some ([.lit (.string []), .lit (.bool false)], [], places) :=
  ⟨[], by kernel_rfl⟩
set_option maxRecDepth 100000 in
theorem retextBack_lifted (os : Os) (started : os.Started) (H : Type) (enc : TypeId × Value → H) (F : Stop.Interp) :
    ReturnsInHanded {} Tryz.checked os 8 .any ((Rows.OpenSpec.upto Rows.retextBackSpec).preRow enc Tryz.prog Tryz.f8 Rows.retextBackUptoRow.domain false Rows.retextBackUptoRow.laid) (((Rows.OpenSpec.upto Rows.retextBackSpec).at F).post enc Tryz.prog Tryz.f8 false true false false) := by
  obtain ⟨places, hx⟩ := retextBack_reads os enc
  refine returnsInHanded_of_row (C := Tryz.checked) (s := Rows.OpenSpec.upto Rows.retextBackSpec) retextBack_own started (by kernel_rfl) Tryz.func8
    ⟨(retextBack_wit os), fun _ _ => 0, ⟨#[], #[.string ⟨#[]⟩, .bool false], []⟩, (World.layVars_os _ _ _).trans rfl, (World.shaped_of_ZipB (by kernel_rfl) (by kernel_rfl)), rfl, (Input.okWide_of_okWideB (by kernel_rfl)).2,
      OpenSpec.preRow_of_cond 8 hx (by kernel_rfl) (fun k hk => by cases hk; kernel_rfl) (by kernel_rfl) (retextBack_door os _), by
      simp only [Assume.holds]
      exact ⟨by simp, by simp, fun _ => Modest.zero, by simp, by simp⟩⟩ ?_
  intro W base args ds gs before hval0 hW _ hcond hsz0 hL _ _
  have hk0 := hcond _ rfl
  show Calls Tryz.prog 8 args W fun e W' => ∃ v, e = .returned v ∧ Rows.retextBackSpec.post enc Tryz.prog Tryz.f8 false true false false W args v W'
  have hval : ∀ (j : Nat) t v, Tryz.f8.params[j]? = some t → args[j]? = some v → Value.okWide Tryz.prog W .any base t v := hval0
  have hsz : (DataW.weightsEach Tryz.prog (Tryz.f8.params.toList ++ Rows.retextBackSpec.plain.varTypes Tryz.prog) (ds ++ gs)).all (· ≤ reachBytes) = true := hsz0
  clear hsz0
  have hW' := hW
  obtain ⟨p, q, hA0, hV, rfl, hfz, hnd⟩ := hW
  have hA : DataW.TrodAll enc Tryz.prog W 0 (fun _ => true) true Tryz.f8.params.toList args.toList ds p := hA0
  rw [Tryz.params8] at hA hval hsz
  obtain ⟨v0, v1, d0, d1, p0, p1, rfl, rfl, rfl, h0, h1⟩ := trodAll_two hA
  obtain ⟨rfl, rfl⟩ := trodVars_none hV
  clear hA0 hval0
  simp only [List.append_nil] at hW'
  have hlt : ∀ x ∈ p0 ++ (p1), x.block < W.heap.size := fun x hx => by first | simpa using hW'.lt x hx | simpa using hW'.lt x (by simpa using hx)
  simp only [List.append_nil] at hk0
  refine (retextBack_open W base v0 v1 h0 h1 (hval 0 9 v0 rfl rfl) (hval 1 4 v1 rfl rfl) hsz hk0 hL).mono fun e W' ⟨he, hb⟩ => ?_
  subst he
  have e1 : Rows.retextBackSpec.fn H ([d0, d1] ++ []) = { results := [.lit (.bool true)], args := [d0, d1] } := by simp [Rows.retextBackSpec]
  refine ⟨_, rfl, _, _, _, [], p0 ++ (p1), [], hW', ?_, ?_, ?_, hb.frame _, fun h => by cases h⟩
  · rw [e1]; exact trodAll_mk1 (shut_bool Tryz.underlying4 true)
  · rw [e1]; exact trodAll_mk2 (Below.trod retextBack_laidOut (by kernel_rfl) (of_decide_eq_true (by kernel_rfl)) h0 hb (fun x hx => hlt x (by simp [hx]))) (Below.trod retextBack_laidOut (by kernel_rfl) (of_decide_eq_true (by kernel_rfl)) h1 hb (fun x hx => hlt x (by simp [hx])))
  · rw [e1]; rfl

theorem retextBack_said : Rows.RetextBackUptoSaid :=
  OpenClaim.holds_of_cond 8 Tryz.f8 rfl rfl rfl rfl rfl rfl rfl ⟨rfl, rfl, rfl, rfl, rfl⟩ rfl rfl rfl rfl rfl (by kernel_rfl) Tryz.func8 (by kernel_rfl)
    (of_decide_eq_true (by kernel_rfl)) (by unfold Func.isWrapper; rw [if_neg (of_decide_eq_false (by kernel_rfl))]; exact ⟨rfl, rfl⟩)
    (fun os started H enc _ F => by rw [OpenClaim.pre_eq_preRow]; exact retextBack_lifted os started H enc F)

theorem retextBack_holds : Rows.RetextBackUptoCardSaid :=
  Claim7.holds_tied_plain_at .later [] Rows.retextBackUptoCard.laidKinds true Rows.retextBackUptoCard.stood.harness Rows.retextBackUptoCard.stood.looks
    retextBack_said (fun _ h => by cases h) (by kernel_rfl) (fun _ h => by cases h) retextBackUpto_row_tie rfl ⟨rfl, rfl⟩ (by kernel_rfl) rfl
    (fun f fn hf hfn => by
      obtain rfl : f = 8 := Option.some.inj ((show Tryz.prog.funcNamed "pidgin/pidginlaw8.RetextBack" = some 8 by kernel_rfl).symm.trans hf) |>.symm
      obtain rfl : fn = Tryz.f8 := (Option.some.inj (Tryz.func8.symm.trans hfn)).symm
      exact ⟨by kernel_rfl, fun j t ht => by
        rw [Tryz.params8] at ht
        have hm : t ∈ [9, 4] := by simpa using Array.mem_of_getElem? ht
        have hall : ([9, 4].all fun u => !Tryz.prog.wantsStandIn u) = true := by kernel_rfl
        exact (show Tryz.prog.wantsStandIn t = false by simpa using List.all_eq_true.1 hall t hm)⟩)
    (by kernel_rfl)
#print axioms retextBack_holds
end Go.Proofs.YtlkcopjjeknbkaaGreatDoor
