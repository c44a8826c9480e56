/- Proved here: for any bytes, of which letters, any byte and * are taken as a text, both grammars read it, build an automaton of it that accepts the same, and give it the same weight; the arguments read as before. Conditions: the arguments' bulk, at most 1048576; the sentinels' variables and errors' own read as the row lists them, which the tie gives. -/
import Derived.Test.YtcceiblmdjbhjaaGreatDoorKNo
import Derived.Test.YtcceiblmdjbhjaaGreatDoorRows
import Derived.Test.YtcceiblmdjbhjaaGreatDoorCards
import Derived.Test.YtcceiblmdjbhjaaGreatDoorTie
import Derived.Deep.DeepHandedRow
import Derived.SizedLaws
import Derived.ProofKit
import Derived.LaidMore
import Derived.Stop.Joined
import Derived.Carry
namespace Go.Proofs.YtcceiblmdjbhjaaGreatDoor
open Go.ChangeShapes Go.WideShapes Go.ChangeAt Go.RowKit

theorem nfaGrammars_own : ownKnob Tryz.prog.godebug = none := by kernel_rfl
theorem nfaGrammars_laidOut : laidOutB Tryz.prog = true := by kernel_rfl
theorem nfaGrammars_door (os : Os) (args : Array Value) : laidMetH Tryz.prog Rows.nfaGrammarsUptoRow.laid ((World.doorLaid Tryz.prog 415 os).forCall (fun _ _ => 0) ⟨#[], args, []⟩).memory :=
  laidMetH_of_parts3 (fuel := 8) (laidMet_of_run' 8 (by kernel_rfl) (by kernel_rfl)) (by kernel_rfl) (by kernel_rfl)

set_option maxRecDepth 100000 in
theorem nfaGrammars_reads (os : Os) {H : Type} (enc : TypeId × Value → H) : ∃ places, DataW.whole enc Tryz.prog ((World.doorLaid Tryz.prog 415 os).forCall (fun _ _ => 0) ⟨#[], #[.slice none 0 0, .slice none 0 0], []⟩).memory Tryz.f7.params.toList Rows.nfaGrammarsSpec.vars false #[.slice none 0 0, .slice none 0 0].toList 8 = some ([.nil, .nil], [], places) :=
  ⟨[], by kernel_rfl⟩
set_option maxRecDepth 100000 in
theorem nfaGrammars_lifted (os : Os) (started : os.Started) (H : Type) (enc : TypeId × Value → H) (F : Stop.Interp) :
    ReturnsInHanded {} Tryz.checked os 7 .any ((Rows.OpenSpec.upto Rows.nfaGrammarsSpec).preRow enc Tryz.prog Tryz.f7 Rows.nfaGrammarsUptoRow.domain false Rows.nfaGrammarsUptoRow.laid) (((Rows.OpenSpec.upto Rows.nfaGrammarsSpec).at F).post enc Tryz.prog Tryz.f7 false true false false) := by
  obtain ⟨places, hx⟩ := nfaGrammars_reads os enc
  refine returnsInHanded_of_row (C := Tryz.checked) (s := Rows.OpenSpec.upto Rows.nfaGrammarsSpec) nfaGrammars_own started (by kernel_rfl) Tryz.func7
    ⟨(World.doorLaid Tryz.prog 415 os), fun _ _ => 0, ⟨#[], #[.slice none 0 0, .slice none 0 0], []⟩, rfl, (World.shaped_of_RefB (by kernel_rfl) (by kernel_rfl)), rfl, (Input.okWide_of_okWideB (by kernel_rfl)).2,
      OpenSpec.preRow_of_cond 8 hx (by kernel_rfl) (fun k hk => by cases hk; kernel_rfl) (by kernel_rfl) (nfaGrammars_door os _), by
      simp only [Assume.holds]
      exact ⟨by simp, by simp, fun _ => Modest.zero, by simp, by simp⟩⟩ ?_
  intro W base args ds gs before hval0 hW _ hcond hsz0 hL _ _
  have hk0 := hcond _ rfl
  show Calls Tryz.prog 7 args W fun e W' => ∃ v, e = .returned v ∧ Rows.nfaGrammarsSpec.post enc Tryz.prog Tryz.f7 false true false false W args v W'
  have hval : ∀ (j : Nat) t v, Tryz.f7.params[j]? = some t → args[j]? = some v → Value.okWide Tryz.prog W .any base t v := hval0
  have hsz : (DataW.weightsEach Tryz.prog (Tryz.f7.params.toList ++ Rows.nfaGrammarsSpec.plain.varTypes Tryz.prog) (ds ++ gs)).all (· ≤ reachBytes) = true := hsz0
  clear hsz0
  have hW' := hW
  obtain ⟨p, q, hA0, hV, rfl, hfz, hnd⟩ := hW
  have hA : DataW.TrodAll enc Tryz.prog W 0 (fun _ => true) true Tryz.f7.params.toList args.toList ds p := hA0
  rw [Tryz.params7] at hA hval hsz
  obtain ⟨v0, v1, d0, d1, p0, p1, rfl, rfl, rfl, h0, h1⟩ := trodAll_two hA
  obtain ⟨rfl, rfl⟩ := trodVars_none hV
  clear hA0 hval0
  simp only [List.append_nil] at hW'
  have hlt : ∀ x ∈ p0 ++ (p1), x.block < W.heap.size := fun x hx => by first | simpa using hW'.lt x hx | simpa using hW'.lt x (by simpa using hx)
  simp only [List.append_nil] at hk0
  refine (nfaGrammars_open W base v0 v1 h0 h1 (hval 0 22 v0 rfl rfl) (hval 1 22 v1 rfl rfl) hsz hk0 hL).mono fun e W' ⟨he, hb⟩ => ?_
  subst he
  have e1 : Rows.nfaGrammarsSpec.fn H ([d0, d1] ++ []) = { results := [.lit (.bool true)], args := [d0, d1] } := by simp [Rows.nfaGrammarsSpec]
  refine ⟨_, rfl, _, _, _, [], p0 ++ (p1), [], hW', ?_, ?_, ?_, hb.frame _, fun h => by cases h⟩
  · rw [e1]; exact trodAll_mk1 (shut_bool Tryz.underlying4 true)
  · rw [e1]; exact trodAll_mk2 (Below.trod nfaGrammars_laidOut (by kernel_rfl) (of_decide_eq_true (by kernel_rfl)) h0 hb (fun x hx => hlt x (by simp [hx]))) (Below.trod nfaGrammars_laidOut (by kernel_rfl) (of_decide_eq_true (by kernel_rfl)) h1 hb (fun x hx => hlt x (by simp [hx])))
  · rw [e1]; rfl

theorem nfaGrammars_said : Rows.NfaGrammarsUptoSaid :=
  OpenClaim.holds_of_cond 7 Tryz.f7 rfl rfl rfl rfl rfl rfl rfl ⟨rfl, rfl, rfl, rfl, rfl⟩ rfl rfl rfl rfl rfl (by kernel_rfl) Tryz.func7 (by kernel_rfl)
    (of_decide_eq_true (by kernel_rfl)) (by unfold Func.isWrapper; rw [if_neg (of_decide_eq_false (by kernel_rfl))]; exact ⟨rfl, rfl⟩)
    (fun os started H enc _ F => by rw [OpenClaim.pre_eq_preRow]; exact nfaGrammars_lifted os started H enc F)

theorem nfaGrammars_holds : Rows.NfaGrammarsUptoCardSaid :=
  Claim7.holds_tied_plain_at .later [] Rows.nfaGrammarsUptoCard.laidKinds true Rows.nfaGrammarsUptoCard.stood.harness Rows.nfaGrammarsUptoCard.stood.looks
    nfaGrammars_said (fun _ h => by cases h) (by kernel_rfl) (fun _ h => by cases h) nfaGrammarsUpto_row_tie rfl ⟨rfl, rfl⟩ (by kernel_rfl) rfl
    (fun f fn hf hfn => by
      obtain rfl : f = 7 := Option.some.inj ((show Tryz.prog.funcNamed "pidgin/pidginlaw9.NfaGrammars" = some 7 by kernel_rfl).symm.trans hf) |>.symm
      obtain rfl : fn = Tryz.f7 := (Option.some.inj (Tryz.func7.symm.trans hfn)).symm
      exact ⟨by kernel_rfl, fun j t ht => by
        rw [Tryz.params7] at ht
        have hm : t ∈ [22, 22] := by simpa using Array.mem_of_getElem? ht
        have hall : ([22, 22].all fun u => !Tryz.prog.wantsStandIn u) = true := by kernel_rfl
        exact (show Tryz.prog.wantsStandIn t = false by simpa using List.all_eq_true.1 hall t hm)⟩)
    (by kernel_rfl)
#print axioms nfaGrammars_holds
end Go.Proofs.YtcceiblmdjbhjaaGreatDoor
