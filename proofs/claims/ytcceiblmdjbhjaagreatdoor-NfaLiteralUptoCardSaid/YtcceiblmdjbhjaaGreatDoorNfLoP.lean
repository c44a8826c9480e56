/- Proved here: for any two strings, in either grammar, the automaton of the first one's quoted text accepts the first string, and the second one just where they are the same; the arguments read as before. Conditions: the arguments' bulk, at most 1048576; the sentinels' variables and errors' own read as the row lists them, which the tie gives. -/
import Derived.Test.YtcceiblmdjbhjaaGreatDoorKNl
import Derived.Test.YtcceiblmdjbhjaaGreatDoorRows
import Derived.Test.YtcceiblmdjbhjaaGreatDoorCards
import Derived.Test.YtcceiblmdjbhjaaGreatDoorTie
import Derived.Deep.DeepHandedRow
import Derived.SizedLaws
import Derived.ProofKit
import Derived.LaidMore
import Derived.Stop.Joined
import Derived.Carry
namespace Go.Proofs.YtcceiblmdjbhjaaGreatDoor
open Go.ChangeShapes Go.WideShapes Go.ChangeAt Go.RowKit

theorem nfaLiteral_own : ownKnob Tryz.prog.godebug = none := by kernel_rfl
theorem nfaLiteral_laidOut : laidOutB Tryz.prog = true := by kernel_rfl
theorem nfaLiteral_door (os : Os) (args : Array Value) : laidMetH Tryz.prog Rows.nfaLiteralUptoRow.laid ((World.doorLaid Tryz.prog 415 os).forCall (fun _ _ => 0) ⟨#[], args, []⟩).memory :=
  laidMetH_of_parts3 (fuel := 8) (laidMet_of_run' 8 (by kernel_rfl) (by kernel_rfl)) (by kernel_rfl) (by kernel_rfl)

set_option maxRecDepth 100000 in
theorem nfaLiteral_reads (os : Os) {H : Type} (enc : TypeId × Value → H) : ∃ places, DataW.whole enc Tryz.prog ((World.doorLaid Tryz.prog 415 os).forCall (fun _ _ => 0) ⟨#[], #[.string ⟨#[]⟩, .string ⟨#[]⟩, .bool false], []⟩).memory Tryz.f9.params.toList Rows.nfaLiteralSpec.vars false #[.string ⟨#[]⟩, .string ⟨#[]⟩, .bool false].toList 8 = some ([.lit (.string []), .lit (.string []), .lit (.bool false)], [], places) :=
  ⟨[], by kernel_rfl⟩
set_option maxRecDepth 100000 in
theorem nfaLiteral_lifted (os : Os) (started : os.Started) (H : Type) (enc : TypeId × Value → H) (F : Stop.Interp) :
    ReturnsInHanded {} Tryz.checked os 9 .any ((Rows.OpenSpec.upto Rows.nfaLiteralSpec).preRow enc Tryz.prog Tryz.f9 Rows.nfaLiteralUptoRow.domain false Rows.nfaLiteralUptoRow.laid) (((Rows.OpenSpec.upto Rows.nfaLiteralSpec).at F).post enc Tryz.prog Tryz.f9 false true false false) := by
  obtain ⟨places, hx⟩ := nfaLiteral_reads os enc
  refine returnsInHanded_of_row (C := Tryz.checked) (s := Rows.OpenSpec.upto Rows.nfaLiteralSpec) nfaLiteral_own started (by kernel_rfl) Tryz.func9
    ⟨(World.doorLaid Tryz.prog 415 os), fun _ _ => 0, ⟨#[], #[.string ⟨#[]⟩, .string ⟨#[]⟩, .bool false], []⟩, rfl, (World.shaped_of_RefB (by kernel_rfl) (by kernel_rfl)), rfl, (Input.okWide_of_okWideB (by kernel_rfl)).2,
      OpenSpec.preRow_of_cond 8 hx (by kernel_rfl) (fun k hk => by cases hk; kernel_rfl) (by kernel_rfl) (nfaLiteral_door os _), by
      simp only [Assume.holds]
      exact ⟨by simp, by simp, fun _ => Modest.zero, by simp, by simp⟩⟩ ?_
  intro W base args ds gs before hval0 hW _ hcond hsz0 hL _ _
  have hk0 := hcond _ rfl
  show Calls Tryz.prog 9 args W fun e W' => ∃ v, e = .returned v ∧ Rows.nfaLiteralSpec.post enc Tryz.prog Tryz.f9 false true false false W args v W'
  have hval : ∀ (j : Nat) t v, Tryz.f9.params[j]? = some t → args[j]? = some v → Value.okWide Tryz.prog W .any base t v := hval0
  have hsz : (DataW.weightsEach Tryz.prog (Tryz.f9.params.toList ++ Rows.nfaLiteralSpec.plain.varTypes Tryz.prog) (ds ++ gs)).all (· ≤ reachBytes) = true := hsz0
  clear hsz0
  have hW' := hW
  obtain ⟨p, q, hA0, hV, rfl, hfz, hnd⟩ := hW
  have hA : DataW.TrodAll enc Tryz.prog W 0 (fun _ => true) true Tryz.f9.params.toList args.toList ds p := hA0
  rw [Tryz.params9] at hA hval hsz
  obtain ⟨v0, v1, v2, d0, d1, d2, p0, p1, p2, rfl, rfl, rfl, h0, h1, h2⟩ := trodAll_three hA
  obtain ⟨rfl, rfl⟩ := trodVars_none hV
  clear hA0 hval0
  simp only [List.append_nil] at hW'
  have hlt : ∀ x ∈ p0 ++ (p1 ++ (p2)), x.block < W.heap.size := fun x hx => by first | simpa using hW'.lt x hx | simpa using hW'.lt x (by simpa using hx)
  simp only [List.append_nil] at hk0
  refine (nfaLiteral_open W base v0 v1 v2 h0 h1 h2 (hval 0 9 v0 rfl rfl) (hval 1 9 v1 rfl rfl) (hval 2 4 v2 rfl rfl) hsz hk0 hL).mono fun e W' ⟨he, hb⟩ => ?_
  subst he
  have e1 : Rows.nfaLiteralSpec.fn H ([d0, d1, d2] ++ []) = { results := [.lit (.bool true)], args := [d0, d1, d2] } := by simp [Rows.nfaLiteralSpec]
  refine ⟨_, rfl, _, _, _, [], p0 ++ (p1 ++ (p2)), [], hW', ?_, ?_, ?_, hb.frame _, fun h => by cases h⟩
  · rw [e1]; exact trodAll_mk1 (shut_bool Tryz.underlying4 true)
  · rw [e1]; exact trodAll_mk3 (Below.trod nfaLiteral_laidOut (by kernel_rfl) (of_decide_eq_true (by kernel_rfl)) h0 hb (fun x hx => hlt x (by simp [hx]))) (Below.trod nfaLiteral_laidOut (by kernel_rfl) (of_decide_eq_true (by kernel_rfl)) h1 hb (fun x hx => hlt x (by simp [hx]))) (Below.trod nfaLiteral_laidOut (by kernel_rfl) (of_decide_eq_true (by kernel_rfl)) h2 hb (fun x hx => hlt x (by simp [hx])))
  · rw [e1]; rfl

theorem nfaLiteral_said : Rows.NfaLiteralUptoSaid :=
  OpenClaim.holds_of_cond 9 Tryz.f9 rfl rfl rfl rfl rfl rfl rfl ⟨rfl, rfl, rfl, rfl, rfl⟩ rfl rfl rfl rfl rfl (by kernel_rfl) Tryz.func9 (by kernel_rfl)
    (of_decide_eq_true (by kernel_rfl)) (by unfold Func.isWrapper; rw [if_neg (of_decide_eq_false (by kernel_rfl))]; exact ⟨rfl, rfl⟩)
    (fun os started H enc _ F => by rw [OpenClaim.pre_eq_preRow]; exact nfaLiteral_lifted os started H enc F)

theorem nfaLiteral_holds : Rows.NfaLiteralUptoCardSaid :=
  Claim7.holds_tied_plain_at .later [] Rows.nfaLiteralUptoCard.laidKinds true Rows.nfaLiteralUptoCard.stood.harness Rows.nfaLiteralUptoCard.stood.looks
    nfaLiteral_said (fun _ h => by cases h) (by kernel_rfl) (fun _ h => by cases h) nfaLiteralUpto_row_tie rfl ⟨rfl, rfl⟩ (by kernel_rfl) rfl
    (fun f fn hf hfn => by
      obtain rfl : f = 9 := Option.some.inj ((show Tryz.prog.funcNamed "pidgin/pidginlaw9.NfaLiteral" = some 9 by kernel_rfl).symm.trans hf) |>.symm
      obtain rfl : fn = Tryz.f9 := (Option.some.inj (Tryz.func9.symm.trans hfn)).symm
      exact ⟨by kernel_rfl, fun j t ht => by
        rw [Tryz.params9] at ht
        have hm : t ∈ [9, 9, 4] := by simpa using Array.mem_of_getElem? ht
        have hall : ([9, 9, 4].all fun u => !Tryz.prog.wantsStandIn u) = true := by kernel_rfl
        exact (show Tryz.prog.wantsStandIn t = false by simpa using List.all_eq_true.1 hall t hm)⟩)
    (by kernel_rfl)
#print axioms nfaLiteral_holds
end Go.Proofs.YtcceiblmdjbhjaaGreatDoor
