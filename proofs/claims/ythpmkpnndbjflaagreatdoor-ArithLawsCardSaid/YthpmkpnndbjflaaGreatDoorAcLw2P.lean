/- Arithmetic is arithmetic: the law returns true; no condition but that the listed variables hold what the program's text lays. -/
import Derived.Test.YthpmkpnndbjflaaGreatDoorAcLw2W
import Derived.Test.YthpmkpnndbjflaaGreatDoorAcLw2J
import Derived.Test.YthpmkpnndbjflaaGreatDoorKO
import Derived.Test.YthpmkpnndbjflaaGreatDoorRows
import Derived.Test.YthpmkpnndbjflaaGreatDoorCards
import Derived.Test.YthpmkpnndbjflaaGreatDoorTie
import Derived.Lay
import Derived.MakeChecks
import Derived.SizedLaws
import Derived.ProofKit
import Derived.LaidMore
import Derived.Stop.Joined
import Derived.Carry
namespace Go.Proofs.YthpmkpnndbjflaaGreatDoor
open Go.ChangeShapes Go.WideShapes Go.ChangeAt Go.RowKit

set_option maxRecDepth 100000 in
theorem arithLaws_lifted (os : Os) (started : os.Started) (H : Type) (enc : TypeId × Value → H) :
    ReturnsInHanded {} Tryz.checked os 6 .any (fun w args => (Rows.arithLawsSpec.pre enc Tryz.prog Tryz.f6 [] false w args ∧ laidMetH Tryz.prog Rows.arithLawsRow.laid w) ∧ sizedMet enc Tryz.prog Tryz.f6 (OpenSpec.ofChange Rows.arithLawsSpec) false w args)
      (Rows.arithLawsSpec.post enc Tryz.prog Tryz.f6 false true false false) := by
  refine returnsInHanded_of_change_and (C := Tryz.checked) (X := fun w _ => laidMetH Tryz.prog Rows.arithLawsRow.laid w) (fun _ _ _ hh h => h.of_heap hh) arithLaws_own started (by kernel_rfl) Tryz.func6
    (ChangeSpec.witness_shaped (enc := enc) (C := Tryz.checked) (os := os) (X := fun w _ => laidMetH Tryz.prog Rows.arithLawsRow.laid w) false (World.laidAll Tryz.prog os Rows.arithLawsRow.laid) #[.slice none 0 0, .slice none 0 0, .slice none 0 0] 8 (World.laidAll_os _ _ _)
      (World.shaped_of_ZipB (arithLaws_s1 os) (arithLaws_s2 os)) (arithLaws_s3 os) (arithLaws_s4 enc os) (arithLaws_s5 enc os) (arithLaws_s6 os)) ?_
  intro W base args ds gs before hval0 hW _ hsz0 hL _
  have hval : ∀ (j : Nat) t v, Tryz.f6.params[j]? = some t → args[j]? = some v → Value.okWide Tryz.prog W .any base t v := hval0
  have hsz : (DataW.weightsEach Tryz.prog (Tryz.f6.params.toList ++ Rows.arithLawsSpec.plain.varTypes Tryz.prog) (ds ++ gs)).all (· ≤ reachBytes) = true := hsz0
  clear hsz0
  have hW' := hW
  obtain ⟨p, q, hA0, hV, rfl, hfz, hnd⟩ := hW
  have hA : DataW.TrodAll enc Tryz.prog W 0 (fun _ => true) true Tryz.f6.params.toList args.toList ds p := hA0
  rw [Tryz.params6] at hA hval hsz
  obtain ⟨v0, v1, v2, d0, d1, d2, p0, p1, p2, rfl, rfl, rfl, h0, h1, h2⟩ := trodAll_three hA
  obtain ⟨rfl, rfl⟩ := trodVars_none hV
  clear hA0 hval0
  simp only [List.append_nil] at hW'
  have hlt : ∀ x ∈ p0 ++ (p1 ++ (p2)), x.block < W.heap.size := fun x hx => by first | simpa using hW'.lt x hx | simpa using hW'.lt x (by simpa using hx)
  refine (arithLaws_open W base v0 v1 v2 h0 h1 h2 (hval 0 39 v0 rfl rfl) (hval 1 39 v1 rfl rfl) (hval 2 22 v2 rfl rfl) hsz hL).mono fun e W' ⟨he, hb⟩ => ?_
  subst he
  have e1 : Rows.arithLawsSpec.fn H ([d0, d1, d2] ++ []) = { results := [.lit (.bool true)], args := [d0, d1, d2] } := by simp [Rows.arithLawsSpec]
  refine ⟨_, rfl, _, _, _, [], p0 ++ (p1 ++ (p2)), [], hW', ?_, ?_, ?_, hb.frame _, fun h => by cases h⟩
  · rw [e1]; exact trodAll_mk1 (shut_bool Tryz.underlying4 true)
  · rw [e1]; exact trodAll_mk3 (Below.trod arithLaws_laidOut (by kernel_rfl) (of_decide_eq_true (by kernel_rfl)) h0 hb (fun x hx => hlt x (by simp [hx]))) (Below.trod arithLaws_laidOut (by kernel_rfl) (of_decide_eq_true (by kernel_rfl)) h1 hb (fun x hx => hlt x (by simp [hx]))) (Below.trod arithLaws_laidOut (by kernel_rfl) (of_decide_eq_true (by kernel_rfl)) h2 hb (fun x hx => hlt x (by simp [hx])))
  · rw [e1]; rfl

theorem arithLaws_said : Rows.ArithLawsSaid :=
  OpenClaim.holds_of_wide 6 Tryz.f6 rfl rfl rfl rfl rfl rfl rfl ⟨rfl, rfl, rfl, rfl, rfl⟩ rfl rfl rfl rfl rfl (by kernel_rfl) Tryz.func6 arithLaws_joined
    (of_decide_eq_true (by kernel_rfl)) (by unfold Func.isWrapper; rw [if_neg (of_decide_eq_false (by kernel_rfl))]; exact ⟨rfl, rfl⟩)
    (fun os started H enc _ => arithLaws_lifted os started H enc)

theorem arithLaws_holds : Rows.ArithLawsCardSaid :=
  Claim7.holds_tied_plain_at .later [] Rows.arithLawsCard.laidKinds true Rows.arithLawsCard.stood.harness Rows.arithLawsCard.stood.looks
    arithLaws_said (fun _ h => by cases h) (by kernel_rfl) (fun _ h => by cases h) arithLaws_row_tie rfl ⟨rfl, rfl⟩ (by kernel_rfl) rfl
    (fun f fn hf hfn => by
      obtain rfl : f = 6 := Option.some.inj ((show Tryz.prog.funcNamed "pidgin/pidginlaw4.ArithLaws" = some 6 by kernel_rfl).symm.trans hf) |>.symm
      obtain rfl : fn = Tryz.f6 := (Option.some.inj (Tryz.func6.symm.trans hfn)).symm
      exact ⟨by kernel_rfl, fun j t ht => by
        rw [Tryz.params6] at ht
        have hm : t ∈ [39, 39, 22] := by simpa using Array.mem_of_getElem? ht
        have hall : ([39, 39, 22].all fun u => !Tryz.prog.wantsStandIn u) = true := by kernel_rfl
        exact (show Tryz.prog.wantsStandIn t = false by simpa using List.all_eq_true.1 hall t hm)⟩)
    (by kernel_rfl)
#print axioms arithLaws_holds
end Go.Proofs.YthpmkpnndbjflaaGreatDoor
