import Derived.Test.YtkakhfkkeoceiaaGreatDoorAcNilW
import Derived.Test.YtkakhfkkeoceiaaGreatDoorAcNilJ
import Derived.Test.YtkakhfkkeoceiaaGreatDoorAcNilO
import Derived.Test.YtkakhfkkeoceiaaGreatDoorRows
import Derived.Test.YtkakhfkkeoceiaaGreatDoorCards
import Derived.Test.YtkakhfkkeoceiaaGreatDoorTie
import Derived.Lay
import Derived.LaidHandle
import Derived.SizedLaws
import Derived.ProofKit
import Derived.LaidMore
import Derived.Stop.Joined
import Derived.Carry
namespace Go.Proofs.YtkakhfkkeoceiaaGreatDoor
open Go.ChangeShapes Go.WideShapes Go.ChangeAt Go.RowKit
set_option maxRecDepth 100000 in
theorem arithNil_lifted (os : Os) (started : os.Started) (H : Type) (enc : TypeId × Value → H) :
  ReturnsInHanded {} Tryz.checked os 7 .any (fun w args => (Rows.arithNilSpec.pre enc Tryz.prog Tryz.f7 [] false w args ∧ laidMetH Tryz.prog Rows.arithNilRow.laid w) ∧ sizedMet enc Tryz.prog Tryz.f7 (OpenSpec.ofChange Rows.arithNilSpec) false w args)
   (Rows.arithNilSpec.post enc Tryz.prog Tryz.f7 false true false false) := by
 refine returnsInHanded_of_change_and (C := Tryz.checked) (X := fun w _ => laidMetH Tryz.prog Rows.arithNilRow.laid w) (fun _ _ _ hh h => h.of_heap hh) arithNil_own started (by kernel_rfl) Tryz.func7
  (ChangeSpec.witness_shaped (enc := enc) (C := Tryz.checked) (os := os) (X := fun w _ => laidMetH Tryz.prog Rows.arithNilRow.laid w) false (arithNil_wit os) #[] 8 ((World.layVars_os _ _ _).trans rfl) (World.shaped_of_ZipB (arithNil_s1 os) (arithNil_s2 os)) (arithNil_s3 os) (arithNil_s4 enc os) (arithNil_s5 enc os) (arithNil_door os _)) ?_
 intro W base args ds gs before hval0 hW _ hsz0 hL _
 have hval : ∀ (j : Nat) t v, Tryz.f7.params[j]? = some t → args[j]? = some v → Value.okWide Tryz.prog W .any base t v := hval0
 have hsz : (DataW.weightsEach Tryz.prog (Tryz.f7.params.toList ++ Rows.arithNilSpec.plain.varTypes Tryz.prog) (ds ++ gs)).all (· ≤ reachBytes) = true := hsz0
 clear hsz0
 have hW' := hW
 obtain ⟨p, q, hA0, hV, rfl, hfz, hnd⟩ := hW
 have hA : DataW.TrodAll enc Tryz.prog W 0 (fun _ => true) true Tryz.f7.params.toList args.toList ds p := hA0
 rw [Tryz.params7] at hA hval hsz
 obtain ⟨hargs0, rfl, rfl⟩ := trodAll_nil hA
 obtain rfl : args = #[] := by simpa using hargs0
 obtain ⟨rfl, rfl⟩ := trodVars_none hV
 clear hA0 hval0
 simp only [List.append_nil] at hW'
 have hlt : ∀ x ∈ ([] : List MemPlace), x.block < W.heap.size := fun x hx => by first | simpa using hW'.lt x hx | simpa using hW'.lt x (by simpa using hx)
 refine (arithNil_open W base    hsz hL).mono fun e W' ⟨he, hb⟩ => ?_
 subst he
 have e1 : Rows.arithNilSpec.fn H ([] ++ []) = { results := [.lit (.bool true)], args := [] } := by simp [Rows.arithNilSpec]
 refine ⟨_, rfl, _, _, _, [], [], [], hW', ?_, ?_, ?_, hb.frame _, fun h => by cases h⟩
 ·rw [e1]; exact trodAll_mk1 (shut_bool Tryz.underlying4 true)
 ·rw [e1]; simpa using trodAll_mk0
 ·rw [e1]; rfl
theorem arithNil_said : Rows.ArithNilSaid :=
 OpenClaim.holds_of_wide 7 Tryz.f7 rfl rfl rfl rfl rfl rfl rfl ⟨rfl, rfl, rfl, rfl, rfl⟩ rfl rfl rfl rfl rfl (by kernel_rfl) Tryz.func7 arithNil_joined
  (of_decide_eq_true (by kernel_rfl)) (by unfold Func.isWrapper; rw [if_neg (of_decide_eq_false (by kernel_rfl))]; exact ⟨rfl, rfl⟩)
  (fun os started H enc _ => arithNil_lifted os started H enc)
theorem arithNil_holds : Rows.ArithNilCardSaid :=
 Claim7.holds_tied_plain_at .later [] Rows.arithNilCard.laidKinds true Rows.arithNilCard.stood.harness Rows.arithNilCard.stood.looks
  arithNil_said (fun _ h => by cases h) (by kernel_rfl) (fun _ h => by cases h) arithNil_row_tie rfl ⟨rfl, rfl⟩ (by kernel_rfl) rfl
  (fun f fn hf hfn => by
   obtain rfl : f = 7 := Option.some.inj ((show Tryz.prog.funcNamed "pidgin/pidginlaw4.ArithNil" = some 7 by kernel_rfl).symm.trans hf) |>.symm
   obtain rfl : fn = Tryz.f7 := (Option.some.inj (Tryz.func7.symm.trans hfn)).symm
   exact ⟨by kernel_rfl, fun j t ht => by
    rw [Tryz.params7] at ht
    have hm : t ∈ [] := by simpa using Array.mem_of_getElem? ht
    have hall : ([].all fun u => !Tryz.prog.wantsStandIn u) = true := by kernel_rfl
    exact (show Tryz.prog.wantsStandIn t = false by simpa using List.all_eq_true.1 hall t hm)⟩)
  (by kernel_rfl)
#print axioms arithNil_holds
end Go.Proofs.YtkakhfkkeoceiaaGreatDoor
