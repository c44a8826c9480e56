/- The contract of named at xdigit (gen_named.py). -/
import Derived.Test.YtllhpahbpeemaaaDoorSeNam
namespace Go.Proofs.YtllhpahbpeemaaaDoor
open Go.RowKit

/-- The class xdigit. -/
def cls_xdigit (c : Nat) : Bool := (rng 97 102 c || rng 65 70 c) || rng 48 57 c
set_option maxRecDepth 100000 in
set_option maxHeartbeats 8000000 in
theorem named_xdigit (w : World) :
    Calls Tryd.prog 38 #[.string ⟨#[120, 100, 105, 103, 105, 116]⟩] w fun e w' => e = .returned (SV cls_xdigit) ∧ Below w.heap.size w w' := by
  have HX0 : ∀ w, Hid (Calls Tryd.prog 14 #[.int .u8 97, .int .u8 102] w fun e w' => e = .returned (SV (rng 97 102)) ∧ Below w.heap.size w w') := fun w => Lib.hid (range_any 97 102 (by omega) (by omega) w)
  have HX1 : ∀ w, Hid (Calls Tryd.prog 14 #[.int .u8 65, .int .u8 70] w fun e w' => e = .returned (SV (rng 65 70)) ∧ Below w.heap.size w w') := fun w => Lib.hid (range_any 65 70 (by omega) (by omega) w)
  have HX2 : ∀ w, Hid (Calls Tryd.prog 14 #[.int .u8 48, .int .u8 57] w fun e w' => e = .returned (SV (rng 48 57)) ∧ Below w.heap.size w w') := fun w => Lib.hid (range_any 48 57 (by omega) (by omega) w)
  go_enter Tryd.func38, Tryd.ntmps38
  go_wp2_with fail
  have HN0 : Hid (NS w _ noP) := Lib.hid (NS.start w)
  obtain ⟨V, hV⟩ : ∃ V, V = (w.alloc (.cells #[.int .u64 0, .int .u64 0, .int .u64 0, .int .u64 0] 24)).alloc (.cells #[.int .u64 0, .int .u64 0, .int .u64 0, .int .u64 0] 24) := ⟨_, rfl⟩
  rw [← hV] at HN0 ⊢
  clear hV
  obtain ⟨⟨r0, r1, r2, r3⟩, ⟨f0, f1, f2, f3⟩, ⟨c0, c1, c2, c3, g0, g1, g2, g3, z0⟩, z1⟩ := HN0.out.facts
  refine (HX0 _).out.mono ?_
  rintro e w01 ⟨rfl, hbw01⟩
  have HNw01 := Lib.hid (HN0.out.next hbw01)
  clear hbw01
  go_wp2_with fail
  refine (HX1 _).out.mono ?_
  rintro e w02 ⟨rfl, hbw02⟩
  have HNw02 := Lib.hid (HNw01.out.next hbw02)
  clear hbw02
  unfold SV
  go_wp2_with fail
  refine (unionL _ (rng 97 102) (rng 65 70) _).mono ?_
  rintro e w03 ⟨rfl, hbw03⟩
  have HNw03 := Lib.hid (HNw02.out.next hbw03)
  clear hbw03
  obtain ⟨⟨w03_r0, w03_r1, w03_r2, w03_r3⟩, ⟨w03_f0, w03_f1, w03_f2, w03_f3⟩, ⟨w03_c0, w03_c1, w03_c2, w03_c3, w03_g0, w03_g1, w03_g2, w03_g3, w03_z0⟩, w03_z1⟩ := HNw03.out.facts
  unfold SV
  go_wp2
  obtain ⟨V0, hV0⟩ : ∃ V, V = (((w03.setCell ⟨w.heap.size + 1, 0, none⟩ (.int .u64 (sw (orP (rng 97 102) (rng 65 70)) 0 : Nat))).setCell ⟨w.heap.size + 1, 1, none⟩ (.int .u64 (sw (orP (rng 97 102) (rng 65 70)) 1 : Nat))).setCell ⟨w.heap.size + 1, 2, none⟩ (.int .u64 (sw (orP (rng 97 102) (rng 65 70)) 2 : Nat))).setCell ⟨w.heap.size + 1, 3, none⟩ (.int .u64 (sw (orP (rng 97 102) (rng 65 70)) 3 : Nat)) := ⟨_, rfl⟩
  have HM0 := Lib.hid (HNw03.out.put (orP (rng 97 102) (rng 65 70)))
  rw [← hV0] at HM0
  rw [← hV0]
  clear hV0
  obtain ⟨⟨v0_r0, v0_r1, v0_r2, v0_r3⟩, ⟨v0_f0, v0_f1, v0_f2, v0_f3⟩, ⟨v0_c0, v0_c1, v0_c2, v0_c3, v0_g0, v0_g1, v0_g2, v0_g3, v0_z0⟩, v0_z1⟩ := HM0.out.facts
  go_region_with (first
    | (go_at_call 14; refine (HX2 _).out.mono ?_; rintro e w11 ⟨rfl, hbw11⟩; have HNw11 := Lib.hid (HM0.out.drew.next hbw11); obtain ⟨⟨w11_r0, w11_r1, w11_r2, w11_r3⟩, ⟨w11_f0, w11_f1, w11_f2, w11_f3⟩, ⟨w11_c0, w11_c1, w11_c2, w11_c3, w11_g0, w11_g1, w11_g2, w11_g3, w11_z0⟩, w11_z1⟩ := HNw11.out.facts; unfold SV)
    | (go_at_call 18; refine (unionL _ (orP (rng 97 102) (rng 65 70)) (rng 48 57) _).mono ?_; rintro e w12 ⟨rfl, hbw12⟩; have HNw12 := Lib.hid (HNw11.out.next hbw12); obtain ⟨⟨w12_r0, w12_r1, w12_r2, w12_r3⟩, ⟨w12_f0, w12_f1, w12_f2, w12_f3⟩, ⟨w12_c0, w12_c1, w12_c2, w12_c3, w12_g0, w12_g1, w12_g2, w12_g3, w12_z0⟩, w12_z1⟩ := HNw12.out.facts; unfold SV))
  all_goals
    go_wp2
    exact bodyPost_ret (by simp [results, Tryd.results38, go_sem, w12_c0, w12_c1, w12_c2, w12_c3]; rfl) rfl ⟨by first | rfl | exact congrArg Ending.returned (SV_congr fun c _ => by simp [cls_xdigit, orP, lessP, noP]), res_below HNw12.out.1 _ _ _ _⟩
end Go.Proofs.YtllhpahbpeemaaaDoor
