/- The contract of named at cntrl (gen_named.py). -/
import Derived.Test.YtllhpahbpeemaaaDoorSeNam
namespace Go.Proofs.YtllhpahbpeemaaaDoor
open Go.RowKit

/-- The class cntrl. -/
def cls_cntrl (c : Nat) : Bool := rng 0 31 c || mem [127] c
set_option maxRecDepth 100000 in
set_option maxHeartbeats 8000000 in
theorem named_cntrl (w : World) :
    Calls Tryd.prog 38 #[.string ⟨#[99, 110, 116, 114, 108]⟩] w fun e w' => e = .returned (SV cls_cntrl) ∧ Below w.heap.size w w' := by
  have HX0 : ∀ w, Hid (Calls Tryd.prog 14 #[.int .u8 0, .int .u8 31] w fun e w' => e = .returned (SV (rng 0 31)) ∧ Below w.heap.size w w') := fun w => Lib.hid (range_any 0 31 (by omega) (by omega) w)
  have HX1 : ∀ w, Hid (Calls Tryd.prog 13 #[.string ⟨#[127]⟩] w fun e w' => e = .returned (SV (mem [127])) ∧ Below w.heap.size w w') := fun w => Lib.hid (of_any ⟨#[127]⟩ w (by decide))
  go_enter Tryd.func38, Tryd.ntmps38
  go_wp2_with fail
  have HN0 : Hid (NS w _ noP) := Lib.hid (NS.start w)
  obtain ⟨V, hV⟩ : ∃ V, V = (w.alloc (.cells #[.int .u64 0, .int .u64 0, .int .u64 0, .int .u64 0] 24)).alloc (.cells #[.int .u64 0, .int .u64 0, .int .u64 0, .int .u64 0] 24) := ⟨_, rfl⟩
  rw [← hV] at HN0 ⊢
  clear hV
  obtain ⟨⟨r0, r1, r2, r3⟩, ⟨f0, f1, f2, f3⟩, ⟨c0, c1, c2, c3, g0, g1, g2, g3, z0⟩, z1⟩ := HN0.out.facts
  refine (HX0 _).out.mono ?_
  rintro e w01 ⟨rfl, hbw01⟩
  have HNw01 := Lib.hid (HN0.out.next hbw01)
  clear hbw01
  go_wp2_with fail
  refine (HX1 _).out.mono ?_
  rintro e w02 ⟨rfl, hbw02⟩
  have HNw02 := Lib.hid (HNw01.out.next hbw02)
  clear hbw02
  unfold SV
  go_wp2_with fail
  refine (unionL _ (rng 0 31) (mem [127]) _).mono ?_
  rintro e w03 ⟨rfl, hbw03⟩
  have HNw03 := Lib.hid (HNw02.out.next hbw03)
  clear hbw03
  obtain ⟨⟨w03_r0, w03_r1, w03_r2, w03_r3⟩, ⟨w03_f0, w03_f1, w03_f2, w03_f3⟩, ⟨w03_c0, w03_c1, w03_c2, w03_c3, w03_g0, w03_g1, w03_g2, w03_g3, w03_z0⟩, w03_z1⟩ := HNw03.out.facts
  unfold SV
  go_wp2
  exact bodyPost_ret (by simp [results, Tryd.results38, go_sem, w03_c0, w03_c1, w03_c2, w03_c3]; rfl) rfl ⟨by first | rfl | exact congrArg Ending.returned (SV_congr fun c _ => by simp [cls_cntrl, orP, lessP, noP]), res_below HNw03.out.1 _ _ _ _⟩
end Go.Proofs.YtllhpahbpeemaaaDoor
