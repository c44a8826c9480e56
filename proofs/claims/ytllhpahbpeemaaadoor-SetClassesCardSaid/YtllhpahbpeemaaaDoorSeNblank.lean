/- The contract of named at blank (gen_named.py). -/
import Derived.Test.YtllhpahbpeemaaaDoorSeNam
namespace Go.Proofs.YtllhpahbpeemaaaDoor
open Go.RowKit

/-- The class blank. -/
def cls_blank (c : Nat) : Bool := mem [32, 9] c
set_option maxRecDepth 100000 in
set_option maxHeartbeats 8000000 in
theorem named_blank (w : World) :
    Calls Tryd.prog 38 #[.string ⟨#[98, 108, 97, 110, 107]⟩] w fun e w' => e = .returned (SV cls_blank) ∧ Below w.heap.size w w' := by
  have HX0 : ∀ w, Hid (Calls Tryd.prog 13 #[.string ⟨#[32, 9]⟩] w fun e w' => e = .returned (SV (mem [32, 9])) ∧ Below w.heap.size w w') := fun w => Lib.hid (of_any ⟨#[32, 9]⟩ w (by decide))
  go_enter Tryd.func38, Tryd.ntmps38
  go_wp2_with fail
  have HN0 : Hid (NS w _ noP) := Lib.hid (NS.start w)
  obtain ⟨V, hV⟩ : ∃ V, V = (w.alloc (.cells #[.int .u64 0, .int .u64 0, .int .u64 0, .int .u64 0] 24)).alloc (.cells #[.int .u64 0, .int .u64 0, .int .u64 0, .int .u64 0] 24) := ⟨_, rfl⟩
  rw [← hV] at HN0 ⊢
  clear hV
  obtain ⟨⟨r0, r1, r2, r3⟩, ⟨f0, f1, f2, f3⟩, ⟨c0, c1, c2, c3, g0, g1, g2, g3, z0⟩, z1⟩ := HN0.out.facts
  go_region_with (first
    | (go_at_call 13; refine (HX0 _).out.mono ?_; rintro e w01 ⟨rfl, hbw01⟩; have HNw01 := Lib.hid (HN0.out.drew.next hbw01); obtain ⟨⟨w01_r0, w01_r1, w01_r2, w01_r3⟩, ⟨w01_f0, w01_f1, w01_f2, w01_f3⟩, ⟨w01_c0, w01_c1, w01_c2, w01_c3, w01_g0, w01_g1, w01_g2, w01_g3, w01_z0⟩, w01_z1⟩ := HNw01.out.facts; unfold SV)
    | (go_at_call 18; refine (unionL _ noP (mem [32, 9]) _).mono ?_; rintro e w02 ⟨rfl, hbw02⟩; have HNw02 := Lib.hid (HNw01.out.next hbw02); obtain ⟨⟨w02_r0, w02_r1, w02_r2, w02_r3⟩, ⟨w02_f0, w02_f1, w02_f2, w02_f3⟩, ⟨w02_c0, w02_c1, w02_c2, w02_c3, w02_g0, w02_g1, w02_g2, w02_g3, w02_z0⟩, w02_z1⟩ := HNw02.out.facts; unfold SV))
  all_goals
    go_wp2
    exact bodyPost_ret (by simp [results, Tryd.results38, go_sem, w02_c0, w02_c1, w02_c2, w02_c3]; rfl) rfl ⟨by first | rfl | exact congrArg Ending.returned (SV_congr fun c _ => by simp [cls_blank, orP, lessP, noP]), res_below HNw02.out.1 _ _ _ _⟩
end Go.Proofs.YtllhpahbpeemaaaDoor
