/- The contract of named at upper (gen_named.py). -/
import Derived.Test.YtllhpahbpeemaaaDoorSeNam
namespace Go.Proofs.YtllhpahbpeemaaaDoor
open Go.RowKit

/-- The class upper. -/
def cls_upper (c : Nat) : Bool := rng 65 90 c
set_option maxRecDepth 100000 in
set_option maxHeartbeats 8000000 in
theorem named_upper (w : World) :
    Calls Tryd.prog 38 #[.string ⟨#[117, 112, 112, 101, 114]⟩] w fun e w' => e = .returned (SV cls_upper) ∧ Below w.heap.size w w' := by
  have HX0 : ∀ w, Hid (Calls Tryd.prog 14 #[.int .u8 65, .int .u8 90] w fun e w' => e = .returned (SV (rng 65 90)) ∧ Below w.heap.size w w') := fun w => Lib.hid (range_any 65 90 (by omega) (by omega) w)
  go_enter Tryd.func38, Tryd.ntmps38
  go_wp2_with fail
  have HN0 : Hid (NS w _ noP) := Lib.hid (NS.start w)
  obtain ⟨V, hV⟩ : ∃ V, V = (w.alloc (.cells #[.int .u64 0, .int .u64 0, .int .u64 0, .int .u64 0] 24)).alloc (.cells #[.int .u64 0, .int .u64 0, .int .u64 0, .int .u64 0] 24) := ⟨_, rfl⟩
  rw [← hV] at HN0 ⊢
  clear hV
  obtain ⟨⟨r0, r1, r2, r3⟩, ⟨f0, f1, f2, f3⟩, ⟨c0, c1, c2, c3, g0, g1, g2, g3, z0⟩, z1⟩ := HN0.out.facts
  refine (HX0 _).out.mono ?_
  rintro e w01 ⟨rfl, hbw01⟩
  have HNw01 := Lib.hid (HN0.out.next hbw01)
  clear hbw01
  obtain ⟨⟨w01_r0, w01_r1, w01_r2, w01_r3⟩, ⟨w01_f0, w01_f1, w01_f2, w01_f3⟩, ⟨w01_c0, w01_c1, w01_c2, w01_c3, w01_g0, w01_g1, w01_g2, w01_g3, w01_z0⟩, w01_z1⟩ := HNw01.out.facts
  unfold SV
  go_wp2
  exact bodyPost_ret (by simp [results, Tryd.results38, go_sem, w01_c0, w01_c1, w01_c2, w01_c3]; rfl) rfl ⟨by first | rfl | exact congrArg Ending.returned (SV_congr fun c _ => by simp [cls_upper, orP, lessP, noP]), res_below HNw01.out.1 _ _ _ _⟩
end Go.Proofs.YtllhpahbpeemaaaDoor
