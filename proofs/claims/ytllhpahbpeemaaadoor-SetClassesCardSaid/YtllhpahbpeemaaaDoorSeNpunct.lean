/- The contract of named at punct (gen_named.py). -/
import Derived.Test.YtllhpahbpeemaaaDoorSeNgraph
import Derived.Test.YtllhpahbpeemaaaDoorSeNalnum
namespace Go.Proofs.YtllhpahbpeemaaaDoor
open Go.RowKit

/-- The class punct. -/
def cls_punct (c : Nat) : Bool := cls_graph c && !cls_alnum c
set_option maxRecDepth 100000 in
set_option maxHeartbeats 8000000 in
theorem named_punct (w : World) :
    Calls Tryd.prog 38 #[.string ⟨#[112, 117, 110, 99, 116]⟩] w fun e w' => e = .returned (SV cls_punct) ∧ Below w.heap.size w w' := by
  have HX0 : ∀ w, Hid (Calls Tryd.prog 38 #[.string ⟨#[103, 114, 97, 112, 104]⟩] w fun e w' => e = .returned (SV cls_graph) ∧ Below w.heap.size w w') := fun w => Lib.hid (named_graph w)
  have HX1 : ∀ w, Hid (Calls Tryd.prog 38 #[.string ⟨#[97, 108, 110, 117, 109]⟩] w fun e w' => e = .returned (SV cls_alnum) ∧ Below w.heap.size w w') := fun w => Lib.hid (named_alnum w)
  go_enter Tryd.func38, Tryd.ntmps38
  go_wp2_with fail
  have HN0 : Hid (NS w _ noP) := Lib.hid (NS.start w)
  obtain ⟨V, hV⟩ : ∃ V, V = (w.alloc (.cells #[.int .u64 0, .int .u64 0, .int .u64 0, .int .u64 0] 24)).alloc (.cells #[.int .u64 0, .int .u64 0, .int .u64 0, .int .u64 0] 24) := ⟨_, rfl⟩
  rw [← hV] at HN0 ⊢
  clear hV
  obtain ⟨⟨r0, r1, r2, r3⟩, ⟨f0, f1, f2, f3⟩, ⟨c0, c1, c2, c3, g0, g1, g2, g3, z0⟩, z1⟩ := HN0.out.facts
  refine (HX0 _).out.mono ?_
  rintro e w01 ⟨rfl, hbw01⟩
  have HNw01 := Lib.hid (HN0.out.next hbw01)
  clear hbw01
  go_wp2_with fail
  refine (HX1 _).out.mono ?_
  rintro e w02 ⟨rfl, hbw02⟩
  have HNw02 := Lib.hid (HNw01.out.next hbw02)
  clear hbw02
  go_wp2_with fail
  refine (show Calls Tryd.prog 34 #[SV cls_graph, SV cls_alnum] w02 fun e w' => e = .returned (SV (lessP cls_graph cls_alnum)) ∧ Below w02.heap.size w02 w' from without_any cls_graph cls_alnum _).mono ?_
  rintro e w03 ⟨rfl, hbw03⟩
  have HNw03 := Lib.hid (HNw02.out.next hbw03)
  clear hbw03
  obtain ⟨⟨w03_r0, w03_r1, w03_r2, w03_r3⟩, ⟨w03_f0, w03_f1, w03_f2, w03_f3⟩, ⟨w03_c0, w03_c1, w03_c2, w03_c3, w03_g0, w03_g1, w03_g2, w03_g3, w03_z0⟩, w03_z1⟩ := HNw03.out.facts
  unfold SV
  go_wp2
  exact bodyPost_ret (by simp [results, Tryd.results38, go_sem, w03_c0, w03_c1, w03_c2, w03_c3]; rfl) rfl ⟨by first | rfl | exact congrArg Ending.returned (SV_congr fun c _ => by simp [cls_punct, orP, lessP, noP]), res_below HNw03.out.1 _ _ _ _⟩
end Go.Proofs.YtllhpahbpeemaaaDoor
