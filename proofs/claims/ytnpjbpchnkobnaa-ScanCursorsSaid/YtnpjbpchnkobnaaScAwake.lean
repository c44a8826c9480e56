/- The contract of stage 2's awake. -/
import Derived.Test.YtnpjbpchnkobnaaScDigits
import Derived.Lib.SlBytesConst
import Derived.Deep.RegionWith
import Derived.Deep.RegionHeld3
import Derived.Below
namespace Go.Proofs.Ytnpjbpchnkobnaa
open Go.RowKit

theorem awake_sl (w : World) (z : Nat × Nat) : Sl (w.alloc (.cells #[.int .u8 48, .int .u8 120, .int .u8 49, .int .u8 70, .int .u8 103] 5 z)) (.slice (some ⟨w.heap.size, 0, none⟩) 5 5) [48, 120, 49, 70, 103] := by
  refine ⟨?_, by simp, Or.inr ⟨w.heap.size, 0, 5, rfl, by simp, by simp, ?_⟩⟩
  · intro i
    match i with
    | 0 => simp
    | 1 => simp
    | 2 => simp
    | 3 => simp
    | 4 => simp
    | n + 5 => simp
  · intro i hi
    simp only [List.length_cons, List.length_nil] at hi
    match i, hi with
    | 0, _ => rw [World.cell?_alloc_mark]; rfl
    | 1, _ => rw [World.cell?_alloc_mark]; rfl
    | 2, _ => rw [World.cell?_alloc_mark]; rfl
    | 3, _ => rw [World.cell?_alloc_mark]; rfl
    | 4, _ => rw [World.cell?_alloc_mark]; rfl

set_option maxHeartbeats 4000000 in
theorem awake_any (w : World) :
    Calls Try.prog 20 #[] w fun e w' => e = .returned (.bool true) ∧ Below w.heap.size w w' := by
  have kc := fun (w : World) (C : Array Value) (n c : Nat) => Lib.run_convert_bytes_const (P := Try.prog) w 22 5 C n c Try.underlying22 Try.underlying5
  have HC := Lib.hid (const_any _ _ _ (awake_sl w (5, 6)))
  have e1 : cV [48, 120, 49, 70, 103] = 31 := by decide
  have e2 : cN [48, 120, 49, 70, 103] = 4 := by decide
  have e3 : cO [48, 120, 49, 70, 103] = false := by decide
  rw [e1, e2, e3] at HC
  clear e1 e2 e3
  go_enter Try.func20, Try.ntmps20
  go_wp2_with fail
  refine HC.out.mono ?_
  rintro e w' ⟨rfl, rfl⟩
  go_wp2
  go_ret
  exact ⟨rfl, (Below.refl _ _).alloc (Nat.le_refl _) _⟩
end Go.Proofs.Ytnpjbpchnkobnaa
