/- The contract of stage 2's awake. -/
import Derived.Test.YtopnckfmdjhbjaaDoorScDigits
import Derived.Lib.SlBytesConst
import Derived.Deep.RegionWith
import Derived.Deep.RegionHeld3
import Derived.Below
namespace Go.Proofs.YtopnckfmdjhbjaaDoor
open Go.RowKit

theorem awake_sl (w : World) (z : Nat × Nat) : Sl (w.alloc (.cells #[.int .u8 48, .int .u8 120, .int .u8 49, .int .u8 70, .int .u8 103] 5 z)) (.slice (some ⟨w.heap.size, 0, none⟩) 5 5) [48, 120, 49, 70, 103] := by
  refine ⟨?_, by simp, Or.inr ⟨w.heap.size, 0, 5, rfl, by simp, by simp, ?_⟩⟩
  · intro i
    match i with
    | 0 => simp
    | 1 => simp
    | 2 => simp
    | 3 => simp
    | 4 => simp
    | n + 5 => simp
  · intro i hi
    simp only [List.length_cons, List.length_nil] at hi
    match i, hi with
    | 0, _ => rw [World.cell?_alloc_mark]; rfl
    | 1, _ => rw [World.cell?_alloc_mark]; rfl
    | 2, _ => rw [World.cell?_alloc_mark]; rfl
    | 3, _ => rw [World.cell?_alloc_mark]; rfl
    | 4, _ => rw [World.cell?_alloc_mark]; rfl

end Go.Proofs.YtopnckfmdjhbjaaDoor
