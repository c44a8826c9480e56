/- Slices that came in, by their bulk (the Upto form). -/
import Derived.Test.YthmgcebonplcgaaGreatDoorScOpen
import Derived.Test.YthmgcebonplcgaaGreatDoorRows
namespace Go.Proofs.YthmgcebonplcgaaGreatDoor
open Go.RowKit

set_option maxRecDepth 100000 in
/-- A nil slice that came in has no length and no capacity. -/
theorem sl_nil2 {H : Type} {enc : TypeId × Value → H} {W : World} {base : Nat} {v : Value} {d : DataW H} {ps : List MemPlace}
    (hk : Value.okWide Tryz.prog W .any base 22 v) (h : DataW.Trod enc Tryz.prog W 0 (fun _ => true) true 22 v d ps) (n cap : Nat) (e : v = .slice none n cap) : n = 0 ∧ cap = 0 := by
  subst e
  obtain ⟨fuel, hf⟩ := h
  rcases ChangeShapes.open_ints Tryz.underlying22 Tryz.underlying5 (by kernel_rfl) hf with ⟨hcs, _⟩ | ⟨a, len', cap', zs, hcs, _⟩
  · simp [Value.cells] at hcs
    exact hcs
  · simp [Value.cells] at hcs

end Go.Proofs.YthmgcebonplcgaaGreatDoor
