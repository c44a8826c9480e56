/- A set's cells, kept. -/
import Derived.Test.YtllhpahbpeemaaaDoorSeRc
namespace Go.Proofs.YtllhpahbpeemaaaDoor
open Go.RowKit

theorem row4_bel {w w' : World} {b : Nat} {p : Nat → Bool} (h : Row4 w b 0 p) (hb : Below w.heap.size w w') (hz : b < w.heap.size) : Row4 w' b 0 p := by
  have k : ∀ o, w'.cell? ⟨b, o, none⟩ = w.cell? ⟨b, o, none⟩ := fun o => hb.cell (p := ⟨b, o, none⟩) hz
  exact ⟨(k _).trans h.1, (k _).trans h.2.1, (k _).trans h.2.2.1, (k _).trans h.2.2.2⟩
theorem row4_far {w : World} {b g : Nat} {p : Nat → Bool} {v0 v1 v2 v3 : Value} (h : Row4 w b 0 p) (_hg : g ≠ b) :
    Row4 ((((w.setCell ⟨g, 0, none⟩ v0).setCell ⟨g, 1, none⟩ v1).setCell ⟨g, 2, none⟩ v2).setCell ⟨g, 3, none⟩ v3) b 0 p := by
  have k : ∀ (W : World) (i : Nat) (v : Value) (o : Nat), (W.setCell ⟨g, i, none⟩ v).cell? ⟨b, o, none⟩ = W.cell? ⟨b, o, none⟩ := fun W i v o => World.cell?_setCell_other _ _ _ _ (by simp)
  exact ⟨by rw [k, k, k, k]; exact h.1, by rw [k, k, k, k]; exact h.2.1, by rw [k, k, k, k]; exact h.2.2.1, by rw [k, k, k, k]; exact h.2.2.2⟩
end Go.Proofs.YtllhpahbpeemaaaDoor
