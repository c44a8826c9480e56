/- KRdr: several texts in one (kmerge.py). -/
import Derived.Test.YtcceiblmdjbhjaaGreatDoorKCu
import Derived.Test.YtcceiblmdjbhjaaGreatDoorKSet
import Derived.Deep.QuietTactic
/- The reader of brackets: its state; place, takeDash; a byte as an item. -/
namespace Go.Proofs.YtcceiblmdjbhjaaGreatDoor
open Go.RowKit

theorem Mv.below {w w' : World} {b k : Nat} {s : ByteArray} (h : Cur w b s k) (hb : Below w.heap.size w w') : Mv b s k w w' := by
  have hl := h.facts.2.2.2.2
  exact ⟨hb.mono (Nat.le_of_lt hl), ⟨(hb.block b hl).trans h.1, h.2⟩, fun i hi _ => hb.block i hi⟩

/-- How the bytes read at a place. -/
theorem begL (s t : ByteArray) (k : Nat) : begB (s.extract k s.size) t = decide (t.size ≤ ((bys s).drop k).length ∧ ((bys s).drop k).take t.size = bys t) := by
  unfold begB
  rw [Bool.eq_iff_iff]
  simp only [decide_eq_true_eq, List.length_drop, bys_length, ByteArray.size_extract, Nat.min_self]
  have e : bys ((s.extract k s.size).extract 0 t.size) = ((bys s).drop k).take t.size := by
    rw [bys_extract, bys_extract, List.drop_zero, Nat.sub_zero, List.take_take]
    by_cases h : t.size ≤ s.size - k
    · rw [Nat.min_eq_left h]
    · rw [Nat.min_eq_right (by omega), List.take_of_length_le (by rw [List.length_drop, bys_length]; omega), List.take_of_length_le (by rw [List.length_drop, bys_length]; omega)]
  constructor
  · rintro ⟨h1, h2⟩; exact ⟨h1, by rw [← e, h2]⟩
  · rintro ⟨h1, h2⟩; exact ⟨h1, bys_inj (by rw [e, h2])⟩
end Go.Proofs.YtcceiblmdjbhjaaGreatDoor
/- A byte as an item; a part of one byte, and of a range. -/
namespace Go.Proofs.YtcceiblmdjbhjaaGreatDoor
open Go.RowKit

theorem alloc_last (w : World) (o : Obj) : (w.alloc o).heap[w.heap.size]? = some o := by
  show (w.heap.push _)[w.heap.size]? = _
  simp
end Go.Proofs.YtcceiblmdjbhjaaGreatDoor
