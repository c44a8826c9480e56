/- KMk: several texts in one (kmerge.py). -/
import Derived.Test.YtcceiblmdjbhjaaGreatDoorSeMor
import Derived.Test.YtcceiblmdjbhjaaGreatDoorSeByt
import Derived.Test.YtcceiblmdjbhjaaGreatDoorScOpen
import Derived.Lib.LaidTab
import Derived.LaidMore
import Derived.Stop.LaidErr
import Derived.ChangeMaps5
import Derived.Test.YtcceiblmdjbhjaaGreatDoorKSet
import Derived.BigRegion
import Derived.Test.YtcceiblmdjbhjaaGreatDoorKRdr
/- The reference's Has, Bytes; is a byte in a text. -/
namespace Go.Proofs.YtcceiblmdjbhjaaGreatDoor
open Go.RowKit

theorem owns_belowS {w w' : World} {B : Nat} {e : TypeId} {k : Nat} {v : Value} {n : Nat} {xs : List Value} (h : w.ownsRow B e k v n xs) (hb : Below w.heap.size w w') : w'.ownsRow B e k v n xs := by
  obtain ⟨h1, h2 | ⟨g, cap, cur, rfl, h3, h4, h5⟩⟩ := h
  · exact ⟨h1, .inl h2⟩
  · have hlt : g < w.heap.size := by
      rcases Nat.lt_or_ge g w.heap.size with h' | h'
      · exact h'
      · rw [Array.getElem?_eq_none h'] at h4; cases h4
    exact ⟨h1, .inr ⟨g, cap, cur, rfl, h3, by rw [hb.block g hlt]; exact h4, h5⟩⟩
end Go.Proofs.YtcceiblmdjbhjaaGreatDoor
/- className: the bytes up to the next :]. -/
namespace Go.Proofs.YtcceiblmdjbhjaaGreatDoor
open Go.RowKit

/-- Where the next :] begins, from place k on. -/
def cnE (s : ByteArray) : Nat → Nat → Option Nat
  | 0, _ => none
  | n + 1, k => if atB s k = 58 ∧ atB s (k + 1) = 93 then some k else cnE s n (k + 1)
theorem atB_out {s : ByteArray} {k : Nat} (h : s.size ≤ k) : atB s k = 0 := by
  unfold atB
  rw [List.getD, List.getElem?_eq_none (by rw [bys_length]; exact h)]
  rfl
theorem atB_in {s : ByteArray} {k : Nat} (h : atB s k ≠ 0) : k < s.size := by
  rcases Nat.lt_or_ge k s.size with h' | h'
  · exact h'
  · exact absurd (atB_out h') h
end Go.Proofs.YtcceiblmdjbhjaaGreatDoor
