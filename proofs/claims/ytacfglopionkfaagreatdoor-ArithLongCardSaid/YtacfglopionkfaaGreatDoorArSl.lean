/- Slices of bytes that are the call's own; sources of appends. -/
import Derived.Test.YtacfglopionkfaaGreatDoorArUse
import Derived.Laws.AppendOwnNone
namespace Go.Proofs.YtacfglopionkfaaGreatDoor
open Go.RowKit

theorem slOwned {w : World} {base : Nat} {e : TypeId} {v : Value} {n : Nat} {L : List Int} (h : w.ownsRow base e 1 v n (L.map (Value.int .u8))) (hy : Byt L) (hl : L.length ≤ 9223372036854775807) : Sl w v L := by
  obtain ⟨h1, ⟨rfl, rfl⟩ | ⟨g, cap, cur, rfl, _, hb, hc, hm, hs, ht⟩⟩ := h
  · have : L = [] := List.length_eq_zero_iff.1 (by simpa using h1)
    exact ⟨hy, hl, Or.inl ⟨this, none, 0, rfl⟩⟩
  · have hn : L.length = n := by simpa using h1
    refine ⟨hy, hl, Or.inr ⟨g, 0, cap, by rw [hn], by omega, by unfold maxLen at hm; omega, fun i hi => ?_⟩⟩
    rw [Nat.zero_add]
    have e1 : w.cell? ⟨g, i, none⟩ = cur[i]? := by simp [World.cell?, hb]
    have e2 : (cur.toList.take (n * 1))[i]? = (L.map (Value.int .u8))[i]? := by rw [ht]
    rw [List.getElem?_take, if_pos (by omega)] at e2
    rw [e1, ← Array.getElem?_toList, e2]
    simp [List.getD, List.getElem?_eq_getElem hi]
end Go.Proofs.YtacfglopionkfaaGreatDoor
