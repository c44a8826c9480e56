/- Slices of bytes that are the call's own; sources of appends. -/
import Derived.Test.YtlmoeldillpamaaDoorArUse
import Derived.Laws.AppendOwnNone
namespace Go.Proofs.YtlmoeldillpamaaDoor
open Go.RowKit

theorem one_cellsA (L : List Int) : ∀ u ∈ L.map (Value.int .u8), u.oneCell' = true := by
  intro u hu
  obtain ⟨n, _, rfl⟩ := List.mem_map.1 hu
  rfl
/-- What a slice of bytes hands to an append. -/
theorem news_of {w : World} {a : Addr} {n cap : Nat} {L : List Int} (h : Sl w (.slice (some a) n cap) L) : L.length = n ∧ ∀ j u, (L.map (Value.int .u8))[j]? = some u → w.cell? (a.add j) = some u := by
  obtain ⟨_, _, ⟨rfl, a', c', he⟩ | ⟨b, o, cap', he, _, _, hr⟩⟩ := h
  · simp only [Value.slice.injEq] at he
    exact ⟨he.2.1.symm, fun j u hj => by simp at hj⟩
  · simp only [Value.slice.injEq, Option.some.injEq] at he
    obtain ⟨rfl, rfl, rfl⟩ := he
    refine ⟨rfl, fun j u hj => ?_⟩
    have hlt : j < L.length := by
      have := (List.getElem?_eq_some_iff.1 hj).1
      simpa using this
    rw [WideShapes.add_plain, hr j hlt]
    rw [List.getElem?_map, List.getElem?_eq_getElem hlt] at hj
    simp only [Option.map_some, Option.some.injEq] at hj
    rw [← hj, List.getD, List.getElem?_eq_getElem hlt]
    rfl
theorem slOwned {w : World} {base : Nat} {e : TypeId} {v : Value} {n : Nat} {L : List Int} (h : w.ownsRow base e 1 v n (L.map (Value.int .u8))) (hy : Byt L) (hl : L.length ≤ 9223372036854775807) : Sl w v L := by
  obtain ⟨h1, ⟨rfl, rfl⟩ | ⟨g, cap, cur, rfl, _, hb, hc, hm, hs, ht⟩⟩ := h
  · have : L = [] := List.length_eq_zero_iff.1 (by simpa using h1)
    exact ⟨hy, hl, Or.inl ⟨this, none, 0, rfl⟩⟩
  · have hn : L.length = n := by simpa using h1
    refine ⟨hy, hl, Or.inr ⟨g, 0, cap, by rw [hn], by omega, by unfold maxLen at hm; omega, fun i hi => ?_⟩⟩
    rw [Nat.zero_add]
    have e1 : w.cell? ⟨g, i, none⟩ = cur[i]? := by simp [World.cell?, hb]
    have e2 : (cur.toList.take (n * 1))[i]? = (L.map (Value.int .u8))[i]? := by rw [ht]
    rw [List.getElem?_take, if_pos (by omega)] at e2
    rw [e1, ← Array.getElem?_toList, e2]
    simp [List.getD, List.getElem?_eq_getElem hi]
/-- Appending to the call's own leaves all that lay there before. -/
theorem below_app {w w1 w2 : World} {v : Value} {n : Nat} {xs : List Value} {e : TypeId} (h : Below w.heap.size w w1) (hown : w1.ownsRow w.heap.size e 1 v n xs) (hg : w1.grownBy w2 v.ownBlock) : Below w.heap.size w w2 :=
  h.grown hg h.size (fun j hj => (hown.lt j hj).1)
end Go.Proofs.YtlmoeldillpamaaDoor
