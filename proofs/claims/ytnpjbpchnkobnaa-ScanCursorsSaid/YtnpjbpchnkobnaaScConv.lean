/- '[]byte(s)' and 'string(b)', said plainly; the bytes of a part of a string. -/
import Derived.Test.YtnpjbpchnkobnaaScDigits
import Derived.Laws.IdiomStrings
import Derived.Below
namespace Go.Proofs.Ytnpjbpchnkobnaa
open Go.RowKit

theorem Row.below {w w' : World} {b o : Nat} {l : List Int} (h : Row w b o l) (hb : Below w.heap.size w w') : Row w' b o l := fun i hi => by
  have hc := h i hi
  have hlt : b < w.heap.size := by
    rcases Nat.lt_or_ge b w.heap.size with h' | h'
    · exact h'
    · simp [World.cell?, Array.getElem?_eq_none h'] at hc
  rw [hb.cell (p := ⟨b, o + i, none⟩) hlt]
  exact hc

theorem Sl.below {w w' : World} {v : Value} {l : List Int} (h : Sl w v l) (hb : Below w.heap.size w w') : Sl w' v l := by
  obtain ⟨hy, hl, ⟨rfl, a, cap, rfl⟩ | ⟨b, o, cap, rfl, hcl, hcm, hr⟩⟩ := h
  · exact ⟨hy, hl, Or.inl ⟨rfl, a, cap, rfl⟩⟩
  · exact ⟨hy, hl, Or.inr ⟨b, o, cap, rfl, hcl, hcm, hr.below hb⟩⟩

theorem conv_bytes (w : World) (s : ByteArray) : ∃ cap W1, (convert 9 22 (.string s)).run Try.prog w = .ok (.slice (some ⟨w.heap.size, 0, none⟩) s.size cap) W1 ∧ Row W1 w.heap.size 0 (bys s) ∧ Below w.heap.size w W1 ∧ w.heap.size < W1.heap.size := by
  refine ⟨_, _, run_bytes_of_string (P := Try.prog) w 9 22 5 s Try.underlying9 Try.underlying22 Try.underlying5, ?_, ?_, ?_⟩
  · intro i hi
    rw [bys_length] at hi
    rw [Nat.zero_add, bys_getD s i hi]
    show (w.drew.alloc _).cell? ⟨w.drew.heap.size, i, none⟩ = _
    rw [World.cell?_alloc_mark]
    exact bytesRow_at s _ i (by simpa using hi)
  · exact (Below.refl _ _).drew.alloc (Nat.le_refl _) _
  · show w.heap.size < (w.heap.push _).size
    simp

theorem bys_extract (s : ByteArray) (a b : Nat) : bys (s.extract a b) = ((bys s).drop a).take (b - a) := by
  unfold bys
  rw [ByteArray.data_extract, Array.toList_extract]
  simp [List.map_drop, List.map_take]

theorem bys_inj {s t : ByteArray} (h : bys s = bys t) : s = t := by
  unfold bys at h
  have : s.data.toList = t.data.toList := by
    have hinj : Function.Injective (fun c : UInt8 => (c.toNat : Int)) := fun a b hab => by
      have hab' : (a.toNat : Int) = b.toNat := hab
      exact UInt8.toNat_inj.1 (by omega)
    exact (List.map_inj_right (fun a b hab => hinj hab)).1 h
  obtain ⟨s⟩ := s
  obtain ⟨t⟩ := t
  simp at this
  rw [this]
end Go.Proofs.Ytnpjbpchnkobnaa
