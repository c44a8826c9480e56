/- '[]byte(s)' and 'string(b)', said plainly; the bytes of a part of a string. -/
import Derived.Test.YtacfglopionkfaaGreatDoorKDg
import Derived.Laws.IdiomStrings
import Derived.Laws.BytesArg
import Derived.Below
namespace Go.Proofs.YtacfglopionkfaaGreatDoor
open Go.RowKit

theorem Row.below {w w' : World} {b o : Nat} {l : List Int} (h : Row w b o l) (hb : Below w.heap.size w w') : Row w' b o l := fun i hi => by
  have hc := h i hi
  have hlt : b < w.heap.size := by
    rcases Nat.lt_or_ge b w.heap.size with h' | h'
    · exact h'
    · simp [World.cell?, Array.getElem?_eq_none h'] at hc
  rw [hb.cell (p := ⟨b, o + i, none⟩) hlt]
  exact hc

theorem Sl.below {w w' : World} {v : Value} {l : List Int} (h : Sl w v l) (hb : Below w.heap.size w w') : Sl w' v l := by
  obtain ⟨hy, hl, ⟨rfl, a, cap, rfl⟩ | ⟨b, o, cap, rfl, hcl, hcm, hr⟩⟩ := h
  · exact ⟨hy, hl, Or.inl ⟨rfl, a, cap, rfl⟩⟩
  · exact ⟨hy, hl, Or.inr ⟨b, o, cap, rfl, hcl, hcm, hr.below hb⟩⟩

theorem bys_inj {s t : ByteArray} (h : bys s = bys t) : s = t := by
  unfold bys at h
  have : s.data.toList = t.data.toList := by
    have hinj : Function.Injective (fun c : UInt8 => (c.toNat : Int)) := fun a b hab => by
      have hab' : (a.toNat : Int) = b.toNat := hab
      exact UInt8.toNat_inj.1 (by omega)
    exact (List.map_inj_right (fun a b hab => hinj hab)).1 h
  obtain ⟨s⟩ := s
  obtain ⟨t⟩ := t
  simp at this
  rw [this]

/-- The text of a list of bytes. -/
def ofBys (l : List Int) : ByteArray := ⟨(l.map fun n => UInt8.ofNat n.toNat).toArray⟩
theorem bys_ofBys {l : List Int} (h : Byt l) : bys (ofBys l) = l := by
  unfold bys ofBys
  apply List.ext_getElem
  · simp
  · intro i h1 h2
    simp only [List.getElem_map]
    have := h i
    rw [List.getD, List.getElem?_eq_getElem h2] at this
    simp only [Option.getD_some] at this
    simp
    omega
theorem ofBys_bys (s : ByteArray) : ofBys (bys s) = s := bys_inj (bys_ofBys (bys_byt s))
theorem ofBys_size (l : List Int) : (ofBys l).size = l.length := by unfold ofBys; simp [ByteArray.size]

theorem conv_string {w : World} {v : Value} {l : List Int} (h : Sl w v l) : (convert 22 9 v).run Tryz.prog w = .ok (.string (ofBys l)) w := by
  obtain ⟨hy, hl, ⟨rfl, a, cap, rfl⟩ | ⟨b, o, cap, rfl, hcl, hcm, hr⟩⟩ := h
  · rw [run_convert_bytes_string w 22 9 5 _ 0 cap Tryz.underlying22 Tryz.underlying5 Tryz.underlying9]
    cases a <;> simp [Conv.bytesToString, loadCells]
    all_goals rfl
  · have := run_convert_bytes_back (P := Tryz.prog) w 22 9 5 ⟨b, o, none⟩ cap (l.map fun n => UInt8.ofNat n.toNat) Tryz.underlying22 Tryz.underlying5 Tryz.underlying9 (fun j hj => by
      simp only [List.length_map] at hj
      rw [WideShapes.add_plain, hr j hj]
      have hb := hy j
      rw [List.getD, List.getElem?_eq_getElem hj] at *
      simp only [Option.getD_some] at hb ⊢
      simp
      omega)
    simpa [ofBys] using this


end Go.Proofs.YtacfglopionkfaaGreatDoor
