/- Plain facts: the names and operators of the trees that reading tells. No program. -/
import Derived.Test.YtacfglopionkfaaGreatDoorArDec
import Derived.Test.YtacfglopionkfaaGreatDoorKPa
import Derived.Test.YtacfglopionkfaaGreatDoorKWr
import Derived.Test.YtacfglopionkfaaGreatDoorArText
import Derived.Lib.ItoaLen
namespace Go.Proofs.YtacfglopionkfaaGreatDoor
open Go.RowKit

/-- A text that is a name. -/
def NmOk (s : ByteArray) : Prop := ¬ s = sEmpty ∧ nmN (bys s) = s.size
theorem bytT {l : List Int} (h : Byt l) (j : Nat) : Byt (l.take j) := fun i => by
  have := h i
  simp only [List.getD_eq_getElem?_getD, List.getElem?_take] at this ⊢
  split
  · exact this
  · simp
theorem bytD {l : List Int} (h : Byt l) (j : Nat) : Byt (l.drop j) := fun i => by
  have := h (j + i)
  simpa only [List.getD_eq_getElem?_getD, List.getElem?_drop] using this
/-- A name's bytes, each in its place. -/
theorem nmN_is (l : List Int) : IsStop (nameB l) l.length (nmN l) := stopN_is _ _
theorem nmN_take (r : List Int) : nmN (r.take (nmN r)) = nmN r := by
  have h := nmN_is r
  generalize nmN r = k at h
  have hlen : (r.take k).length = k := by rw [List.length_take]; have := h.1; omega
  refine (nmN_is (r.take k)).same ⟨by omega, fun j hj => ?_, fun hj => by omega⟩
  have := h.2.1 j hj
  unfold nameB at this ⊢
  rw [List.getD_eq_getElem?_getD, List.getElem?_take, if_pos hj, ← List.getD_eq_getElem?_getD]
  exact this
theorem nmOk_take (r : List Int) (hb : Byt r) (h : 0 < nmN r) : NmOk (ofBys (r.take (nmN r))) := by
  have hle := (nmN_is r).1
  have hby : Byt (r.take (nmN r)) := bytT hb _
  refine ⟨fun e => ?_, ?_⟩
  · have := congrArg ByteArray.size e
    rw [ofBys_size, List.length_take] at this
    have : sEmpty.size = 0 := rfl
    omega
  · rw [bys_ofBys hby, nmN_take, ofBys_size, List.length_take]
    omega
theorem nm_noAsg {s : ByteArray} (h : NmOk s) : asgB s = false := by
  obtain ⟨hne, h⟩ := h
  have hpos := size_pos hne
  have hlen := bys_length s
  have hh := (nmN_is (bys s)).2.1 (s.size - 1) (by omega)
  unfold asgB
  have : Lib.hasSuffix s.data.toList [61] = false := by
    rw [Bool.eq_false_iff]
    intro hc
    have hsuf : [61] <:+ s.data.toList := by simpa [Lib.hasSuffix] using hc
    obtain ⟨y, hy⟩ := hsuf
    have hb : bys s = y.map (fun c => (c.toNat : Int)) ++ [61] := by
      show s.data.toList.map _ = _
      rw [← hy]; simp
    have hy' : y.length = s.size - 1 := by
      have := congrArg List.length hb
      simp at this
      omega
    unfold nameB at hh
    rw [hb, List.getD_eq_getElem?_getD, List.getElem?_append_right (by simp; omega)] at hh
    simp [hy', letB, numB] at hh
  rw [this, Bool.and_false]

theorem mem_ex {s : ByteArray} {L : List ByteArray} (h : ∃ x ∈ L, x = s) : s ∈ L := by
  obtain ⟨x, hx, e⟩ := h
  rw [← e]
  exact hx
end Go.Proofs.YtacfglopionkfaaGreatDoor
