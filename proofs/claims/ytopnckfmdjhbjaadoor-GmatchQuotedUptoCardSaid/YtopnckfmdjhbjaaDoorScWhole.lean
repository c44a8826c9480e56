/- The walk of the statement on whole texts as numbers. -/
import Derived.Test.YtopnckfmdjhbjaaDoorScAwake
import Derived.Test.YtopnckfmdjhbjaaDoorScOpen
import Derived.Test.YtopnckfmdjhbjaaDoorScConv
import Derived.LoopTactic
import Derived.ChangeMaps5
namespace Go.Proofs.YtopnckfmdjhbjaaDoor
open Go.RowKit

/-- Does a list of bytes begin with a minus; what stands behind it; the most that it may write. -/
def wD (l : List Int) : List Int := if l.getD 0 0 = 45 then l.drop 1 else l
def wM (l : List Int) : Int := if l.getD 0 0 = 45 then 9223372036854775808 else 9223372036854775807
/-- Is it a number's text, and which number's. -/
def wOk (l : List Int) : Bool := decide (0 < (wD l).length ∧ rN 10 (wD l) = (wD l).length ∧ valK 10 (wD l) (wD l).length ≤ wM l)
def wV (l : List Int) : Int := if wOk l = true then (if l.getD 0 0 = 45 then - valK 10 (wD l) (wD l).length else valK 10 (wD l) (wD l).length) else 0

theorem first_bytes (s : ByteArray) : ((s.extract 0 1).toList == [45]) = decide ((bys s).getD 0 0 = 45) := by
  rw [ByteArray.toList_eq, ByteArray.data_extract, Array.toList_extract]
  unfold bys
  generalize s.data.toList = l
  cases l with
  | nil => simp
  | cons c l =>
    rw [Bool.eq_iff_iff]
    simp
    constructor
    · intro h; rw [h]; rfl
    · intro h
      apply UInt8.toNat_inj.1
      have : ((45 : UInt8).toNat : Int) = 45 := rfl
      omega

theorem minus_pos (s : ByteArray) (h : (bys s).getD 0 0 = 45) : 0 < s.size := by
  rcases Nat.eq_zero_or_pos s.size with h0 | h0
  · have : bys s = [] := List.length_eq_zero_iff.1 (by rw [bys_length]; exact h0)
    rw [this] at h
    simp at h
  · exact h0

theorem bys_minus (s : ByteArray) : bys (s.extract 1 s.size) = (bys s).drop 1 := by
  rw [bys_extract, List.take_of_length_le (by rw [List.length_drop, bys_length]; exact Nat.le_refl _)]

theorem wrap_neg (x : Int) (h0 : 0 ≤ x) (h1 : x ≤ 9223372036854775808) : wrap64 (IntKind.u64.wrap (-x)) = -x := by
  unfold wrap64 IntKind.wrap
  simp [IntKind.signed, IntKind.bits]
  omega

/-- What Whole accepts, by what read tells. -/
theorem wOk_read (l : List Int) : wOk l = (!rO 10 (wM l) (wD l) && decide (0 < rN 10 (wD l)) && decide (rN 10 (wD l) = (wD l).length)) := by
  unfold wOk rO ovr
  rw [Bool.eq_iff_iff]
  simp
  constructor
  · rintro ⟨h1, h2, h3⟩
    rw [h2]
    exact ⟨⟨h3, h1⟩, rfl⟩
  · rintro ⟨⟨h1, h2⟩, h3⟩
    rw [h3] at h1 h2
    exact ⟨h2, h3, h1⟩
theorem wV_read (l : List Int) : wV l = if wOk l = true then (if l.getD 0 0 = 45 then - rV 10 (wM l) (wD l) else rV 10 (wM l) (wD l)) else 0 := by
  unfold wV
  by_cases h : wOk l = true
  · rw [if_pos h, if_pos h]
    unfold wOk at h
    simp only [decide_eq_true_eq] at h
    have e : rV 10 (wM l) (wD l) = valK 10 (wD l) (wD l).length := by
      unfold rV cut
      rw [h.2.1, if_pos h.2.2]
    rw [e]
  · rw [if_neg h, if_neg h]

end Go.Proofs.YtopnckfmdjhbjaaDoor
