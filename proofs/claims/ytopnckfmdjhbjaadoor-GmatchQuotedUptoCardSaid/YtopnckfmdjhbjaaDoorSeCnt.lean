/- How many are in a set is how many bytes it has; both of two, and one of two. -/
import Derived.Test.YtopnckfmdjhbjaaDoorSeCtz
import Derived.Test.YtopnckfmdjhbjaaDoorSeHas
namespace Go.Proofs.YtopnckfmdjhbjaaDoor
open Go.RowKit

theorem cntW_count (q : Nat → Bool) : cntW q = (List.range 64).countP q := by
  unfold cntW cntB
  rw [List.countP_map]
  congr 1
  funext j
  simp
theorem count_add (p : Nat → Bool) (k n : Nat) : (List.range (k + n)).countP p = (List.range k).countP p + (List.range n).countP (fun j => p (k + j)) := by
  rw [List.range_add, List.countP_append, List.countP_map]
  rfl
theorem cntS_count (p : Nat → Bool) : cntS p = (List.range 256).countP p := by
  have h1 := count_add p 192 64
  have h2 := count_add p 128 64
  have h3 := count_add p 64 64
  unfold cntS
  rw [cntW_count, cntW_count, cntW_count, cntW_count]
  rw [show 192 + 64 = 256 from rfl] at h1
  rw [show 128 + 64 = 192 from rfl] at h2
  rw [show 64 + 64 = 128 from rfl] at h3
  rw [h1, h2, h3]
theorem cntS_len (p : Nat → Bool) : cntS p = (byL p 256).length := by
  rw [cntS_count]
  unfold byL
  rw [List.length_map, List.countP_eq_length_filter]
theorem count_both (p q : Nat → Bool) : ∀ l : List Nat, l.countP (fun c => p c && q c) + l.countP (fun c => p c || q c) = l.countP p + l.countP q
  | [] => rfl
  | a :: l => by
    have := count_both p q l
    simp only [List.countP_cons]
    cases p a <;> cases q a <;> simp <;> omega
/-- Both of two and one of two are as many as the one and the other. -/
theorem cnt_both (p q : Nat → Bool) : cntS (fun c => p c && q c) + cntS (fun c => p c || q c) = cntS p + cntS q := by
  rw [cntS_count, cntS_count, cntS_count, cntS_count]
  exact count_both p q _
theorem count_not (p : Nat → Bool) : ∀ l : List Nat, l.countP p + l.countP (fun c => !p c) = l.length
  | [] => rfl
  | a :: l => by
    have := count_not p l
    simp only [List.countP_cons, List.length_cons]
    cases p a <;> simp <;> omega
theorem cnt_not (p : Nat → Bool) : cntS p + cntS (fun c => !p c) = 256 := by
  rw [cntS_count, cntS_count, count_not]
  simp
/-- The bytes of a set make the set. -/
theorem mem_byL (p : Nat → Bool) (c : Nat) (hc : c < 256) : decide ((c : Int) ∈ byL p 256) = p c := by
  rw [Bool.eq_iff_iff]
  unfold byL
  simp only [decide_eq_true_eq, List.mem_map, List.mem_filter, List.mem_range]
  constructor
  · rintro ⟨a, ⟨_, h⟩, he⟩
    obtain rfl : a = c := by omega
    exact h
  · intro h
    exact ⟨c, ⟨hc, h⟩, rfl⟩
end Go.Proofs.YtopnckfmdjhbjaaDoor
