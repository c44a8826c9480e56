/- The least bit of a word, and the word without it; the bytes of a set, in order. -/
import Derived.Test.YtoodpajbefffhaaDoorSeBel
import Derived.Lib.TrailingZeros
namespace Go.Proofs.YtoodpajbefffhaaDoor
open Go.RowKit

theorem ctz_split (x : Nat) (h0 : x ≠ 0) (hx : x < 18446744073709551616) : ∃ m, x = 2 ^ Lib.ctz 64 x * (2 * m + 1) ∧ Lib.ctz 64 x < 64 := by
  unfold Lib.ctz
  rw [if_neg h0]
  exact Lib.ctzFrom_spec 64 x (by omega) hx
theorem split_bit (c m j : Nat) : (2 ^ c * (2 * m + 1)).testBit j = if j < c then false else if j = c then true else m.testBit (j - c - 1) := by
  have e : 2 ^ c * (2 * m + 1) = 2 ^ c * (2 * m + 1) + 0 := by omega
  rw [e, Nat.testBit_two_pow_mul_add _ (Nat.two_pow_pos c)]
  by_cases h : j < c
  · rw [if_pos h, if_pos h]; simp
  · rw [if_neg h, if_neg h]
    by_cases h2 : j = c
    · subst h2; rw [if_pos rfl, Nat.sub_self, Nat.testBit_zero]; simp
    · rw [if_neg h2]
      obtain ⟨d, hd⟩ : ∃ d, j - c = d + 1 := ⟨j - c - 1, by omega⟩
      rw [hd, Nat.testBit_succ]
      have : (2 * m + 1) / 2 = m := by omega
      rw [this]; rfl
/-- The least bit that is set. -/
theorem ctz_least (q : Nat → Bool) (h0 : wd q ≠ 0) : Lib.ctz 64 (wd q) < 64 ∧ q (Lib.ctz 64 (wd q)) = true ∧ ∀ j, j < Lib.ctz 64 (wd q) → q j = false := by
  obtain ⟨m, hm, hc⟩ := ctz_split (wd q) h0 (wd_lt q)
  generalize Lib.ctz 64 (wd q) = c at *
  have hb : ∀ j, (wd q).testBit j = if j < c then false else if j = c then true else m.testBit (j - c - 1) := fun j => by rw [hm]; exact split_bit c m j
  refine ⟨hc, ?_, fun j hj => ?_⟩
  · have := hb c
    rw [wd_testBit] at this
    simpa [hc] using this
  · have := hb j
    rw [wd_testBit] at this
    simpa [hj, Nat.lt_trans hj hc] using this
/-- The word without its least bit. -/
theorem clear_least (q : Nat → Bool) (h0 : wd q ≠ 0) : wd q &&& (wd q - 1) = wd fun j => q j && decide (Lib.ctz 64 (wd q) < j) := by
  obtain ⟨m, hm, hc⟩ := ctz_split (wd q) h0 (wd_lt q)
  have hlt := wd_lt q
  generalize hce : Lib.ctz 64 (wd q) = c at *
  have hpos : 0 < 2 ^ c := Nat.two_pow_pos c
  have e1 : wd q - 1 = 2 ^ c * (2 * m) + (2 ^ c - 1) := by rw [hm, Nat.mul_add, Nat.mul_one]; omega
  refine wd_of (Nat.lt_of_le_of_lt Nat.and_le_left hlt) fun j hj => ?_
  have hb : (wd q).testBit j = q j := by rw [wd_testBit]; simp [hj]
  have hs : (wd q).testBit j = if j < c then false else if j = c then true else m.testBit (j - c - 1) := by rw [hm]; exact split_bit c m j
  rw [Nat.testBit_and, hb]
  by_cases h1 : j < c
  · rw [if_pos h1] at hs
    rw [hb] at hs
    rw [hs]; simp
  · by_cases h2 : j = c
    · subst h2
      rw [e1, Nat.testBit_two_pow_mul_add _ (by omega), if_neg (by omega), Nat.sub_self, Nat.testBit_zero]
      simp
    · rw [e1, Nat.testBit_two_pow_mul_add _ (by omega), if_neg h1]
      obtain ⟨d, hd⟩ : ∃ d, j - c = d + 1 := ⟨j - c - 1, by omega⟩
      rw [if_neg h1, if_neg h2, hb] at hs
      rw [hd, Nat.testBit_succ]
      have hdm : 2 * m / 2 = m := by omega
      have hdd : j - c - 1 = d := by omega
      rw [hdm, hs, hdd]
      have : decide (c < j) = true := by simp; omega
      rw [this]; simp

/-- The bytes of a set below a place, rising. -/
def byL (p : Nat → Bool) (k : Nat) : List Int := ((List.range k).filter p).map fun c : Nat => (c : Int)
theorem byL_step (p : Nat → Bool) (k : Nat) (h : p k = true) : byL p (k + 1) = byL p k ++ [(k : Int)] := by
  unfold byL
  rw [List.range_succ, List.filter_append]
  simp [h]
theorem byL_skip (p : Nat → Bool) (k : Nat) : ∀ n, (∀ j, j < n → p (k + j) = false) → byL p (k + n) = byL p k
  | 0, _ => rfl
  | n + 1, h => by
    have ih := byL_skip p k n (fun j hj => h j (by omega))
    rw [← ih]
    unfold byL
    rw [show k + (n + 1) = (k + n) + 1 by omega, List.range_succ, List.filter_append]
    simp [h n (by omega)]
theorem byL_len (p : Nat → Bool) (k : Nat) : (byL p k).length ≤ k := by
  unfold byL
  rw [List.length_map]
  exact Nat.le_trans (List.length_filter_le _ _) (by rw [List.length_range]; exact Nat.le_refl _)
end Go.Proofs.YtoodpajbefffhaaDoor
