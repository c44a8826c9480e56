/- The least bit of a word, and the word without it; the bytes of a set, in order. -/
import Derived.Test.YthmgcebonplcgaaGreatDoorSeBel
import Derived.Lib.TrailingZeros
namespace Go.Proofs.YthmgcebonplcgaaGreatDoor
open Go.RowKit

theorem ctz_split (x : Nat) (h0 : x ≠ 0) (hx : x < 18446744073709551616) : ∃ m, x = 2 ^ Lib.ctz 64 x * (2 * m + 1) ∧ Lib.ctz 64 x < 64 := by
  unfold Lib.ctz
  rw [if_neg h0]
  exact Lib.ctzFrom_spec 64 x (by omega) hx
theorem split_bit (c m j : Nat) : (2 ^ c * (2 * m + 1)).testBit j = if j < c then false else if j = c then true else m.testBit (j - c - 1) := by
  have e : 2 ^ c * (2 * m + 1) = 2 ^ c * (2 * m + 1) + 0 := by omega
  rw [e, Nat.testBit_two_pow_mul_add _ (Nat.two_pow_pos c)]
  by_cases h : j < c
  · rw [if_pos h, if_pos h]; simp
  · rw [if_neg h, if_neg h]
    by_cases h2 : j = c
    · subst h2; rw [if_pos rfl, Nat.sub_self, Nat.testBit_zero]; simp
    · rw [if_neg h2]
      obtain ⟨d, hd⟩ : ∃ d, j - c = d + 1 := ⟨j - c - 1, by omega⟩
      rw [hd, Nat.testBit_succ]
      have : (2 * m + 1) / 2 = m := by omega
      rw [this]; rfl
/-- The least bit that is set. -/
theorem ctz_least (q : Nat → Bool) (h0 : wd q ≠ 0) : Lib.ctz 64 (wd q) < 64 ∧ q (Lib.ctz 64 (wd q)) = true ∧ ∀ j, j < Lib.ctz 64 (wd q) → q j = false := by
  obtain ⟨m, hm, hc⟩ := ctz_split (wd q) h0 (wd_lt q)
  generalize Lib.ctz 64 (wd q) = c at *
  have hb : ∀ j, (wd q).testBit j = if j < c then false else if j = c then true else m.testBit (j - c - 1) := fun j => by rw [hm]; exact split_bit c m j
  refine ⟨hc, ?_, fun j hj => ?_⟩
  · have := hb c
    rw [wd_testBit] at this
    simpa [hc] using this
  · have := hb j
    rw [wd_testBit] at this
    simpa [hj, Nat.lt_trans hj hc] using this
end Go.Proofs.YthmgcebonplcgaaGreatDoor
