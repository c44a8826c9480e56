/- The walk of the statement on names. -/
import Derived.Test.YtcceiblmdjbhjaaGreatDoorScDigits
import Derived.Lib.SlBytesConst
import Derived.Deep.RegionWith
import Derived.Deep.RegionHeld3
import Derived.Below
import Derived.Test.YtcceiblmdjbhjaaGreatDoorScByte
import Derived.Test.YtcceiblmdjbhjaaGreatDoorScOpen
import Derived.LoopTactic
import Derived.Deep.QuietTactic
namespace Go.Proofs.YtcceiblmdjbhjaaGreatDoor
open Go.RowKit

/-- k is where p stops to hold, counted from 0, or n. -/
def IsStop (p : Nat → Bool) (n k : Nat) : Prop := k ≤ n ∧ (∀ j, j < k → p j = true) ∧ (k < n → p k = false)
theorem IsStop.same {p : Nat → Bool} {n k k' : Nat} (h : IsStop p n k) (h' : IsStop p n k') : k = k' := by
  obtain ⟨a, b, c⟩ := h
  obtain ⟨a', b', c'⟩ := h'
  rcases Nat.lt_trichotomy k k' with g | g | g
  · have := c (by omega); rw [b' k g] at this; cases this
  · exact g
  · have := c' (by omega); rw [b k' g] at this; cases this
def stopN (p : Nat → Bool) : Nat → Nat
  | 0 => 0
  | n + 1 => if stopN p n = n ∧ p n = true then n + 1 else stopN p n
theorem stopN_is (p : Nat → Bool) : ∀ n, IsStop p n (stopN p n)
  | 0 => ⟨by simp [stopN], fun j hj => absurd hj (by simp [stopN]), fun h => absurd h (by omega)⟩
  | n + 1 => by
    obtain ⟨a, b, c⟩ := stopN_is p n
    unfold stopN
    by_cases h : stopN p n = n ∧ p n = true
    · rw [if_pos h]
      refine ⟨by omega, fun j hj => ?_, fun h => absurd h (by omega)⟩
      by_cases hj' : j = n
      · rw [hj']; exact h.2
      · exact b j (by omega)
    · rw [if_neg h]
      refine ⟨by omega, b, fun hlt => ?_⟩
      by_cases hn : stopN p n = n
      · rw [hn]; simpa using fun hp => h ⟨hn, hp⟩
      · exact c (by omega)

end Go.Proofs.YtcceiblmdjbhjaaGreatDoor
