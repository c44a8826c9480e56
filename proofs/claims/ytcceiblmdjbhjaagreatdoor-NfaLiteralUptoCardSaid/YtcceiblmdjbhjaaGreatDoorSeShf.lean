/- A bracket with one byte more ahead; with other bytes behind. -/
import Derived.Test.YtcceiblmdjbhjaaGreatDoorKItx
namespace Go.Proofs.YtcceiblmdjbhjaaGreatDoor
open Go.RowKit

/-! ### One byte more ahead -/
/-! ### Other bytes behind -/
theorem brkL_gt (cf : ByteArray → (Nat → Bool) × Bool) {s : ByteArray} {g : Bool} : ∀ (n k : Nat) (f : Bool) (p q : Nat → Bool) (m : Nat), brkL cf s g n k f p = .ok q m → k < m ∧ m ≤ s.size ∧ (¬ (f = false ∧ atB s k = 93) → k + 1 < m) := by
  intro n
  induction n with
  | zero => intro k f p q m h; cases h
  | succ n ih =>
    intro k f p q m h
    unfold brkL at h
    split at h
    · rename_i c1
      have e : k + 1 = m := by injection h
      have := atB_in (s := s) (k := k) (by rw [c1.2]; decide)
      exact ⟨by omega, by omega, fun hh => absurd c1 hh⟩
    · cases hp : partR cf s g k with
      | bad c pos => rw [hp] at h; cases h
      | ok r nx =>
        rw [hp] at h
        simp only at h
        have b1 := partR_next hp
        have b2 := ih nx false _ q m h
        exact ⟨by omega, b2.2.1, fun _ => by omega⟩
end Go.Proofs.YtcceiblmdjbhjaaGreatDoor
