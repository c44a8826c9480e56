import Derived.WalkKit
import Derived.Laws.BitsAllLaws
namespace Go.Proofs.YtnpkcllbpnmabaaGreatDoor
def val2 : List Bool → Nat
  | [] => 0
  | b :: r => b.toNat + 2 * val2 r
theorem val2_testBit : ∀ (l : List Bool) (j : Nat), (val2 l).testBit j = l.getD j false
  | [], j => by simp [val2]
  | b :: r, 0 => by cases b <;> simp [val2, Nat.testBit_zero] <;> omega
  | b :: r, j + 1 => by
    rw [Nat.testBit_succ]
    have : (val2 (b :: r)) / 2 = val2 r := by
      show (b.toNat + 2 * val2 r) / 2 = val2 r
      cases b <;> simp <;> omega
    rw [this, val2_testBit r j]
    simp
theorem val2_lt : ∀ l : List Bool, val2 l < 2 ^ l.length
  | [] => by simp [val2]
  | b :: r => by
    have := val2_lt r
    simp only [val2, List.length_cons, Nat.pow_succ]
    cases b <;> simp <;> omega
def wd (q : Nat → Bool) : Nat := val2 ((List.range 64).map q)
theorem wd_testBit (q : Nat → Bool) (j : Nat) : (wd q).testBit j = (decide (j < 64) && q j) := by
  unfold wd
  rw [val2_testBit]
  by_cases h : j < 64
  · simp [List.getD, h]
  · simp [List.getD, h]
theorem wd_lt (q : Nat → Bool) : wd q < 18446744073709551616 := by
  have := val2_lt ((List.range 64).map q)
  rw [List.length_map, List.length_range] at this
  exact this
attribute [irreducible] wd
theorem wd_of {n : Nat} {q : Nat → Bool} (hn : n < 18446744073709551616) (h : ∀ j, j < 64 → n.testBit j = q j) : n = wd q := by
  apply Nat.eq_of_testBit_eq
  intro j
  rw [wd_testBit]
  by_cases hj : j < 64
  · simp [hj, h j hj]
  · simp only [hj, decide_false, Bool.false_and]
    exact Nat.testBit_lt_two_pow (Nat.lt_of_lt_of_le hn (Nat.pow_le_pow_right (n := 2) (by decide) (by omega : 64 ≤ j)))
theorem wd_congr {q r : Nat → Bool} (h : ∀ j, j < 64 → q j = r j) : wd q = wd r :=
  wd_of (wd_lt q) fun j hj => by rw [wd_testBit]; simp [hj, h j hj]
theorem wd_or (q r : Nat → Bool) : bits .or .u64 (wd q : Int) (wd r : Int) = (wd fun j => q j || r j : Nat) := by
  rw [u64_or_nat _ _ (wd_lt q) (wd_lt r)]
  refine congrArg (Nat.cast (R := Int)) (wd_of (Nat.or_lt_two_pow (n := 64) (wd_lt q) (wd_lt r)) fun j hj => ?_)
  simp [wd_testBit, hj]
theorem full_sub (r : Nat → Bool) : 18446744073709551615 - wd r = wd fun j => !r j := by
  refine wd_of (by omega) fun j hj => ?_
  have h := Nat.testBit_two_pow_sub_succ (n := 64) (wd_lt r) j
  rw [show 18446744073709551615 - wd r = 2 ^ 64 - (wd r + 1) by omega, h, wd_testBit]
  simp [hj]
theorem wd_andNot (q r : Nat → Bool) : bits .andNot .u64 (wd q : Int) (wd r : Int) = (wd fun j => q j && !r j : Nat) := by
  rw [u64_andNot_nat _ _ (wd_lt q) (wd_lt r), full_sub]
  refine congrArg (Nat.cast (R := Int)) (wd_of (Nat.and_lt_two_pow (n := 64) _ (wd_lt _)) fun j hj => ?_)
  simp [wd_testBit, hj]
theorem wd_one (k : Nat) (hk : k < 64) : 2 ^ k = wd fun j => j == k :=
  wd_of (Nat.pow_lt_pow_right (a := 2) (n := 64) (by decide) hk) fun j _ => by
    rw [Nat.testBit_two_pow]
    by_cases h : k = j <;> simp [h]
    omega
theorem wd_zero : 0 = wd fun _ => false := wd_of (by decide) fun j _ => by simp
theorem wd_below (k : Nat) (hk : k ≤ 64) : 2 ^ k - 1 = wd fun j => decide (j < k) :=
  wd_of (by have : 2 ^ k ≤ 2 ^ 64 := Nat.pow_le_pow_right (by decide) hk
            omega) fun j _ => by rw [Nat.testBit_two_pow_sub_one]
theorem wd_bit (q : Nat → Bool) (k : Nat) (hk : k < 64) : wd q / 2 ^ k % 2 = (q k).toNat := by
  have h := wd_testBit q k
  rw [Nat.testBit_eq_decide_div_mod_eq] at h
  simp only [hk, decide_true, Bool.true_and] at h
  have h2 : wd q / 2 ^ k % 2 < 2 := Nat.mod_lt _ (by decide)
  cases hq : q k
  · rw [hq] at h; have := of_decide_eq_false h; simp; omega
  · rw [hq] at h; have := of_decide_eq_true h; simp [this]
end Go.Proofs.YtnpkcllbpnmabaaGreatDoor
