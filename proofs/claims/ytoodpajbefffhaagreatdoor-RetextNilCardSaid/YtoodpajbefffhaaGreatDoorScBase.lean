/- Plain facts on the digits of a number to a base. No program. -/
import Derived.Test.YtoodpajbefffhaaGreatDoorScMath
namespace Go.Proofs.YtoodpajbefffhaaGreatDoor

/-- The byte of a digit, in small letters. -/
def dch (d : Nat) : Int := if d < 10 then 48 + d else 87 + d
theorem dch_bd (d : Nat) (h : d < 16) : 48 ≤ dch d ∧ dch d ≤ 102 := by unfold dch; split <;> omega
theorem dgt_dch (d : Nat) (h : d < 16) : dgt (dch d) = d := by
  unfold dch dgt
  split
  · rw [if_pos (by omega)]; omega
  · rw [if_neg (by omega), if_pos (by omega)]; omega

/-- The digits of n to the base b, the greatest first. -/
def digs (b n : Nat) : List Int := if _h : b < 2 ∨ n < b then [dch n] else digs b (n / b) ++ [dch (n % b)]
termination_by n
decreasing_by exact Nat.div_lt_self (by omega) (by omega)
theorem digs_small (b n : Nat) (h : n < b) : digs b n = [dch n] := by rw [digs, dif_pos (Or.inr h)]
theorem digs_step (b n : Nat) (hb : 2 ≤ b) (h : b ≤ n) : digs b n = digs b (n / b) ++ [dch (n % b)] := by rw [digs, dif_neg (by omega)]

theorem digs_len (b : Nat) (hb : 2 ≤ b) : ∀ (k n : Nat), 1 ≤ k → n < b ^ k → (digs b n).length ≤ k
  | 0, _, h, _ => absurd h (by omega)
  | k + 1, n, _, h => by
    by_cases hn : n < b
    · rw [digs_small _ _ hn]; simp
    · rw [digs_step _ _ hb (by omega), List.length_append]
      have hk : 1 ≤ k := by
        rcases Nat.eq_zero_or_pos k with h0 | h0
        · subst h0; simp at h; omega
        · exact h0
      have := digs_len b hb k (n / b) hk (by rw [Nat.div_lt_iff_lt_mul (by omega)]; rw [Nat.pow_succ] at h; exact h)
      simp
      exact this
theorem digs_pos (b n : Nat) : 1 ≤ (digs b n).length := by
  rw [digs]
  split <;> simp

theorem val_append (b : Int) (l : List Int) (c : Int) : val b (l ++ [c]) = val b l * b + dgt c := by unfold val; rw [List.foldl_append]; rfl

/-- What the digits write is the number; each is a digit of the base. -/
theorem digs_val (b : Nat) (hb : 2 ≤ b) (hb2 : b ≤ 16) (n : Nat) : val b (digs b n) = n ∧ ∀ c ∈ digs b n, dgt c < b ∧ 48 ≤ c ∧ c ≤ 102 := by
  induction n using Nat.strongRecOn with
  | _ n ih =>
    by_cases hn : n < b
    · rw [digs_small _ _ hn]
      have := dgt_dch n (by omega)
      have h2 := dch_bd n (by omega)
      refine ⟨by unfold val; simp [this], fun c hc => ?_⟩
      simp only [List.mem_singleton] at hc
      subst hc
      omega
    · rw [digs_step _ _ hb (by omega)]
      obtain ⟨h1, h2⟩ := ih (n / b) (Nat.div_lt_self (by omega) (by omega))
      have hm : n % b < b := Nat.mod_lt _ (by omega)
      have h3 := dgt_dch (n % b) (by omega)
      have h4 := dch_bd (n % b) (by omega)
      refine ⟨?_, fun c hc => ?_⟩
      · rw [val_append, h1, h3]
        have := Nat.div_add_mod n b
        rw [Nat.mul_comm] at this
        exact_mod_cast this
      · rcases List.mem_append.1 hc with h | h
        · exact h2 c h
        · simp only [List.mem_singleton] at h
          subst h
          omega

theorem byt_digs (b : Nat) (hb : 2 ≤ b) (hb2 : b ≤ 16) (n : Nat) : Byt (digs b n) := fun i => by
  by_cases hi : i < (digs b n).length
  · have := ((digs_val b hb hb2 n).2 _ (List.getElem_mem hi)).2
    rw [List.getD, List.getElem?_eq_getElem hi]
    simp only [Option.getD_some]
    omega
  · rw [List.getD, List.getElem?_eq_none (by omega)]; simp
end Go.Proofs.YtoodpajbefffhaaGreatDoor
