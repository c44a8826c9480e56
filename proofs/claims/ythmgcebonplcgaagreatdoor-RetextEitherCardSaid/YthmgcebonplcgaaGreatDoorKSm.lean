/- KSm: several texts in one (kmerge.py). -/
import Derived.WalkKit
/- Plain facts on bytes: digits and their numbers, names. No program. -/
namespace Go.Proofs.YthmgcebonplcgaaGreatDoor

/-- The value of a digit; 16: it is none. -/
def dgt (c : Int) : Int := if 48 ≤ c ∧ c ≤ 57 then c - 48 else if 97 ≤ c ∧ c ≤ 102 then c - 87 else if 65 ≤ c ∧ c ≤ 70 then c - 55 else 16
theorem dgt_bd (c : Int) : 0 ≤ dgt c ∧ dgt c ≤ 16 := by unfold dgt; split; omega; split; omega; split <;> omega

/-- The bytes are bytes. -/
def Byt (l : List Int) : Prop := ∀ i, 0 ≤ l.getD i 0 ∧ l.getD i 0 ≤ 255

/-- The number that digits write. -/
def val (b : Int) (l : List Int) : Int := l.foldl (fun v c => v * b + dgt c) 0
/-- The number of the first k digits. -/
def valK (b : Int) (l : List Int) (k : Nat) : Int := val b (l.take k)
theorem valK_zero (b : Int) (l : List Int) : valK b l 0 = 0 := rfl
theorem valK_succ (b : Int) (l : List Int) (k : Nat) (h : k < l.length) : valK b l (k + 1) = valK b l k * b + dgt (l.getD k 0) := by
  unfold valK val
  rw [List.take_succ_eq_append_getElem h, List.foldl_append]
  simp [List.getD, List.getElem?_eq_getElem h]
theorem valK_nonneg (b : Int) (hb : 0 ≤ b) (l : List Int) (k : Nat) (h : k ≤ l.length) : 0 ≤ valK b l k := by
  induction k with
  | zero => simp [valK_zero]
  | succ k ih =>
    rw [valK_succ _ _ _ (by omega)]
    have := Int.mul_nonneg (ih (by omega)) hb
    have := (dgt_bd (l.getD k 0)).1
    omega

/-- How many bytes at the beginning are such. -/
def pre (p : Int → Bool) (l : List Int) : Nat := (l.takeWhile p).length
theorem pre_le (p : Int → Bool) (l : List Int) : pre p l ≤ l.length := (List.takeWhile_sublist p).length_le
theorem pre_of (p : Int → Bool) : ∀ (l : List Int) (k : Nat), k ≤ l.length → (∀ j, j < k → p (l.getD j 0) = true) → (k < l.length → p (l.getD k 0) = false) → pre p l = k
  | [], k, h, _, _ => by simp at h; subst h; rfl
  | c :: l, 0, _, _, h => by
    have := h (by simp)
    simp only [List.getD_cons_zero] at this
    simp [pre, this]
  | c :: l, k + 1, hk, h1, h2 => by
    have hc := h1 0 (by omega)
    simp only [List.getD_cons_zero] at hc
    have := pre_of p l k (by simpa using hk) (fun j hj => by simpa using h1 (j + 1) (by omega)) (fun hlt => by simpa using h2 (by simpa using hlt))
    unfold pre at *
    simp [hc, this]

/-- A number brought to the most that there may be; is it greater? -/
def cut (m v : Int) : Int := if v ≤ m then v else m
def ovr (m v : Int) : Bool := decide (m < v)
theorem cut_bd (m v : Int) (h : 0 ≤ v) (hm : 0 ≤ m) : 0 ≤ cut m v ∧ cut m v ≤ m := by unfold cut; split <;> omega

theorem quo_lt (m d b v : Int) (hb : 1 ≤ b) : (m - d) / b < v ↔ m - d < v * b := by
  constructor
  · intro h
    have h1 := Int.mul_ediv_add_emod (m - d) b
    have h2 := Int.emod_lt_of_pos (m - d) (show 0 < b by omega)
    have h3 : b * ((m - d) / b + 1) ≤ b * v := Int.mul_le_mul_of_nonneg_left (by omega) (by omega)
    rw [Int.mul_add, Int.mul_one] at h3
    rw [Int.mul_comm v b]
    omega
  · intro h
    by_cases hc : (m - d) / b < v
    · exact hc
    · have h1 := Int.mul_ediv_add_emod (m - d) b
      have h2 := Int.emod_nonneg (m - d) (show b ≠ 0 by omega)
      have h3 : b * v ≤ b * ((m - d) / b) := Int.mul_le_mul_of_nonneg_left (by omega) (by omega)
      rw [Int.mul_comm v b] at h
      omega

/-- One more digit, and the value is too great. -/
theorem step_over (m d b v : Int) (hb : 2 ≤ b) (_hd : 0 ≤ d) (hd2 : d < b) (hv : 0 ≤ v) (_hm : 16 ≤ m) (hb2 : b ≤ 16) (h : (m - d) / b < cut m v) : cut m (v * b + d) = m ∧ ovr m (v * b + d) = true := by
  have h' := (quo_lt m d b _ (by omega)).1 h
  have hvb : m < v * b + d := by
    unfold cut at h'
    split at h'
    · omega
    · have : v * 1 ≤ v * b := Int.mul_le_mul_of_nonneg_left (by omega) hv
      omega
  unfold cut ovr
  rw [if_neg (by omega)]
  exact ⟨rfl, by simpa using hvb⟩
/-- One more digit, and it isn't. -/
theorem step_in (m d b v : Int) (hb : 2 ≤ b) (_hd : 0 ≤ d) (hd2 : d < b) (_hv : 0 ≤ v) (hm : 16 ≤ m) (hb2 : b ≤ 16) (h : ¬ (m - d) / b < cut m v) :
    v ≤ m ∧ cut m v = v ∧ v * b + d ≤ m ∧ cut m (v * b + d) = v * b + d ∧ ovr m (v * b + d) = false ∧ ovr m v = false := by
  have h' : cut m v * b ≤ m - d := by have := (quo_lt m d b (cut m v) (by omega)); omega
  have hvm : v ≤ m := by
    by_cases hc : v ≤ m
    · exact hc
    · unfold cut at h'
      rw [if_neg hc] at h'
      have : m * 2 ≤ m * b := Int.mul_le_mul_of_nonneg_left (by omega) (by omega)
      omega
  have hcut : cut m v = v := by unfold cut; rw [if_pos hvm]
  rw [hcut] at h'
  refine ⟨hvm, hcut, by omega, by unfold cut; rw [if_pos (by omega)], ?_, ?_⟩
  · unfold ovr; simp; omega
  · unfold ovr; simp; omega

/-- What Digits tells, and Whole's reading: the value, brought to the most; how many; too great. -/
def dig? (b : Int) (c : Int) : Bool := decide (dgt c < b)
def rN (b : Int) (l : List Int) : Nat := pre (dig? b) l
def rV (b m : Int) (l : List Int) : Int := cut m (valK b l (rN b l))
def rO (b m : Int) (l : List Int) : Bool := ovr m (valK b l (rN b l))

end Go.Proofs.YthmgcebonplcgaaGreatDoor
/- Plain facts on the digits of a number to a base. No program. -/
namespace Go.Proofs.YthmgcebonplcgaaGreatDoor

/-- The byte of a digit, in small letters. -/
def dch (d : Nat) : Int := if d < 10 then 48 + d else 87 + d
theorem dch_bd (d : Nat) (h : d < 16) : 48 ≤ dch d ∧ dch d ≤ 102 := by unfold dch; split <;> omega
theorem dgt_dch (d : Nat) (h : d < 16) : dgt (dch d) = d := by
  unfold dch dgt
  split
  · rw [if_pos (by omega)]; omega
  · rw [if_neg (by omega), if_pos (by omega)]; omega

/-- The digits of n to the base b, the greatest first. -/
def digs (b n : Nat) : List Int := if _h : b < 2 ∨ n < b then [dch n] else digs b (n / b) ++ [dch (n % b)]
termination_by n
decreasing_by exact Nat.div_lt_self (by omega) (by omega)
theorem digs_small (b n : Nat) (h : n < b) : digs b n = [dch n] := by rw [digs, dif_pos (Or.inr h)]
theorem digs_step (b n : Nat) (hb : 2 ≤ b) (h : b ≤ n) : digs b n = digs b (n / b) ++ [dch (n % b)] := by rw [digs, dif_neg (by omega)]

theorem digs_len (b : Nat) (hb : 2 ≤ b) : ∀ (k n : Nat), 1 ≤ k → n < b ^ k → (digs b n).length ≤ k
  | 0, _, h, _ => absurd h (by omega)
  | k + 1, n, _, h => by
    by_cases hn : n < b
    · rw [digs_small _ _ hn]; simp
    · rw [digs_step _ _ hb (by omega), List.length_append]
      have hk : 1 ≤ k := by
        rcases Nat.eq_zero_or_pos k with h0 | h0
        · subst h0; simp at h; omega
        · exact h0
      have := digs_len b hb k (n / b) hk (by rw [Nat.div_lt_iff_lt_mul (by omega)]; rw [Nat.pow_succ] at h; exact h)
      simp
      exact this
theorem digs_pos (b n : Nat) : 1 ≤ (digs b n).length := by
  rw [digs]
  split <;> simp

theorem val_append (b : Int) (l : List Int) (c : Int) : val b (l ++ [c]) = val b l * b + dgt c := by unfold val; rw [List.foldl_append]; rfl

/-- What the digits write is the number; each is a digit of the base. -/
theorem digs_val (b : Nat) (hb : 2 ≤ b) (hb2 : b ≤ 16) (n : Nat) : val b (digs b n) = n ∧ ∀ c ∈ digs b n, dgt c < b ∧ 48 ≤ c ∧ c ≤ 102 := by
  induction n using Nat.strongRecOn with
  | _ n ih =>
    by_cases hn : n < b
    · rw [digs_small _ _ hn]
      have := dgt_dch n (by omega)
      have h2 := dch_bd n (by omega)
      refine ⟨by unfold val; simp [this], fun c hc => ?_⟩
      simp only [List.mem_singleton] at hc
      subst hc
      omega
    · rw [digs_step _ _ hb (by omega)]
      obtain ⟨h1, h2⟩ := ih (n / b) (Nat.div_lt_self (by omega) (by omega))
      have hm : n % b < b := Nat.mod_lt _ (by omega)
      have h3 := dgt_dch (n % b) (by omega)
      have h4 := dch_bd (n % b) (by omega)
      refine ⟨?_, fun c hc => ?_⟩
      · rw [val_append, h1, h3]
        have := Nat.div_add_mod n b
        rw [Nat.mul_comm] at this
        exact_mod_cast this
      · rcases List.mem_append.1 hc with h | h
        · exact h2 c h
        · simp only [List.mem_singleton] at h
          subst h
          omega

theorem byt_digs (b : Nat) (hb : 2 ≤ b) (hb2 : b ≤ 16) (n : Nat) : Byt (digs b n) := fun i => by
  by_cases hi : i < (digs b n).length
  · have := ((digs_val b hb hb2 n).2 _ (List.getElem_mem hi)).2
    rw [List.getD, List.getElem?_eq_getElem hi]
    simp only [Option.getD_some]
    omega
  · rw [List.getD, List.getElem?_eq_none (by omega)]; simp
end Go.Proofs.YthmgcebonplcgaaGreatDoor
