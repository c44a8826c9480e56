/- Plain facts on bytes: digits and their numbers, names. No program. -/
import Derived.WalkKit
namespace Go.Proofs.YtacfglopionkfaaGreatDoor

/-- The value of a digit; 16: it is none. -/
def dgt (c : Int) : Int := if 48 ≤ c ∧ c ≤ 57 then c - 48 else if 97 ≤ c ∧ c ≤ 102 then c - 87 else if 65 ≤ c ∧ c ≤ 70 then c - 55 else 16
theorem dgt_bd (c : Int) : 0 ≤ dgt c ∧ dgt c ≤ 16 := by unfold dgt; split; omega; split; omega; split <;> omega

/-- The bytes are bytes. -/
def Byt (l : List Int) : Prop := ∀ i, 0 ≤ l.getD i 0 ∧ l.getD i 0 ≤ 255

/-- The number that digits write. -/
def val (b : Int) (l : List Int) : Int := l.foldl (fun v c => v * b + dgt c) 0
/-- The number of the first k digits. -/
def valK (b : Int) (l : List Int) (k : Nat) : Int := val b (l.take k)
theorem valK_zero (b : Int) (l : List Int) : valK b l 0 = 0 := rfl
theorem valK_succ (b : Int) (l : List Int) (k : Nat) (h : k < l.length) : valK b l (k + 1) = valK b l k * b + dgt (l.getD k 0) := by
  unfold valK val
  rw [List.take_succ_eq_append_getElem h, List.foldl_append]
  simp [List.getD, List.getElem?_eq_getElem h]
theorem valK_nonneg (b : Int) (hb : 0 ≤ b) (l : List Int) (k : Nat) (h : k ≤ l.length) : 0 ≤ valK b l k := by
  induction k with
  | zero => simp [valK_zero]
  | succ k ih =>
    rw [valK_succ _ _ _ (by omega)]
    have := Int.mul_nonneg (ih (by omega)) hb
    have := (dgt_bd (l.getD k 0)).1
    omega

/-- How many bytes at the beginning are such. -/
def pre (p : Int → Bool) (l : List Int) : Nat := (l.takeWhile p).length
theorem pre_le (p : Int → Bool) (l : List Int) : pre p l ≤ l.length := (List.takeWhile_sublist p).length_le
theorem pre_of (p : Int → Bool) : ∀ (l : List Int) (k : Nat), k ≤ l.length → (∀ j, j < k → p (l.getD j 0) = true) → (k < l.length → p (l.getD k 0) = false) → pre p l = k
  | [], k, h, _, _ => by simp at h; subst h; rfl
  | c :: l, 0, _, _, h => by
    have := h (by simp)
    simp only [List.getD_cons_zero] at this
    simp [pre, this]
  | c :: l, k + 1, hk, h1, h2 => by
    have hc := h1 0 (by omega)
    simp only [List.getD_cons_zero] at hc
    have := pre_of p l k (by simpa using hk) (fun j hj => by simpa using h1 (j + 1) (by omega)) (fun hlt => by simpa using h2 (by simpa using hlt))
    unfold pre at *
    simp [hc, this]

/-- A number brought to the most that there may be; is it greater? -/
def cut (m v : Int) : Int := if v ≤ m then v else m
def ovr (m v : Int) : Bool := decide (m < v)
theorem cut_bd (m v : Int) (h : 0 ≤ v) (hm : 0 ≤ m) : 0 ≤ cut m v ∧ cut m v ≤ m := by unfold cut; split <;> omega

theorem quo_lt (m d b v : Int) (hb : 1 ≤ b) : (m - d) / b < v ↔ m - d < v * b := by
  constructor
  · intro h
    have h1 := Int.mul_ediv_add_emod (m - d) b
    have h2 := Int.emod_lt_of_pos (m - d) (show 0 < b by omega)
    have h3 : b * ((m - d) / b + 1) ≤ b * v := Int.mul_le_mul_of_nonneg_left (by omega) (by omega)
    rw [Int.mul_add, Int.mul_one] at h3
    rw [Int.mul_comm v b]
    omega
  · intro h
    by_cases hc : (m - d) / b < v
    · exact hc
    · have h1 := Int.mul_ediv_add_emod (m - d) b
      have h2 := Int.emod_nonneg (m - d) (show b ≠ 0 by omega)
      have h3 : b * v ≤ b * ((m - d) / b) := Int.mul_le_mul_of_nonneg_left (by omega) (by omega)
      rw [Int.mul_comm v b] at h
      omega

/-- One more digit, and the value is too great. -/
theorem step_over (m d b v : Int) (hb : 2 ≤ b) (_hd : 0 ≤ d) (hd2 : d < b) (hv : 0 ≤ v) (_hm : 16 ≤ m) (hb2 : b ≤ 16) (h : (m - d) / b < cut m v) : cut m (v * b + d) = m ∧ ovr m (v * b + d) = true := by
  have h' := (quo_lt m d b _ (by omega)).1 h
  have hvb : m < v * b + d := by
    unfold cut at h'
    split at h'
    · omega
    · have : v * 1 ≤ v * b := Int.mul_le_mul_of_nonneg_left (by omega) hv
      omega
  unfold cut ovr
  rw [if_neg (by omega)]
  exact ⟨rfl, by simpa using hvb⟩
/-- One more digit, and it isn't. -/
theorem step_in (m d b v : Int) (hb : 2 ≤ b) (_hd : 0 ≤ d) (hd2 : d < b) (_hv : 0 ≤ v) (hm : 16 ≤ m) (hb2 : b ≤ 16) (h : ¬ (m - d) / b < cut m v) :
    v ≤ m ∧ cut m v = v ∧ v * b + d ≤ m ∧ cut m (v * b + d) = v * b + d ∧ ovr m (v * b + d) = false ∧ ovr m v = false := by
  have h' : cut m v * b ≤ m - d := by have := (quo_lt m d b (cut m v) (by omega)); omega
  have hvm : v ≤ m := by
    by_cases hc : v ≤ m
    · exact hc
    · unfold cut at h'
      rw [if_neg hc] at h'
      have : m * 2 ≤ m * b := Int.mul_le_mul_of_nonneg_left (by omega) (by omega)
      omega
  have hcut : cut m v = v := by unfold cut; rw [if_pos hvm]
  rw [hcut] at h'
  refine ⟨hvm, hcut, by omega, by unfold cut; rw [if_pos (by omega)], ?_, ?_⟩
  · unfold ovr; simp; omega
  · unfold ovr; simp; omega

/-- What Digits tells, and Whole's reading: the value, brought to the most; how many; too great. -/
def dig? (b : Int) (c : Int) : Bool := decide (dgt c < b)
def rN (b : Int) (l : List Int) : Nat := pre (dig? b) l
def rV (b m : Int) (l : List Int) : Int := cut m (valK b l (rN b l))
def rO (b m : Int) (l : List Int) : Bool := ovr m (valK b l (rN b l))

/-- What begins a name, what goes on with it. -/
def letB (c : Int) : Bool := decide ((97 ≤ c ∧ c ≤ 122) ∨ (65 ≤ c ∧ c ≤ 90) ∨ c = 95)
def numB (c : Int) : Bool := decide (48 ≤ c ∧ c ≤ 57)
end Go.Proofs.YtacfglopionkfaaGreatDoor
