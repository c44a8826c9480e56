/- The runs of a set, as a text (pure). -/
import Derived.Test.YthmgcebonplcgaaGreatDoorSeCtz
import Derived.Test.YthmgcebonplcgaaGreatDoorKSy
import Derived.Test.YthmgcebonplcgaaGreatDoorKSm
import Derived.Test.YthmgcebonplcgaaGreatDoorScConv
import Derived.Lib.Join
namespace Go.Proofs.YthmgcebonplcgaaGreatDoor
open Go.RowKit

/-- The first byte from k on that is in p; 256, if there is none. -/
def fstN (p : Nat → Bool) : Nat → Nat → Nat
  | 0, k => k
  | n + 1, k => if p k then k else fstN p n (k + 1)
def fst (p : Nat → Bool) (k : Nat) : Nat := fstN p (256 - k) k
theorem fstN_facts (p : Nat → Bool) : ∀ n k, k ≤ fstN p n k ∧ fstN p n k ≤ k + n ∧ (fstN p n k < k + n → p (fstN p n k) = true) ∧ ∀ j, k ≤ j → j < fstN p n k → p j = false
  | 0, k => ⟨Nat.le_refl _, Nat.le_refl _, fun h => absurd h (Nat.lt_irrefl _), fun j h1 h2 => absurd h2 (Nat.not_lt.2 h1)⟩
  | n + 1, k => by
    unfold fstN
    by_cases hp : p k = true
    · rw [if_pos hp]
      exact ⟨Nat.le_refl _, by omega, fun _ => hp, fun j h1 h2 => by omega⟩
    · rw [if_neg hp]
      obtain ⟨h1, h2, h3, h4⟩ := fstN_facts p n (k + 1)
      refine ⟨by omega, by omega, fun h => h3 (by omega), fun j hj hj2 => ?_⟩
      by_cases hjk : j = k
      · subst hjk; simpa using hp
      · exact h4 j (by omega) hj2
theorem fst_ge (p : Nat → Bool) (k : Nat) : k ≤ fst p k := (fstN_facts p _ k).1
theorem fst_le (p : Nat → Bool) (k : Nat) (hk : k ≤ 256) : fst p k ≤ 256 := by have := (fstN_facts p (256 - k) k).2.1; unfold fst; omega
theorem fst_hit (p : Nat → Bool) (k : Nat) (hk : k ≤ 256) (h : fst p k < 256) : p (fst p k) = true := (fstN_facts p (256 - k) k).2.2.1 (by unfold fst at h; omega)
theorem fst_miss (p : Nat → Bool) (k j : Nat) (h1 : k ≤ j) (h2 : j < fst p k) : p j = false := (fstN_facts p (256 - k) k).2.2.2 j h1 h2
/-- It is the only such place. -/
theorem fst_uniq (p : Nat → Bool) (k m : Nat) (h1 : k ≤ m) (h2 : m ≤ 256) (h3 : ∀ j, k ≤ j → j < m → p j = false) (h4 : m < 256 → p m = true) : fst p k = m := by
  have hle := fst_le p k (by omega)
  have hge := fst_ge p k
  rcases Nat.lt_trichotomy (fst p k) m with h | h | h
  · have := fst_hit p k (by omega) (by omega)
    rw [h3 _ hge h] at this
    cases this
  · exact h
  · have := fst_miss p k m h1 h
    rw [h4 (by omega)] at this
    cases this

/-- A byte as two digits. -/
def hxd (d : Nat) : UInt8 := UInt8.ofNat (dch d).toNat
def hex2 (b : Nat) : List UInt8 := [hxd (b / 16), hxd (b % 16)]
/-- A run from low up to (but not with) e. -/
def runT (lo e : Nat) : List UInt8 := hex2 lo ++ (if lo + 1 < e then 45 :: hex2 (e - 1) else [])
/-- The runs from k on. -/
def runsN (p : Nat → Bool) : Nat → Nat → List (List UInt8)
  | 0, _ => []
  | n + 1, k => if fst p k < 256 then runT (fst p k) (fst (notP p) (fst p k)) :: runsN p n (fst (notP p) (fst p k)) else []
def runs (p : Nat → Bool) : List (List UInt8) := runsN p 257 0
def textL (p : Nat → Bool) : List UInt8 := 91 :: (Lib.join (runs p) [44] ++ [93])
def textS (p : Nat → Bool) : ByteArray := ⟨(textL p).toArray⟩

theorem end_gt (p : Nat → Bool) (lo : Nat) (h : lo < 256) (hp : p lo = true) : lo < fst (notP p) lo := by
  have h1 := fst_ge (notP p) lo
  rcases Nat.lt_or_ge lo (fst (notP p) lo) with h2 | h2
  · exact h2
  · have e : fst (notP p) lo = lo := by omega
    have := fst_hit (notP p) lo (by omega) (by omega)
    rw [e] at this
    simp [notP, hp] at this
/-- With fuel enough it makes no difference how much. -/
theorem runsN_fuel (p : Nat → Bool) : ∀ n m k, k ≤ 256 → 256 - k < n → 256 - k < m → runsN p n k = runsN p m k
  | 0, _, _, _, h, _ => absurd h (by omega)
  | _ + 1, 0, _, _, _, h => absurd h (by omega)
  | n + 1, m + 1, k, hk, h1, h2 => by
    unfold runsN
    by_cases hl : fst p k < 256
    · rw [if_pos hl, if_pos hl]
      have hge := fst_ge p k
      have hgt := end_gt p _ hl (fst_hit p k hk hl)
      rw [runsN_fuel p n m _ (fst_le (notP p) _ (by omega)) (by omega) (by omega)]
    · rw [if_neg hl, if_neg hl]
theorem runsN_step (p : Nat → Bool) (k : Nat) (hk : k ≤ 256) (hl : fst p k < 256) : runsN p 257 k = runT (fst p k) (fst (notP p) (fst p k)) :: runsN p 257 (fst (notP p) (fst p k)) := by
  have hge := fst_ge p k
  have hgt := end_gt p _ hl (fst_hit p k hk hl)
  conv => lhs; unfold runsN
  rw [if_pos hl, runsN_fuel p 256 257 _ (fst_le (notP p) _ (by omega)) (by omega) (by omega)]
theorem runsN_end (p : Nat → Bool) (k : Nat) (hl : ¬ fst p k < 256) : runsN p 257 k = [] := by
  unfold runsN
  rw [if_neg hl]
/-- What of p is left from k on. -/
def fromK (p : Nat → Bool) (k c : Nat) : Bool := p c && decide (k ≤ c)
theorem fst_from (p : Nat → Bool) (k : Nat) (hk : k ≤ 256) : fst (fromK p k) 0 = fst p k := by
  have hge := fst_ge p k
  refine fst_uniq _ _ _ (Nat.zero_le _) (fst_le p k hk) (fun j _ hj => ?_) (fun h => ?_)
  · unfold fromK
    by_cases hkj : k ≤ j
    · rw [fst_miss p k j hkj hj]; rfl
    · simp [hkj]
  · unfold fromK
    rw [fst_hit p k hk h]
    simpa using hge
/-- The end of the run that begins at low. -/
theorem fst_end (p : Nat → Bool) (k lo : Nat) (h1 : k ≤ lo) (h2 : lo ≤ 256) : fst (fun c => !(fromK p k c) && !(decide (c < lo))) 0 = fst (notP p) lo := by
  have hge := fst_ge (notP p) lo
  refine fst_uniq _ _ _ (Nat.zero_le _) (fst_le _ lo h2) (fun j _ hj => ?_) (fun h => ?_)
  · by_cases hlj : lo ≤ j
    · have := fst_miss (notP p) lo j hlj hj
      simp only [notP, Bool.not_eq_false'] at this
      simp [fromK, this]
      omega
    · simp
      omega
  · have := fst_hit (notP p) lo h2 h
    simp only [notP, Bool.not_eq_true'] at this
    simp [fromK, this]
    omega
theorem from_next (p : Nat → Bool) (k e : Nat) (h : k ≤ e) : ∀ c, c < 256 → (fromK p k c && !(decide (c < e))) = fromK p e c := fun c _ => by
  unfold fromK
  cases p c
  · simp
  · rw [Bool.eq_iff_iff]
    simp
    omega
theorem fst_none (p : Nat → Bool) (k : Nat) (hk : k ≤ 256) : ¬ fst p k < 256 ↔ ∀ c, c < 256 → fromK p k c = false := by
  constructor
  · intro h c hc
    unfold fromK
    by_cases hkc : k ≤ c
    · rw [fst_miss p k c hkc (by omega)]; rfl
    · simp [hkc]
  · intro h hl
    have := h _ hl
    unfold fromK at this
    rw [fst_hit p k hk hl] at this
    have hge := fst_ge p k
    simp at this
    omega
theorem hex2_len (b : Nat) : (hex2 b).length = 2 := rfl
theorem runT_len (lo e : Nat) : (runT lo e).length ≤ 5 := by
  unfold runT
  rw [List.length_append, hex2_len]
  split
  · rw [List.length_cons, hex2_len]; omega
  · simp
theorem runsN_len (p : Nat → Bool) : ∀ n k, k ≤ 256 → (runsN p n k).length + k ≤ 256 ∧ ∀ x ∈ runsN p n k, x.length ≤ 5
  | 0, k, hk => ⟨by simp [runsN]; omega, fun x hx => by simp [runsN] at hx⟩
  | n + 1, k, hk => by
    unfold runsN
    by_cases hl : fst p k < 256
    · rw [if_pos hl]
      have hge := fst_ge p k
      have hgt := end_gt p _ hl (fst_hit p k hk hl)
      have hle := fst_le (notP p) (fst p k) (by omega)
      have ih := runsN_len p n _ hle
      refine ⟨?_, fun x hx => ?_⟩
      · rw [List.length_cons]
        have := ih.1
        omega
      · rcases List.mem_cons.1 hx with h | h
        · subst h; exact runT_len _ _
        · exact ih.2 x h
    · rw [if_neg hl]
      exact ⟨by simp; omega, fun x hx => by simp at hx⟩
theorem lens_le : ∀ (l : List (List UInt8)) (b : Nat), (∀ x ∈ l, x.length ≤ b) → Lib.lens l ≤ b * l.length
  | [], b, _ => by simp [Lib.lens]
  | x :: l, b, h => by
    have h1 := h x (by simp)
    have h2 := lens_le l b (fun y hy => h y (by simp [hy]))
    unfold Lib.lens at *
    simp only [List.map_cons, List.sum_cons, List.length_cons, Nat.mul_add, Nat.mul_one]
    omega
theorem runs_len (p : Nat → Bool) : (runs p).length ≤ 256 ∧ (Lib.join (runs p) [44]).length ≤ 1536 := by
  obtain ⟨h1, h2⟩ := runsN_len p 257 0 (by omega)
  have h3 := lens_le (runs p) 5 h2
  refine ⟨by unfold runs; omega, ?_⟩
  have hl : (runs p).length ≤ 256 := by unfold runs; omega
  cases hr : runs p with
  | nil => rw [Lib.join_nil]; simp
  | cons x r =>
    rw [hr] at h3 hl
    rw [Lib.join_length]
    simp only [List.length_cons, List.length_nil] at *
    omega
theorem textL_len (p : Nat → Bool) : (textL p).length ≤ 1538 := by
  have := (runs_len p).2
  unfold textL
  simp only [List.length_cons, List.length_append, List.length_nil]
  omega
end Go.Proofs.YthmgcebonplcgaaGreatDoor
