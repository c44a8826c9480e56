/- Plain facts on words of 64 bits: their bits, their masks, how many are set. No program. -/
import Derived.WalkKit
import Derived.Laws.BitsAllLaws
namespace Go.Proofs.YtoodpajbefffhaaDoor

/-- The number that bits write, the least first. -/
def val2 : List Bool → Nat
  | [] => 0
  | b :: r => b.toNat + 2 * val2 r
theorem val2_testBit : ∀ (l : List Bool) (j : Nat), (val2 l).testBit j = l.getD j false
  | [], j => by simp [val2]
  | b :: r, 0 => by cases b <;> simp [val2, Nat.testBit_zero] <;> omega
  | b :: r, j + 1 => by
    rw [Nat.testBit_succ]
    have : (val2 (b :: r)) / 2 = val2 r := by
      show (b.toNat + 2 * val2 r) / 2 = val2 r
      cases b <;> simp <;> omega
    rw [this, val2_testBit r j]
    simp
theorem val2_lt : ∀ l : List Bool, val2 l < 2 ^ l.length
  | [] => by simp [val2]
  | b :: r => by
    have := val2_lt r
    simp only [val2, List.length_cons, Nat.pow_succ]
    cases b <;> simp <;> omega

/-- A word by its bits. -/
def wd (q : Nat → Bool) : Nat := val2 ((List.range 64).map q)
theorem wd_testBit (q : Nat → Bool) (j : Nat) : (wd q).testBit j = (decide (j < 64) && q j) := by
  unfold wd
  rw [val2_testBit]
  by_cases h : j < 64
  · simp [List.getD, h]
  · simp [List.getD, h]
theorem wd_lt (q : Nat → Bool) : wd q < 18446744073709551616 := by
  have := val2_lt ((List.range 64).map q)
  rw [List.length_map, List.length_range] at this
  exact this
theorem wd_cnt (q : Nat → Bool) : wd q = val2 ((List.range 64).map q) := rfl
attribute [irreducible] wd
theorem wd_of {n : Nat} {q : Nat → Bool} (hn : n < 18446744073709551616) (h : ∀ j, j < 64 → n.testBit j = q j) : n = wd q := by
  apply Nat.eq_of_testBit_eq
  intro j
  rw [wd_testBit]
  by_cases hj : j < 64
  · simp [hj, h j hj]
  · simp only [hj, decide_false, Bool.false_and]
    exact Nat.testBit_lt_two_pow (Nat.lt_of_lt_of_le hn (Nat.pow_le_pow_right (n := 2) (by decide) (by omega : 64 ≤ j)))
theorem wd_congr {q r : Nat → Bool} (h : ∀ j, j < 64 → q j = r j) : wd q = wd r :=
  wd_of (wd_lt q) fun j hj => by rw [wd_testBit]; simp [hj, h j hj]
theorem wd_or (q r : Nat → Bool) : bits .or .u64 (wd q : Int) (wd r : Int) = (wd fun j => q j || r j : Nat) := by
  rw [u64_or_nat _ _ (wd_lt q) (wd_lt r)]
  refine congrArg (Nat.cast (R := Int)) (wd_of (Nat.or_lt_two_pow (n := 64) (wd_lt q) (wd_lt r)) fun j hj => ?_)
  simp [wd_testBit, hj]
theorem wd_and (q r : Nat → Bool) : bits .and .u64 (wd q : Int) (wd r : Int) = (wd fun j => q j && r j : Nat) := by
  rw [u64_and_nat _ _ (wd_lt q) (wd_lt r)]
  refine congrArg (Nat.cast (R := Int)) (wd_of (Nat.and_lt_two_pow (n := 64) _ (wd_lt r)) fun j hj => ?_)
  simp [wd_testBit, hj]
theorem wd_full : wd (fun _ => true) = 18446744073709551615 := by unfold wd; kernel_rfl
theorem full_sub (r : Nat → Bool) : 18446744073709551615 - wd r = wd fun j => !r j := by
  refine wd_of (by omega) fun j hj => ?_
  have h := Nat.testBit_two_pow_sub_succ (n := 64) (wd_lt r) j
  rw [show 18446744073709551615 - wd r = 2 ^ 64 - (wd r + 1) by omega, h, wd_testBit]
  simp [hj]
theorem wd_andNot (q r : Nat → Bool) : bits .andNot .u64 (wd q : Int) (wd r : Int) = (wd fun j => q j && !r j : Nat) := by
  rw [u64_andNot_nat _ _ (wd_lt q) (wd_lt r), full_sub]
  refine congrArg (Nat.cast (R := Int)) (wd_of (Nat.and_lt_two_pow (n := 64) _ (wd_lt _)) fun j hj => ?_)
  simp [wd_testBit, hj]
theorem wd_not (q : Nat → Bool) : bits .xor .u64 18446744073709551615 (wd q : Int) = (wd fun j => !q j : Nat) := by
  have := u64_xor_nat (wd fun _ => true) (wd q) (wd_lt _) (wd_lt q)
  rw [wd_full] at this
  rw [show (18446744073709551615 : Int) = ((18446744073709551615 : Nat) : Int) from rfl, this, ← wd_full]
  refine congrArg (Nat.cast (R := Int)) (wd_of (Nat.xor_lt_two_pow (n := 64) (wd_lt _) (wd_lt _)) fun j hj => ?_)
  simp [wd_testBit, hj]
theorem wd_one (k : Nat) (hk : k < 64) : 2 ^ k = wd fun j => j == k :=
  wd_of (Nat.pow_lt_pow_right (a := 2) (n := 64) (by decide) hk) fun j _ => by
    rw [Nat.testBit_two_pow]
    by_cases h : k = j <;> simp [h]
    omega
theorem wd_zero : 0 = wd fun _ => false := wd_of (by decide) fun j _ => by simp
theorem wd_below (k : Nat) (hk : k ≤ 64) : 2 ^ k - 1 = wd fun j => decide (j < k) :=
  wd_of (by have : 2 ^ k ≤ 2 ^ 64 := Nat.pow_le_pow_right (by decide) hk
            omega) fun j _ => by rw [Nat.testBit_two_pow_sub_one]
theorem wd_bit (q : Nat → Bool) (k : Nat) (hk : k < 64) : wd q / 2 ^ k % 2 = (q k).toNat := by
  have h := wd_testBit q k
  rw [Nat.testBit_eq_decide_div_mod_eq] at h
  simp only [hk, decide_true, Bool.true_and] at h
  have h2 : wd q / 2 ^ k % 2 < 2 := Nat.mod_lt _ (by decide)
  cases hq : q k
  · rw [hq] at h; have := of_decide_eq_false h; simp; omega
  · rw [hq] at h; have := of_decide_eq_true h; simp [this]

/-- How many of the bits are set. -/
def cntB (l : List Bool) : Nat := l.countP (· == true)
def vlB (B : Nat) : List Nat → Nat
  | [] => 0
  | a :: r => a + B * vlB B r
/-- Neighbours taken together. -/
def pr : List Nat → List Nat
  | a :: b :: r => (a + b) :: pr r
  | l => l
def mask (k : Nat) : Nat → Nat
  | 0 => 0
  | n + 1 => (2 ^ k - 1) + 2 ^ k * (2 ^ k * mask k n)
theorem and_parts (k a h c g : Nat) (ha : a < 2 ^ k) (hc : c < 2 ^ k) : (a + 2 ^ k * h) &&& (c + 2 ^ k * g) = (a &&& c) + 2 ^ k * (h &&& g) := by
  have hac : a &&& c < 2 ^ k := Nat.and_lt_two_pow _ hc
  apply Nat.eq_of_testBit_eq
  intro j
  rw [Nat.add_comm a, Nat.add_comm c, Nat.add_comm (a &&& c), Nat.testBit_and, Nat.testBit_two_pow_mul_add _ ha, Nat.testBit_two_pow_mul_add _ hc, Nat.testBit_two_pow_mul_add _ hac]
  split <;> simp
theorem and_low (k a : Nat) (ha : a < 2 ^ k) : a &&& (2 ^ k - 1) = a := by rw [Nat.and_two_pow_sub_one_eq_mod]; exact Nat.mod_eq_of_lt ha
theorem even_mask (k : Nat) : ∀ (n : Nat) (d : List Nat), d.length = 2 * n → (∀ x ∈ d, x < 2 ^ k) →
    (vlB (2 ^ k) d &&& mask k n) + (vlB (2 ^ k) d / 2 ^ k &&& mask k n) = vlB (2 ^ k * 2 ^ k) (pr d)
  | 0, d, hl, _ => by
    have : d = [] := List.eq_nil_of_length_eq_zero (by omega)
    subst this
    simp [mask, vlB, pr]
  | n + 1, d, hl, hd => by
    obtain ⟨a, b, r, rfl⟩ : ∃ a b r, d = a :: b :: r := by
      match d, hl with
      | a :: b :: r, _ => exact ⟨a, b, r, rfl⟩
      | [_], h => simp at h; omega
    have ha : a < 2 ^ k := hd a (by simp)
    have hb : b < 2 ^ k := hd b (by simp)
    have ih := even_mask k n r (by simp at hl; omega) (fun x hx => hd x (by simp [hx]))
    have hp : 0 < 2 ^ k := Nat.two_pow_pos k
    simp only [vlB, pr, mask]
    have e1 : (a + 2 ^ k * (b + 2 ^ k * vlB (2 ^ k) r)) / 2 ^ k = b + 2 ^ k * vlB (2 ^ k) r := by
      rw [Nat.add_mul_div_left _ _ hp, Nat.div_eq_of_lt ha, Nat.zero_add]
    rw [e1, and_parts k a _ _ _ ha (by omega), and_parts k b _ _ _ hb (by omega), and_low k a ha, and_low k b hb]
    have e2 := and_parts k b (vlB (2 ^ k) r) 0 (mask k n) hb hp
    simp only [Nat.zero_add, Nat.and_zero] at e2
    rw [e2]
    rcases r with _ | ⟨c, r⟩
    · have hn : n = 0 := by simp at hl; omega
      subst hn
      simp [vlB, pr, mask]
    · have e3 : (vlB (2 ^ k) (c :: r)) &&& (2 ^ k * mask k n) = 2 ^ k * (vlB (2 ^ k) (c :: r) / 2 ^ k &&& mask k n) := by
        have hc : c < 2 ^ k := hd c (by simp)
        have := and_parts k c (vlB (2 ^ k) r) 0 (mask k n) hc hp
        simp only [Nat.zero_add, Nat.and_zero] at this
        have e4 : vlB (2 ^ k) (c :: r) / 2 ^ k = vlB (2 ^ k) r := by
          simp only [vlB]
          rw [Nat.add_mul_div_left _ _ hp, Nat.div_eq_of_lt hc, Nat.zero_add]
        rw [e4]
        exact this
      rw [e3, ← ih, Nat.mul_add, Nat.mul_assoc, Nat.mul_assoc]
      omega
theorem third_mask : ∀ (n : Nat) (d : List Nat), d.length = 2 * n → (∀ x ∈ d, x ≤ 4) →
    (vlB 16 d / 16 + vlB 16 d) &&& mask 4 n = vlB 256 (pr d)
  | 0, d, hl, _ => by
    have : d = [] := List.eq_nil_of_length_eq_zero (by omega)
    subst this
    simp [mask, vlB, pr]
  | n + 1, d, hl, hd => by
    obtain ⟨a, b, r, rfl⟩ : ∃ a b r, d = a :: b :: r := by
      match d, hl with
      | a :: b :: r, _ => exact ⟨a, b, r, rfl⟩
      | [_], h => simp at h; omega
    have ha : a ≤ 4 := hd a (by simp)
    have hb : b ≤ 4 := hd b (by simp)
    have hr : vlB 16 r % 16 ≤ 4 := by
      rcases r with _ | ⟨c, r⟩
      · simp [vlB]
      · have : c ≤ 4 := hd c (by simp)
        simp only [vlB]
        omega
    have ih := third_mask n r (by simp at hl; omega) (fun x hx => hd x (by simp [hx]))
    simp only [vlB, pr, mask]
    have e : (a + 16 * (b + 16 * vlB 16 r)) / 16 + (a + 16 * (b + 16 * vlB 16 r)) = (a + b) + 2 ^ 4 * ((b + vlB 16 r % 16) + 2 ^ 4 * (vlB 16 r / 16 + vlB 16 r)) := by omega
    rw [e, and_parts 4 _ _ _ _ (by omega) (by omega), and_low 4 _ (by omega)]
    have e2 := and_parts 4 (b + vlB 16 r % 16) (vlB 16 r / 16 + vlB 16 r) 0 (mask 4 n) (by omega) (by omega)
    simp only [Nat.zero_add, Nat.and_zero] at e2
    rw [e2, ih]
    omega
theorem pr_len : ∀ (n : Nat) (d : List Nat), d.length = 2 * n → (pr d).length = n
  | 0, d, h => by
    have : d = [] := List.eq_nil_of_length_eq_zero (by omega)
    subst this; rfl
  | n + 1, a :: b :: r, h => by simp only [pr, List.length_cons]; rw [pr_len n r (by simp at h; omega)]
  | n + 1, [_], h => by simp at h; omega
  | n + 1, [], h => by simp at h
theorem pr_le (m : Nat) : ∀ (n : Nat) (d : List Nat), d.length = 2 * n → (∀ x ∈ d, x ≤ m) → ∀ x ∈ pr d, x ≤ 2 * m
  | 0, d, h, _ => by
    have : d = [] := List.eq_nil_of_length_eq_zero (by omega)
    subst this; simp [pr]
  | n + 1, a :: b :: r, h, hd => by
    intro x hx
    have ha := hd a (by simp)
    have hb := hd b (by simp)
    simp only [pr, List.mem_cons] at hx
    rcases hx with rfl | hx
    · omega
    · exact pr_le m n r (by simp at h; omega) (fun x hx => hd x (by simp [hx])) x hx
  | n + 1, [_], h, _ => by simp at h; omega
  | n + 1, [], h, _ => by simp at h
theorem pr_sum : ∀ (n : Nat) (d : List Nat), d.length = 2 * n → (pr d).sum = d.sum
  | 0, d, h => by
    have : d = [] := List.eq_nil_of_length_eq_zero (by omega)
    subst this; rfl
  | n + 1, a :: b :: r, h => by
    simp only [pr, List.sum_cons]
    rw [pr_sum n r (by simp at h; omega)]
    omega
  | n + 1, [_], h => by simp at h; omega
  | n + 1, [], h => by simp at h
theorem val2_val : ∀ l : List Bool, val2 l = vlB 2 (l.map Bool.toNat)
  | [] => rfl
  | b :: r => by simp [val2, vlB, val2_val r]
theorem sum_cnt : ∀ l : List Bool, (l.map Bool.toNat).sum = cntB l
  | [] => rfl
  | b :: r => by
    have := sum_cnt r
    unfold cntB at *
    cases b <;> simp [this, Nat.add_comm]
/-- Words of small digits. -/
theorem val_le4 : ∀ d : List Nat, (∀ x ∈ d, x ≤ 2) → 3 * vlB 4 d + 2 ≤ 2 * 4 ^ d.length
  | [], _ => by simp [vlB]
  | a :: r, h => by
    have ha := h a (by simp)
    have ih := val_le4 r (fun x hx => h x (by simp [hx]))
    simp only [vlB, List.length_cons, Nat.pow_succ]
    omega
theorem val_le16 : ∀ d : List Nat, (∀ x ∈ d, x ≤ 4) → 15 * vlB 16 d + 4 ≤ 4 * 16 ^ d.length
  | [], _ => by simp [vlB]
  | a :: r, h => by
    have ha := h a (by simp)
    have ih := val_le16 r (fun x hx => h x (by simp [hx]))
    simp only [vlB, List.length_cons, Nat.pow_succ]
    omega
theorem eight (d : List Nat) (h : d.length = 8) : ∃ a b c e f g i j, d = [a, b, c, e, f, g, i, j] := by
  match d, h with
  | [a, b, c, e, f, g, i, j], _ => exact ⟨a, b, c, e, f, g, i, j, rfl⟩

theorem val8 (a0 a1 a2 a3 a4 a5 a6 a7 : Nat) : vlB 256 [a0, a1, a2, a3, a4, a5, a6, a7] = a0 + 256 * a1 + 65536 * a2 + 16777216 * a3 + 4294967296 * (a4 + 256 * a5 + 65536 * a6 + 16777216 * a7) := by
  simp only [vlB]
  omega
theorem sum8 (a0 a1 a2 a3 a4 a5 a6 a7 : Nat) : [a0, a1, a2, a3, a4, a5, a6, a7].sum = a0 + a1 + a2 + a3 + a4 + a5 + a6 + a7 := by
  simp only [List.sum_cons, List.sum_nil]
  omega
theorem cut_at {x lo hi B : Nat} (h : x = lo + B * hi) (hl : lo < B) : x / B = hi := by
  rw [h, Nat.add_mul_div_left _ _ (by omega), Nat.div_eq_of_lt hl, Nat.zero_add]
theorem oc_end (a0 a1 a2 a3 a4 a5 a6 a7 x : Nat) (g0 : a0 ≤ 8) (g1 : a1 ≤ 8) (g2 : a2 ≤ 8) (g3 : a3 ≤ 8) (g4 : a4 ≤ 8) (g5 : a5 ≤ 8) (g6 : a6 ≤ 8) (g7 : a7 ≤ 8)
    (hx : x = a0 + 256 * a1 + 65536 * a2 + 16777216 * a3 + 4294967296 * (a4 + 256 * a5 + 65536 * a6 + 16777216 * a7)) :
    (x + x / 256) + (x + x / 256) / 65536 < 1152921504606846976 ∧ x < 1152921504606846976 ∧
      (((x + x / 256) + (x + x / 256) / 65536) + ((x + x / 256) + (x + x / 256) / 65536) / 4294967296) % 128 = a0 + a1 + a2 + a3 + a4 + a5 + a6 + a7 := by
  have h1 : x / 256 = a1 + 256 * a2 + 65536 * a3 + 16777216 * a4 + 4294967296 * (a5 + 256 * a6 + 65536 * a7) := cut_at (lo := a0) (by omega) (by omega)
  rw [h1]
  clear h1
  have h2 : (x + (a1 + 256 * a2 + 65536 * a3 + 16777216 * a4 + 4294967296 * (a5 + 256 * a6 + 65536 * a7))) / 65536 = (a2 + a3) + 256 * (a3 + a4) + 65536 * (a4 + a5) + 16777216 * (a5 + a6) + 4294967296 * ((a6 + a7) + 256 * a7) :=
    cut_at (lo := (a0 + a1) + 256 * (a1 + a2)) (by omega) (by omega)
  rw [h2]
  clear h2
  have h3 : (x + (a1 + 256 * a2 + 65536 * a3 + 16777216 * a4 + 4294967296 * (a5 + 256 * a6 + 65536 * a7)) + ((a2 + a3) + 256 * (a3 + a4) + 65536 * (a4 + a5) + 16777216 * (a5 + a6) + 4294967296 * ((a6 + a7) + 256 * a7))) / 4294967296
      = (a4 + a5 + a6 + a7) + 256 * (a5 + a6 + a7) + 65536 * (a6 + a7) + 16777216 * a7 :=
    cut_at (lo := (a0 + a1 + a2 + a3) + 256 * (a1 + a2 + a3 + a4) + 65536 * (a2 + a3 + a4 + a5) + 16777216 * (a3 + a4 + a5 + a6)) (by omega) (by omega)
  rw [h3]
  clear h3
  refine ⟨by omega, by omega, ?_⟩
  have e : x + (a1 + 256 * a2 + 65536 * a3 + 16777216 * a4 + 4294967296 * (a5 + 256 * a6 + 65536 * a7)) + ((a2 + a3) + 256 * (a3 + a4) + 65536 * (a4 + a5) + 16777216 * (a5 + a6) + 4294967296 * ((a6 + a7) + 256 * a7)) + ((a4 + a5 + a6 + a7) + 256 * (a5 + a6 + a7) + 65536 * (a6 + a7) + 16777216 * a7)
      = (a0 + a1 + a2 + a3 + a4 + a5 + a6 + a7) + 128 * (2 * (a1 + a2 + a3 + a4 + a5 + a6 + a7) + 512 * (a2 + a3 + a4 + a5 + a6 + a7) + 131072 * (a3 + a4 + a5 + a6 + a7) + 33554432 * (a4 + a5 + a6 + a7) + 8589934592 * (a5 + a6 + a7) + 2199023255552 * (a6 + a7) + 562949953421312 * a7) := by omega
  rw [e, Nat.add_mul_mod_self_left]
  clear e hx
  exact Nat.mod_eq_of_lt (by omega)

/-- The steps of the count. -/
def oc1 (x : Nat) : Nat := (x &&& 6148914691236517205) + (x / 2 &&& 6148914691236517205)
def oc2 (x : Nat) : Nat := (x &&& 3689348814741910323) + (x / 4 &&& 3689348814741910323)
def oc3 (x : Nat) : Nat := (x / 16 + x) &&& 1085102592571150095
def oc4 (x : Nat) : Nat := (x + x / 256) + (x + x / 256) / 65536
theorem oc_all (l : List Bool) (hl : l.length = 64) :
    oc1 (val2 l) < 18446744073709551616 ∧ oc2 (oc1 (val2 l)) < 9223372036854775808 ∧ oc4 (oc3 (oc2 (oc1 (val2 l)))) < 1152921504606846976 ∧ oc3 (oc2 (oc1 (val2 l))) < 1152921504606846976 ∧
      (oc4 (oc3 (oc2 (oc1 (val2 l)))) + oc4 (oc3 (oc2 (oc1 (val2 l)))) / 4294967296) % 128 = cntB l := by
  have hb0 : ∀ x ∈ l.map Bool.toNat, x ≤ 1 := by
    intro x hx
    obtain ⟨b, _, rfl⟩ := List.mem_map.1 hx
    cases b <;> simp
  have hL0 : (l.map Bool.toNat).length = 2 * 32 := by simp [hl]
  have m1 : mask 1 32 = 6148914691236517205 := by kernel_rfl
  have m2 : mask 2 16 = 3689348814741910323 := by kernel_rfl
  have m3 : mask 4 8 = 1085102592571150095 := by kernel_rfl
  have s1 := even_mask 1 32 _ hL0 (fun x hx => by have := hb0 x hx; omega)
  have e1 : oc1 (val2 l) = vlB 4 (pr (l.map Bool.toNat)) := by rw [m1] at s1; unfold oc1; rw [val2_val]; exact s1
  have hL1 : (pr (l.map Bool.toNat)).length = 2 * 16 := pr_len 32 _ hL0
  have hb1 := pr_le 1 32 _ hL0 hb0
  have s2 := even_mask 2 16 _ hL1 (fun x hx => by have := hb1 x hx; omega)
  have e2 : oc2 (oc1 (val2 l)) = vlB 16 (pr (pr (l.map Bool.toNat))) := by rw [m2] at s2; unfold oc2; rw [e1]; exact s2
  have hL2 : (pr (pr (l.map Bool.toNat))).length = 2 * 8 := pr_len 16 _ hL1
  have hb2 := pr_le 2 16 _ hL1 hb1
  have s3 := third_mask 8 _ hL2 hb2
  have e3 : oc3 (oc2 (oc1 (val2 l))) = vlB 256 (pr (pr (pr (l.map Bool.toNat)))) := by rw [m3] at s3; unfold oc3; rw [e2]; exact s3
  have hL3 : (pr (pr (pr (l.map Bool.toNat)))).length = 8 := pr_len 8 _ hL2
  have hb3 := pr_le 4 8 _ hL2 hb2
  have hsum : (pr (pr (pr (l.map Bool.toNat)))).sum = cntB l := by rw [pr_sum 8 _ hL2, pr_sum 16 _ hL1, pr_sum 32 _ hL0, sum_cnt]
  have b1 := val_le4 _ hb1
  have b2 := val_le16 _ hb2
  rw [hL1] at b1
  rw [hL2] at b2
  refine ⟨by rw [e1]; omega, by rw [e2]; omega, ?_⟩
  rw [e3]
  obtain ⟨a0, a1, a2, a3, a4, a5, a6, a7, hd⟩ := eight _ hL3
  rw [hd] at hb3 hsum ⊢
  have g0 : a0 ≤ 8 := hb3 a0 (by simp)
  have g1 : a1 ≤ 8 := hb3 a1 (by simp)
  have g2 : a2 ≤ 8 := hb3 a2 (by simp)
  have g3 : a3 ≤ 8 := hb3 a3 (by simp)
  have g4 : a4 ≤ 8 := hb3 a4 (by simp)
  have g5 : a5 ≤ 8 := hb3 a5 (by simp)
  have g6 : a6 ≤ 8 := hb3 a6 (by simp)
  have g7 : a7 ≤ 8 := hb3 a7 (by simp)
  rw [sum8] at hsum
  unfold oc4
  have hh := oc_end a0 a1 a2 a3 a4 a5 a6 a7 _ g0 g1 g2 g3 g4 g5 g6 g7 (val8 a0 a1 a2 a3 a4 a5 a6 a7)
  rw [hsum] at hh
  generalize vlB 256 [a0, a1, a2, a3, a4, a5, a6, a7] = V at hh ⊢
  exact hh
end Go.Proofs.YtoodpajbefffhaaDoor
