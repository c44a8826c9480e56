/- The law's own writing of a number, by contract. -/
import Derived.Test.YtnpjbpchnkobnaaDoorScBack
namespace Go.Proofs.YtnpjbpchnkobnaaDoor
open Go.RowKit

/-- A digit's byte, in small or great letters. -/
def chr (up : Bool) (d : Nat) : Int := if up then upB (dch d) else dch d
theorem baseL_snoc (b q : Nat) (up : Bool) (hb : 2 ≤ b) : baseL b q up = (if q / b = 0 then [] else baseL b (q / b) up) ++ [chr up (q % b)] := by
  by_cases hq : q < b
  · have h0 : q / b = 0 := Nat.div_eq_of_lt hq
    rw [if_pos h0, Nat.mod_eq_of_lt hq]
    unfold baseL chr
    rw [digs_small _ _ hq]
    cases up <;> simp
  · have h0 : q / b ≠ 0 := by
      have : 1 ≤ q / b := (Nat.le_div_iff_mul_le (by omega)).2 (by omega)
      omega
    rw [if_neg h0]
    unfold baseL chr
    rw [digs_step b q hb (by omega)]
    cases up <;> simp

theorem bys_app (s t : ByteArray) : bys (s ++ t) = bys s ++ bys t := by
  unfold bys
  rw [show (s ++ t).data = s.data ++ t.data from ByteArray.data_append]
  simp
theorem lowD (d : Nat) (h : d < 16) : bys ((⟨#[48, 49, 50, 51, 52, 53, 54, 55, 56, 57, 97, 98, 99, 100, 101, 102]⟩ : ByteArray).extract d (d + 1)) = [chr false d] := by
  rcases (by omega : d = 0 ∨ d = 1 ∨ d = 2 ∨ d = 3 ∨ d = 4 ∨ d = 5 ∨ d = 6 ∨ d = 7 ∨ d = 8 ∨ d = 9 ∨ d = 10 ∨ d = 11 ∨ d = 12 ∨ d = 13 ∨ d = 14 ∨ d = 15) with rfl | rfl | rfl | rfl | rfl | rfl | rfl | rfl | rfl | rfl | rfl | rfl | rfl | rfl | rfl | rfl <;> rfl
theorem upD (d : Nat) (h : d < 16) : bys ((⟨#[48, 49, 50, 51, 52, 53, 54, 55, 56, 57, 65, 66, 67, 68, 69, 70]⟩ : ByteArray).extract d (d + 1)) = [chr true d] := by
  rcases (by omega : d = 0 ∨ d = 1 ∨ d = 2 ∨ d = 3 ∨ d = 4 ∨ d = 5 ∨ d = 6 ∨ d = 7 ∨ d = 8 ∨ d = 9 ∨ d = 10 ∨ d = 11 ∨ d = 12 ∨ d = 13 ∨ d = 14 ∨ d = 15) with rfl | rfl | rfl | rfl | rfl | rfl | rfl | rfl | rfl | rfl | rfl | rfl | rfl | rfl | rfl | rfl <;> rfl

set_option maxRecDepth 100000 in
set_option maxHeartbeats 4000000 in
theorem ref_low (n b : Nat) (w : World) (hb : 2 ≤ b) (hb2 : b ≤ 16) (hn : n < 18446744073709551616) :
    Calls Tryd.prog 9 #[.int .u64 n, .int .i64 b, .bool false] w fun e w' => ∃ t, e = .returned (.string t) ∧ bys t = baseL b n false ∧ Below w.heap.size w w' := by
  have hbI : (2 : Int) ≤ b := by omega
  have hbI2 : (b : Int) ≤ 16 := by omega
  have hwb : IntKind.u64.wrap (b : Int) = b := by
    unfold IntKind.wrap
    simp [IntKind.signed, IntKind.bits]
    omega
  have hb0 : ¬ (b : Int) = 0 := by omega
  have hbp : 0 < (b : Int) := by omega
  have hmod0 := Int.emod_nonneg (n : Int) (show (b : Int) ≠ 0 by omega)
  have hmod1 := Int.emod_lt_of_pos (n : Int) hbp
  have hmod2 : (n : Int) % b < 16 := by omega
  have hnI : (n : Int) ≤ 18446744073709551615 := by omega
  have HLEN := Lib.hid (digs_len b hb 64 n (by omega) (Nat.lt_of_lt_of_le hn (Nat.le_trans (by decide) (Nat.pow_le_pow_left hb 64))))
  have HS0 : Hid ((if n / b = 0 then [] else baseL b (n / b) false) ++ bys ((⟨#[48, 49, 50, 51, 52, 53, 54, 55, 56, 57, 97, 98, 99, 100, 101, 102]⟩ : ByteArray).extract (n % b) (n % b + 1)) = baseL b n false) := Lib.hid (by rw [lowD _ (by have := Nat.mod_lt n (show b > 0 by omega); omega)]; exact (baseL_snoc b n false hb).symm)
  have hq0 : 0 ≤ (n : Int) / b := Int.ediv_nonneg (by omega) (by omega)
  have hq1 : (n : Int) / b ≤ n := Int.ediv_le_self _ (by omega)
  go_enter Tryd.func9, Tryd.ntmps9
  go_wp2_with fail
  go_quiet (fail)
  have HBL : Hid (Below w.heap.size w (w.drewN nq)) := Lib.hid ⟨rfl, rfl, rfl, Nat.le_refl _, fun _ _ => rfl⟩
  generalize w.drewN nq = w1 at *
  generalize (⟨#[48, 49, 50, 51, 52, 53, 54, 55, 56, 57, 97, 98, 99, 100, 101, 102]⟩ : ByteArray).extract (n % b) (n % b + 1) = s0 at *
  go_wp2_with fail
  go_loop [0, 8] (fun x s => ∃ (q : Nat) (st : ByteArray), x = .int .u64 q ∧ s = .string st ∧ q ≤ n ∧ (if q = 0 then [] else baseL b q false) ++ bys st = baseL b n false) (fun x _ => (intOf x).toNat)
  case atStart => exact ⟨n / b, s0, by rw [Int.natCast_ediv], rfl, Nat.div_le_self _ _, HS0.out⟩
  case round =>
    obtain ⟨q, st, rfl, rfl, hqn, hinv⟩ := hrel
    by_cases hq : q = 0
    · subst hq
      have HI := Lib.hid hinv
      clear hinv
      go_wp2
      go_ret
      exact ⟨st, rfl, by simpa using HI.out, HBL.out⟩
    · have hstep : (if q / b = 0 then [] else baseL b (q / b) false) ++ bys ((⟨#[48, 49, 50, 51, 52, 53, 54, 55, 56, 57, 97, 98, 99, 100, 101, 102]⟩ : ByteArray).extract (q % b) (q % b + 1) ++ st) = baseL b n false := by
        rw [bys_app, lowD _ (by have := Nat.mod_lt q (show b > 0 by omega); omega), ← List.append_assoc, ← baseL_snoc b q false hb]
        simpa [hq] using hinv
      have hlen : st.size ≤ 64 := by
        have h1 := congrArg List.length hinv
        rw [List.length_append, baseL_len, bys_length] at h1
        have := HLEN.out
        omega
      have HST := Lib.hid hstep
      have HDV : Hid (q / b < q) := Nat.div_lt_self (by omega) (by omega)
      clear hinv hstep hmod0 hmod1 hmod2 hq0 hq1
      have hqp : 0 < (q : Int) := by omega
      have hmod0 := Int.emod_nonneg (q : Int) (show (b : Int) ≠ 0 by omega)
      have hmod1 := Int.emod_lt_of_pos (q : Int) hbp
      have hmod2 : (q : Int) % b < 16 := by omega
      have hqI : (q : Int) ≤ 18446744073709551615 := by omega
      have hq0 : 0 ≤ (q : Int) / b := Int.ediv_nonneg (by omega) (by omega)
      have hq1 : (q : Int) / b ≤ q := Int.ediv_le_self _ (by omega)
      go_wp2
      go_round
      case rel => exact ⟨q / b, _, by rw [Int.natCast_ediv], rfl, by have := HDV.out; omega, HST.out⟩
      case measure => have := HDV.out; simp [intOf]; omega
set_option maxRecDepth 100000 in
set_option maxHeartbeats 4000000 in
theorem ref_up (n b : Nat) (w : World) (hb : 2 ≤ b) (hb2 : b ≤ 16) (hn : n < 18446744073709551616) :
    Calls Tryd.prog 9 #[.int .u64 n, .int .i64 b, .bool true] w fun e w' => ∃ t, e = .returned (.string t) ∧ bys t = baseL b n true ∧ Below w.heap.size w w' := by
  have hbI : (2 : Int) ≤ b := by omega
  have hbI2 : (b : Int) ≤ 16 := by omega
  have hwb : IntKind.u64.wrap (b : Int) = b := by
    unfold IntKind.wrap
    simp [IntKind.signed, IntKind.bits]
    omega
  have hb0 : ¬ (b : Int) = 0 := by omega
  have hbp : 0 < (b : Int) := by omega
  have hmod0 := Int.emod_nonneg (n : Int) (show (b : Int) ≠ 0 by omega)
  have hmod1 := Int.emod_lt_of_pos (n : Int) hbp
  have hmod2 : (n : Int) % b < 16 := by omega
  have hnI : (n : Int) ≤ 18446744073709551615 := by omega
  have HLEN := Lib.hid (digs_len b hb 64 n (by omega) (Nat.lt_of_lt_of_le hn (Nat.le_trans (by decide) (Nat.pow_le_pow_left hb 64))))
  have HS0 : Hid ((if n / b = 0 then [] else baseL b (n / b) true) ++ bys ((⟨#[48, 49, 50, 51, 52, 53, 54, 55, 56, 57, 65, 66, 67, 68, 69, 70]⟩ : ByteArray).extract (n % b) (n % b + 1)) = baseL b n true) := Lib.hid (by rw [upD _ (by have := Nat.mod_lt n (show b > 0 by omega); omega)]; exact (baseL_snoc b n true hb).symm)
  have hq0 : 0 ≤ (n : Int) / b := Int.ediv_nonneg (by omega) (by omega)
  have hq1 : (n : Int) / b ≤ n := Int.ediv_le_self _ (by omega)
  go_enter Tryd.func9, Tryd.ntmps9
  go_wp2_with fail
  all_goals first | (exfalso; omega) | skip
  go_quiet (fail)
  have HBL : Hid (Below w.heap.size w (w.drewN nq)) := Lib.hid ⟨rfl, rfl, rfl, Nat.le_refl _, fun _ _ => rfl⟩
  generalize w.drewN nq = w1 at *
  generalize (⟨#[48, 49, 50, 51, 52, 53, 54, 55, 56, 57, 65, 66, 67, 68, 69, 70]⟩ : ByteArray).extract (n % b) (n % b + 1) = s0 at *
  go_wp2_with fail
  go_loop [0, 8] (fun x s => ∃ (q : Nat) (st : ByteArray), x = .int .u64 q ∧ s = .string st ∧ q ≤ n ∧ (if q = 0 then [] else baseL b q true) ++ bys st = baseL b n true) (fun x _ => (intOf x).toNat)
  case atStart => exact ⟨n / b, s0, by rw [Int.natCast_ediv], rfl, Nat.div_le_self _ _, HS0.out⟩
  case round =>
    obtain ⟨q, st, rfl, rfl, hqn, hinv⟩ := hrel
    by_cases hq : q = 0
    · subst hq
      have HI := Lib.hid hinv
      clear hinv
      go_wp2
      go_ret
      exact ⟨st, rfl, by simpa using HI.out, HBL.out⟩
    · have hstep : (if q / b = 0 then [] else baseL b (q / b) true) ++ bys ((⟨#[48, 49, 50, 51, 52, 53, 54, 55, 56, 57, 65, 66, 67, 68, 69, 70]⟩ : ByteArray).extract (q % b) (q % b + 1) ++ st) = baseL b n true := by
        rw [bys_app, upD _ (by have := Nat.mod_lt q (show b > 0 by omega); omega), ← List.append_assoc, ← baseL_snoc b q true hb]
        simpa [hq] using hinv
      have hlen : st.size ≤ 64 := by
        have h1 := congrArg List.length hinv
        rw [List.length_append, baseL_len, bys_length] at h1
        have := HLEN.out
        omega
      have HST := Lib.hid hstep
      have HDV : Hid (q / b < q) := Nat.div_lt_self (by omega) (by omega)
      clear hinv hstep hmod0 hmod1 hmod2 hq0 hq1
      have hqp : 0 < (q : Int) := by omega
      have hmod0 := Int.emod_nonneg (q : Int) (show (b : Int) ≠ 0 by omega)
      have hmod1 := Int.emod_lt_of_pos (q : Int) hbp
      have hmod2 : (q : Int) % b < 16 := by omega
      have hqI : (q : Int) ≤ 18446744073709551615 := by omega
      have hq0 : 0 ≤ (q : Int) / b := Int.ediv_nonneg (by omega) (by omega)
      have hq1 : (q : Int) / b ≤ q := Int.ediv_le_self _ (by omega)
      go_wp2
      go_round
      case rel => exact ⟨q / b, _, by rw [Int.natCast_ediv], rfl, by have := HDV.out; omega, HST.out⟩
      case measure => have := HDV.out; simp [intOf]; omega

theorem ref_any (n b : Nat) (up : Bool) (w : World) (hb : 2 ≤ b) (hb2 : b ≤ 16) (hn : n < 18446744073709551616) :
    Calls Tryd.prog 9 #[.int .u64 n, .int .i64 b, .bool up] w fun e w' => ∃ t, e = .returned (.string t) ∧ bys t = baseL b n up ∧ Below w.heap.size w w' := by
  cases up with
  | false => exact ref_low n b w hb hb2 hn
  | true => exact ref_up n b w hb hb2 hn

set_option maxHeartbeats 4000000 in
theorem ref_no (n : Int) (b : Int) (up : Bool) (w : World) (h : ¬ (2 ≤ b ∧ b ≤ 16)) :
    Calls Tryd.prog 9 #[.int .u64 n, .int .i64 b, .bool up] w fun e w' => e = .returned (.string ⟨#[]⟩) ∧ w = w' := by
  have h' : b < 2 ∨ (2 ≤ b ∧ 16 < b) := by omega
  clear h
  rcases h' with h | ⟨h, h2⟩
  all_goals
    go_enter Tryd.func9, Tryd.ntmps9
    go_wp2
    go_ret
    exact ⟨rfl, rfl⟩

theorem bys_min (t : ByteArray) : bys ((⟨#[45]⟩ : ByteArray) ++ t) = 45 :: bys t := by rw [bys_app]; rfl

set_option maxHeartbeats 4000000 in
theorem reftext_any (n : Int) (w : World) (h0 : -9223372036854775808 ≤ n) (h1 : n ≤ 9223372036854775807) :
    Calls Tryd.prog 7 #[.int .i64 n] w fun e w' => ∃ t, e = .returned (.string t) ∧ bys t = textB n ∧ Below w.heap.size w w' := by
  by_cases hn : n < 0
  · obtain ⟨q, hq, hq1⟩ : ∃ q : Nat, n = -(q : Int) ∧ q ≤ 9223372036854775808 := ⟨n.natAbs, by omega, by omega⟩
    have HB := Lib.hid (ref_any q 10 false w (by omega) (by omega) (by omega))
    have HL := Lib.hid (digs_len 10 (by omega) 20 q (by omega) (Nat.lt_of_le_of_lt hq1 (by decide)))
    have hw1 : IntKind.i64.wrap (n + 1) = n + 1 := by
      unfold IntKind.wrap
      simp [IntKind.signed, IntKind.bits]
      omega
    have hw2 : IntKind.i64.wrap (-(n + 1)) = -(n + 1) := by
      unfold IntKind.wrap
      simp [IntKind.signed, IntKind.bits]
      omega
    have hw3 : IntKind.u64.wrap (-(n + 1)) = -(n + 1) := by
      unfold IntKind.wrap
      simp [IntKind.signed, IntKind.bits]
      omega
    have hw4 : IntKind.u64.wrap (-(n + 1) + 1) = q := by
      unfold IntKind.wrap
      simp [IntKind.signed, IntKind.bits]
      omega
    have HT : Hid (textB n = 45 :: digs 10 q) := Lib.hid (by unfold textB; rw [if_pos hn]; congr 2; omega)
    have HQ := Lib.hid hq
    clear hq
    go_enter Tryd.func7, Tryd.ntmps7
    go_wp2_with fail
    refine HB.out.mono ?_
    rintro e w1 ⟨t, rfl, ht, hb1⟩
    have hsz : t.size ≤ 20 := by
      have := HL.out
      rw [← bys_length, ht]
      exact this
    have HE : Hid (bys ((⟨#[45]⟩ : ByteArray) ++ t) = textB n) := Lib.hid (by rw [bys_min, ht, HT.out]; rfl)
    have HB1 := Lib.hid hb1
    clear ht hb1
    go_wp2
    go_ret
    exact ⟨_, rfl, HE.out, HB1.out⟩
  · obtain ⟨q, rfl⟩ : ∃ q : Nat, n = q := ⟨n.toNat, by omega⟩
    have HB := Lib.hid (ref_any q 10 false w (by omega) (by omega) (by omega))
    have hw3 : IntKind.u64.wrap (q : Int) = q := by
      unfold IntKind.wrap
      simp [IntKind.signed, IntKind.bits]
      omega
    have HT : Hid (textB (q : Int) = digs 10 q) := Lib.hid (by unfold textB; rw [if_neg (by omega)]; rfl)
    go_enter Tryd.func7, Tryd.ntmps7
    go_wp2_with fail
    refine HB.out.mono ?_
    rintro e w1 ⟨t, rfl, ht, hb1⟩
    go_wp2
    go_ret
    exact ⟨t, rfl, by rw [ht, HT.out]; rfl, hb1⟩
end Go.Proofs.YtnpjbpchnkobnaaDoor
