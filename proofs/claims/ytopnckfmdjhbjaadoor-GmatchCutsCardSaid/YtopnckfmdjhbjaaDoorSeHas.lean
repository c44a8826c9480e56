/- Contracts of Has, Len. -/
import Derived.Test.YtopnckfmdjhbjaaDoorSeRan
namespace Go.Proofs.YtopnckfmdjhbjaaDoor
open Go.RowKit

theorem sw_bit (p : Nat → Bool) (i j : Nat) (hj : j < 64) : bits .and .u64 ((sw p i : Int) / 2 ^ j) 1 = ((p (64 * i + j)).toNat : Nat) := by
  have h := wd_bit (fun j => p (64 * i + j)) j hj
  have e : ((sw p i : Int) / 2 ^ j) = ((sw p i / 2 ^ j : Nat) : Int) := by simp
  have hlt : sw p i / 2 ^ j < 18446744073709551616 := Nat.lt_of_le_of_lt (Nat.div_le_self _ _) (wd_lt _)
  have h1 := u64_and_nat (sw p i / 2 ^ j) 1 hlt (by decide)
  rw [e, show (1 : Int) = ((1 : Nat) : Int) from rfl, h1]
  refine congrArg (Nat.cast (R := Int)) ?_
  rw [show (1 : Nat) = 2 ^ 1 - 1 from rfl, Nat.and_two_pow_sub_one_eq_mod]
  exact h

set_option maxHeartbeats 2000000 in
theorem has_any (p : Nat → Bool) (b : Nat) (hb : b < 256) (w : World) :
    Calls Tryd.prog 50 #[SV p, .int .u8 b] w fun e w' => e = .returned (.bool (p b)) ∧ Below w.heap.size w w' := by
  obtain ⟨j, hj, h⟩ : ∃ j, j < 64 ∧ (b = j ∨ b = 64 + j ∨ b = 128 + j ∨ b = 192 + j) := ⟨b % 64, by omega, by omega⟩
  have e : ∀ i, b = 64 * i + j → bits .and .u64 ((sw p i : Int) / 2 ^ j) 1 = ((p b).toNat : Nat) := fun i hi => by rw [hi]; exact sw_bit p i j hj
  unfold SV
  rcases h with h | h | h | h
  · have hs := e 0 (by omega)
    have hq : (b : Int) / 64 = 0 := by omega
    have hr : (b : Int) % 64 = j := by omega
    clear e h
    cases hp : p b
    all_goals
      rw [hp] at hs
      simp only [Bool.toNat_true, Bool.toNat_false] at hs
      clear hp
      generalize sw p 0 = x0 at *
      generalize sw p 1 = x1 at *
      generalize sw p 2 = x2 at *
      generalize sw p 3 = x3 at *
      go_enter Tryd.func50, Tryd.ntmps50
      go_wp2
      go_ret
      exact ⟨rfl, (Below.refl _ _).alloc (Nat.le_refl _) _⟩
  · have hs := e 1 (by omega)
    have hq : (b : Int) / 64 = 1 := by omega
    have hr : (b : Int) % 64 = j := by omega
    clear e h
    cases hp : p b
    all_goals
      rw [hp] at hs
      simp only [Bool.toNat_true, Bool.toNat_false] at hs
      clear hp
      generalize sw p 0 = x0 at *
      generalize sw p 1 = x1 at *
      generalize sw p 2 = x2 at *
      generalize sw p 3 = x3 at *
      go_enter Tryd.func50, Tryd.ntmps50
      go_wp2
      go_ret
      exact ⟨rfl, (Below.refl _ _).alloc (Nat.le_refl _) _⟩
  · have hs := e 2 (by omega)
    have hq : (b : Int) / 64 = 2 := by omega
    have hr : (b : Int) % 64 = j := by omega
    clear e h
    cases hp : p b
    all_goals
      rw [hp] at hs
      simp only [Bool.toNat_true, Bool.toNat_false] at hs
      clear hp
      generalize sw p 0 = x0 at *
      generalize sw p 1 = x1 at *
      generalize sw p 2 = x2 at *
      generalize sw p 3 = x3 at *
      go_enter Tryd.func50, Tryd.ntmps50
      go_wp2
      go_ret
      exact ⟨rfl, (Below.refl _ _).alloc (Nat.le_refl _) _⟩
  · have hs := e 3 (by omega)
    have hq : (b : Int) / 64 = 3 := by omega
    have hr : (b : Int) % 64 = j := by omega
    clear e h
    cases hp : p b
    all_goals
      rw [hp] at hs
      simp only [Bool.toNat_true, Bool.toNat_false] at hs
      clear hp
      generalize sw p 0 = x0 at *
      generalize sw p 1 = x1 at *
      generalize sw p 2 = x2 at *
      generalize sw p 3 = x3 at *
      go_enter Tryd.func50, Tryd.ntmps50
      go_wp2
      go_ret
      exact ⟨rfl, (Below.refl _ _).alloc (Nat.le_refl _) _⟩

/-- How many are in it. -/
def cntS (p : Nat → Bool) : Nat := cntW (fun j => p j) + cntW (fun j => p (64 + j)) + cntW (fun j => p (128 + j)) + cntW (fun j => p (192 + j))
theorem cntB_le (l : List Bool) : cntB l ≤ l.length := List.countP_le_length
theorem cntW_le (q : Nat → Bool) : cntW q ≤ 64 := by unfold cntW; have := cntB_le ((List.range 64).map q); simpa using this

theorem arr_idx0 (a b c d : Value) (w : World) : (Instr.index 53 (.agg #[a, b, c, d]) (.int .i64 0)).run Tryd.prog w = .ok a w := by kernel_rfl
theorem arr_idx1 (a b c d : Value) (w : World) : (Instr.index 53 (.agg #[a, b, c, d]) (.int .i64 1)).run Tryd.prog w = .ok b w := by kernel_rfl
theorem arr_idx2 (a b c d : Value) (w : World) : (Instr.index 53 (.agg #[a, b, c, d]) (.int .i64 2)).run Tryd.prog w = .ok c w := by kernel_rfl
theorem arr_idx3 (a b c d : Value) (w : World) : (Instr.index 53 (.agg #[a, b, c, d]) (.int .i64 3)).run Tryd.prog w = .ok d w := by kernel_rfl
set_option maxHeartbeats 2000000 in
theorem len_of (x0 x1 x2 x3 n0 n1 n2 n3 : Nat) (l0 : n0 ≤ 64) (l1 : n1 ≤ 64) (l2 : n2 ≤ 64) (l3 : n3 ≤ 64)
    (h0 : ∀ w, Hid (Calls Tryd.prog 88 #[.int .u64 (x0 : Nat)] w fun e w' => e = .returned (.int .i64 (n0 : Nat)) ∧ w = w'))
    (h1 : ∀ w, Hid (Calls Tryd.prog 88 #[.int .u64 (x1 : Nat)] w fun e w' => e = .returned (.int .i64 (n1 : Nat)) ∧ w = w'))
    (h2 : ∀ w, Hid (Calls Tryd.prog 88 #[.int .u64 (x2 : Nat)] w fun e w' => e = .returned (.int .i64 (n2 : Nat)) ∧ w = w'))
    (h3 : ∀ w, Hid (Calls Tryd.prog 88 #[.int .u64 (x3 : Nat)] w fun e w' => e = .returned (.int .i64 (n3 : Nat)) ∧ w = w')) (w : World) :
    Calls Tryd.prog 63 #[.agg #[.int .u64 (x0 : Nat), .int .u64 (x1 : Nat), .int .u64 (x2 : Nat), .int .u64 (x3 : Nat)]] w fun e w' => e = .returned (.int .i64 (n0 + n1 + n2 + n3 : Nat)) ∧ Below w.heap.size w w' := by
  have i0 := arr_idx0 (.int .u64 (x0 : Nat)) (.int .u64 (x1 : Nat)) (.int .u64 (x2 : Nat)) (.int .u64 (x3 : Nat))
  have i1 := arr_idx1 (.int .u64 (x0 : Nat)) (.int .u64 (x1 : Nat)) (.int .u64 (x2 : Nat)) (.int .u64 (x3 : Nat))
  have i2 := arr_idx2 (.int .u64 (x0 : Nat)) (.int .u64 (x1 : Nat)) (.int .u64 (x2 : Nat)) (.int .u64 (x3 : Nat))
  have i3 := arr_idx3 (.int .u64 (x0 : Nat)) (.int .u64 (x1 : Nat)) (.int .u64 (x2 : Nat)) (.int .u64 (x3 : Nat))
  go_enter Tryd.func63, Tryd.ntmps63
  go_wp2
  refine wp_loop_rounds 5 ?_
  rw [rounds_succ]
  go_wp2_with fail
  refine (h0 _).out.mono ?_
  rintro e w' ⟨rfl, rfl⟩
  go_wp2
  rw [rounds_succ]
  go_wp2_with fail
  refine (h1 _).out.mono ?_
  rintro e w' ⟨rfl, rfl⟩
  go_wp2
  rw [rounds_succ]
  go_wp2_with fail
  refine (h2 _).out.mono ?_
  rintro e w' ⟨rfl, rfl⟩
  go_wp2
  rw [rounds_succ]
  go_wp2_with fail
  refine (h3 _).out.mono ?_
  rintro e w' ⟨rfl, rfl⟩
  go_wp2
  rw [rounds_succ]
  go_wp2
  go_ret
  exact ⟨ret_int (by omega), (Below.refl _ _).alloc (Nat.le_refl _) _⟩
theorem len_any (p : Nat → Bool) (w : World) :
    Calls Tryd.prog 63 #[SV p] w fun e w' => e = .returned (.int .i64 (cntS p : Nat)) ∧ Below w.heap.size w w' := by
  have hc : cntS p = cntW (fun j => p (64 * 0 + j)) + cntW (fun j => p (64 * 1 + j)) + cntW (fun j => p (64 * 2 + j)) + cntW (fun j => p (64 * 3 + j)) := by unfold cntS; simp
  rw [hc]
  exact len_of (sw p 0) (sw p 1) (sw p 2) (sw p 3) _ _ _ _ (cntW_le _) (cntW_le _) (cntW_le _) (cntW_le _) (fun w => Lib.hid (ones_any _ w)) (fun w => Lib.hid (ones_any _ w)) (fun w => Lib.hid (ones_any _ w)) (fun w => Lib.hid (ones_any _ w)) w
end Go.Proofs.YtopnckfmdjhbjaaDoor
