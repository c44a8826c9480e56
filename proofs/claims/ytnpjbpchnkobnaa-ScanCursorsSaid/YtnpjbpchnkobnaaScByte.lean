/- Contracts of the functions of one byte: digit, value, inName, Letter, Part, isBase. -/
import Derived.Test.YtnpjbpchnkobnaaProg
import Derived.Test.YtnpjbpchnkobnaaScMath
import Derived.Outline
import Derived.Lib.Hide
import Derived.BigQuiet
import Derived.BigGuardPart
namespace Go.Proofs.Ytnpjbpchnkobnaa
open Go.RowKit

theorem ret_int {k : IntKind} {a b : Int} (h : a = b) : Ending.returned (.int k a) = .returned (.int k b) := by rw [h]
theorem ret_bool {a b : Bool} (h : a = b) : Ending.returned (.bool a) = .returned (.bool b) := by rw [h]

set_option maxHeartbeats 2000000 in
theorem digit_any (c : Int) (w : World) (h0 : 0 ≤ c) (h1 : c ≤ 255) :
    Calls Try.prog 42 #[.int .u8 c] w fun e w' => e = .returned (.int .u64 (dgt c)) ∧ w = w' := by
  rcases (by omega : c < 48 ∨ (48 ≤ c ∧ c ≤ 57) ∨ (57 < c ∧ c < 65) ∨ (65 ≤ c ∧ c ≤ 70) ∨ (70 < c ∧ c < 97) ∨ (97 ≤ c ∧ c ≤ 102) ∨ 102 < c) with h | h | h | h | h | h | h
  all_goals
    go_enter Try.func42, Try.ntmps42
    go_wp2
    all_goals
      go_ret
      exact ⟨ret_int (by unfold dgt; (repeat' split) <;> omega), rfl⟩

/-- What the reference's value tells of a byte. -/
def refv (c : Int) : Int := if dgt c = 16 then 99 else dgt c
set_option maxHeartbeats 2000000 in
theorem value_any (c : Int) (w : World) (h0 : 0 ≤ c) (h1 : c ≤ 255) :
    Calls Try.prog 34 #[.int .u8 c] w fun e w' => e = .returned (.int .i64 (refv c)) ∧ w = w' := by
  rcases (by omega : c < 48 ∨ (48 ≤ c ∧ c ≤ 57) ∨ (57 < c ∧ c < 65) ∨ (65 ≤ c ∧ c ≤ 70) ∨ (70 < c ∧ c < 97) ∨ (97 ≤ c ∧ c ≤ 102) ∨ 102 < c) with h | h | h | h | h | h | h
  all_goals
    go_enter Try.func34, Try.ntmps34
    go_wp2
    all_goals
      go_ret
      exact ⟨ret_int (by unfold refv dgt; (repeat' split) <;> omega), rfl⟩

set_option maxHeartbeats 2000000 in
theorem isBase_any (b : Int) (w : World) :
    Calls Try.prog 32 #[.int .i64 b] w fun e w' => e = .returned (.bool (decide (2 ≤ b ∧ b ≤ 16))) ∧ w = w' := by
  rcases (by omega : b < 2 ∨ (2 ≤ b ∧ b ≤ 16) ∨ 16 < b) with h | h | h
  all_goals
    have hd : ∃ x, x = decide (2 ≤ b ∧ b ≤ 16) := ⟨_, rfl⟩
    obtain ⟨x, hx⟩ := hd
    rw [← hx]
    have HX := Lib.hid hx
    clear hx
    go_enter Try.func32, Try.ntmps32
    go_wp2
    all_goals
      go_ret
      exact ⟨ret_bool (by rw [HX.out]; simp; omega), rfl⟩

set_option maxHeartbeats 2000000 in
theorem inName_any (c k : Int) (w : World) (h0 : 0 ≤ c) (h1 : c ≤ 255) (hk : 0 ≤ k) :
    Calls Try.prog 38 #[.int .u8 c, .int .i64 k] w fun e w' => e = .returned (.bool (letB c || (decide (0 < k) && numB c))) ∧ w = w' := by
  have hd : ∃ x, x = (letB c || (decide (0 < k) && numB c)) := ⟨_, rfl⟩
  obtain ⟨x, hx⟩ := hd
  rw [← hx]
  have HX := Lib.hid hx
  clear hx
  rcases (by omega : k = 0 ∨ 0 < k) with rfl | hkp
  all_goals
    rcases (by omega : c < 48 ∨ (48 ≤ c ∧ c ≤ 57) ∨ (57 < c ∧ c < 65) ∨ (65 ≤ c ∧ c ≤ 90) ∨ (90 < c ∧ c < 95) ∨ c = 95 ∨ c = 96 ∨ (97 ≤ c ∧ c ≤ 122) ∨ 122 < c) with h | h | h | h | h | rfl | rfl | h | h
    all_goals
      go_enter Try.func38, Try.ntmps38
      go_wp2
      all_goals
        go_ret
        exact ⟨ret_bool (by rw [HX.out]; unfold letB numB; rw [Bool.eq_iff_iff]; simp; try omega), rfl⟩

set_option maxHeartbeats 2000000 in
theorem letter_any (c : Int) (w : World) (h0 : 0 ≤ c) (h1 : c ≤ 255) :
    Calls Try.prog 39 #[.int .u8 c] w fun e w' => e = .returned (.bool (letB c)) ∧ w = w' := by
  have hd : ∃ x, x = letB c := ⟨_, rfl⟩
  obtain ⟨x, hx⟩ := hd
  rw [← hx]
  have HX := Lib.hid hx
  clear hx
  rcases (by omega : c < 48 ∨ (48 ≤ c ∧ c ≤ 57) ∨ (57 < c ∧ c < 65) ∨ (65 ≤ c ∧ c ≤ 90) ∨ (90 < c ∧ c < 95) ∨ c = 95 ∨ c = 96 ∨ (97 ≤ c ∧ c ≤ 122) ∨ 122 < c) with h | h | h | h | h | rfl | rfl | h | h
  all_goals
    go_enter Try.func39, Try.ntmps39
    go_wp2
    all_goals
      go_ret
      exact ⟨ret_bool (by rw [HX.out]; unfold letB; rw [Bool.eq_iff_iff]; simp; try omega), rfl⟩

set_option maxHeartbeats 2000000 in
theorem part_any (c : Int) (w : World) (h0 : 0 ≤ c) (h1 : c ≤ 255) :
    Calls Try.prog 40 #[.int .u8 c] w fun e w' => e = .returned (.bool (letB c || numB c)) ∧ w = w' := by
  have hd : ∃ x, x = (letB c || numB c) := ⟨_, rfl⟩
  obtain ⟨x, hx⟩ := hd
  rw [← hx]
  have HX := Lib.hid hx
  clear hx
  rcases (by omega : c < 48 ∨ (48 ≤ c ∧ c ≤ 57) ∨ (57 < c ∧ c < 65) ∨ (65 ≤ c ∧ c ≤ 90) ∨ (90 < c ∧ c < 95) ∨ c = 95 ∨ c = 96 ∨ (97 ≤ c ∧ c ≤ 122) ∨ 122 < c) with h | h | h | h | h | rfl | rfl | h | h
  all_goals
    go_enter Try.func40, Try.ntmps40
    go_wp2
    all_goals
      go_ret
      exact ⟨ret_bool (by rw [HX.out]; unfold letB numB; rw [Bool.eq_iff_iff]; simp; try omega), rfl⟩
end Go.Proofs.Ytnpjbpchnkobnaa
