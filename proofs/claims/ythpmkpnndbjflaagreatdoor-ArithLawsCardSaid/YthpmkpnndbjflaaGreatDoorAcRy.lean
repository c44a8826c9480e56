/- What the comparisons make of two numbers (gen_acrx.py). -/
import Derived.Test.YthpmkpnndbjflaaGreatDoorKMc
namespace Go.Proofs.YthpmkpnndbjflaaGreatDoor
open Go.RowKit

set_option maxHeartbeats 1000000 in
theorem cmpd_truth (l r : Int) (w : World) : Calls Tryz.prog 163 #[.string ⟨#[116, 114, 117, 116, 104]⟩, .int .i64 l, .int .i64 r] w fun e w' => e = .returned (.int .i64 (if r ≠ 0 then 1 else 0)) ∧ w = w' := by
  by_cases h : r ≠ 0
  · rw [if_pos h]
    go_enter Tryz.func163, Tryz.ntmps163
    go_wp2_with fail
    go_ret
    exact ⟨rfl, rfl⟩
  · rw [if_neg h]
    go_enter Tryz.func163, Tryz.ntmps163
    go_wp2_with fail
    go_ret
    exact ⟨rfl, rfl⟩
set_option maxHeartbeats 1000000 in
theorem res_truth (l r : Int) (w : World) : Calls Tryz.prog 133 #[.string ⟨#[116, 114, 117, 116, 104]⟩, .int .i64 l, .int .i64 r] w fun e w' => e = .returned (.int .i64 (if r ≠ 0 then 1 else 0)) ∧ w = w' := by
  have HC := Lib.hid (cmpd_truth l r)
  generalize (if r ≠ 0 then (1 : Int) else 0) = z at *
  go_enter Tryz.func133, Tryz.ntmps133
  go_wp2_with fail
  refine (HC.out _).mono ?_
  rintro e w1 ⟨rfl, rfl⟩
  go_wp2_with fail
  go_ret
  exact ⟨rfl, rfl⟩

set_option maxHeartbeats 1000000 in
theorem cmpd_ne (l r : Int) (w : World) : Calls Tryz.prog 163 #[.string ⟨#[33, 61]⟩, .int .i64 l, .int .i64 r] w fun e w' => e = .returned (.int .i64 (if l ≠ r then 1 else 0)) ∧ w = w' := by
  by_cases h : l ≠ r
  · rw [if_pos h]
    go_enter Tryz.func163, Tryz.ntmps163
    go_wp2_with fail
    go_ret
    exact ⟨rfl, rfl⟩
  · rw [if_neg h]
    go_enter Tryz.func163, Tryz.ntmps163
    go_wp2_with fail
    go_ret
    exact ⟨rfl, rfl⟩
set_option maxHeartbeats 1000000 in
theorem res_ne (l r : Int) (w : World) : Calls Tryz.prog 133 #[.string ⟨#[33, 61]⟩, .int .i64 l, .int .i64 r] w fun e w' => e = .returned (.int .i64 (if l ≠ r then 1 else 0)) ∧ w = w' := by
  have HC := Lib.hid (cmpd_ne l r)
  generalize (if l ≠ r then (1 : Int) else 0) = z at *
  go_enter Tryz.func133, Tryz.ntmps133
  go_wp2_with fail
  refine (HC.out _).mono ?_
  rintro e w1 ⟨rfl, rfl⟩
  go_wp2_with fail
  go_ret
  exact ⟨rfl, rfl⟩

set_option maxHeartbeats 1000000 in
theorem cmpd_lnot (l r : Int) (w : World) : Calls Tryz.prog 163 #[.string ⟨#[33]⟩, .int .i64 l, .int .i64 r] w fun e w' => e = .returned (.int .i64 (if r = 0 then 1 else 0)) ∧ w = w' := by
  by_cases h : r = 0
  · rw [if_pos h]
    go_enter Tryz.func163, Tryz.ntmps163
    go_wp2_with fail
    go_ret
    exact ⟨rfl, rfl⟩
  · rw [if_neg h]
    go_enter Tryz.func163, Tryz.ntmps163
    go_wp2_with fail
    go_ret
    exact ⟨rfl, rfl⟩
set_option maxHeartbeats 1000000 in
theorem res_lnot (l r : Int) (w : World) : Calls Tryz.prog 133 #[.string ⟨#[33]⟩, .int .i64 l, .int .i64 r] w fun e w' => e = .returned (.int .i64 (if r = 0 then 1 else 0)) ∧ w = w' := by
  have HC := Lib.hid (cmpd_lnot l r)
  generalize (if r = 0 then (1 : Int) else 0) = z at *
  go_enter Tryz.func133, Tryz.ntmps133
  go_wp2_with fail
  refine (HC.out _).mono ?_
  rintro e w1 ⟨rfl, rfl⟩
  go_wp2_with fail
  go_ret
  exact ⟨rfl, rfl⟩

set_option maxHeartbeats 1000000 in
theorem cmpd_eq (l r : Int) (w : World) : Calls Tryz.prog 163 #[.string ⟨#[61, 61]⟩, .int .i64 l, .int .i64 r] w fun e w' => e = .returned (.int .i64 (if l = r then 1 else 0)) ∧ w = w' := by
  by_cases h : l = r
  · rw [if_pos h]
    go_enter Tryz.func163, Tryz.ntmps163
    go_wp2_with fail
    go_ret
    exact ⟨rfl, rfl⟩
  · rw [if_neg h]
    go_enter Tryz.func163, Tryz.ntmps163
    go_wp2_with fail
    go_ret
    exact ⟨rfl, rfl⟩
set_option maxHeartbeats 1000000 in
theorem res_eq (l r : Int) (w : World) : Calls Tryz.prog 133 #[.string ⟨#[61, 61]⟩, .int .i64 l, .int .i64 r] w fun e w' => e = .returned (.int .i64 (if l = r then 1 else 0)) ∧ w = w' := by
  have HC := Lib.hid (cmpd_eq l r)
  generalize (if l = r then (1 : Int) else 0) = z at *
  go_enter Tryz.func133, Tryz.ntmps133
  go_wp2_with fail
  refine (HC.out _).mono ?_
  rintro e w1 ⟨rfl, rfl⟩
  go_wp2_with fail
  go_ret
  exact ⟨rfl, rfl⟩

set_option maxHeartbeats 1000000 in
theorem cmpd_gt (l r : Int) (w : World) : Calls Tryz.prog 163 #[.string ⟨#[62]⟩, .int .i64 l, .int .i64 r] w fun e w' => e = .returned (.int .i64 (if r < l then 1 else 0)) ∧ w = w' := by
  by_cases h : r < l
  · rw [if_pos h]
    go_enter Tryz.func163, Tryz.ntmps163
    go_wp2_with fail
    go_ret
    exact ⟨rfl, rfl⟩
  · rw [if_neg h]
    go_enter Tryz.func163, Tryz.ntmps163
    go_wp2_with fail
    go_ret
    exact ⟨rfl, rfl⟩
set_option maxHeartbeats 1000000 in
theorem res_gt (l r : Int) (w : World) : Calls Tryz.prog 133 #[.string ⟨#[62]⟩, .int .i64 l, .int .i64 r] w fun e w' => e = .returned (.int .i64 (if r < l then 1 else 0)) ∧ w = w' := by
  have HC := Lib.hid (cmpd_gt l r)
  generalize (if r < l then (1 : Int) else 0) = z at *
  go_enter Tryz.func133, Tryz.ntmps133
  go_wp2_with fail
  refine (HC.out _).mono ?_
  rintro e w1 ⟨rfl, rfl⟩
  go_wp2_with fail
  go_ret
  exact ⟨rfl, rfl⟩

set_option maxHeartbeats 1000000 in
theorem cmpd_lt (l r : Int) (w : World) : Calls Tryz.prog 163 #[.string ⟨#[60]⟩, .int .i64 l, .int .i64 r] w fun e w' => e = .returned (.int .i64 (if l < r then 1 else 0)) ∧ w = w' := by
  by_cases h : l < r
  · rw [if_pos h]
    go_enter Tryz.func163, Tryz.ntmps163
    go_wp2_with fail
    go_ret
    exact ⟨rfl, rfl⟩
  · rw [if_neg h]
    go_enter Tryz.func163, Tryz.ntmps163
    go_wp2_with fail
    go_ret
    exact ⟨rfl, rfl⟩
set_option maxHeartbeats 1000000 in
theorem res_lt (l r : Int) (w : World) : Calls Tryz.prog 133 #[.string ⟨#[60]⟩, .int .i64 l, .int .i64 r] w fun e w' => e = .returned (.int .i64 (if l < r then 1 else 0)) ∧ w = w' := by
  have HC := Lib.hid (cmpd_lt l r)
  generalize (if l < r then (1 : Int) else 0) = z at *
  go_enter Tryz.func133, Tryz.ntmps133
  go_wp2_with fail
  refine (HC.out _).mono ?_
  rintro e w1 ⟨rfl, rfl⟩
  go_wp2_with fail
  go_ret
  exact ⟨rfl, rfl⟩

set_option maxHeartbeats 1000000 in
theorem cmpd_ge (l r : Int) (w : World) : Calls Tryz.prog 163 #[.string ⟨#[62, 61]⟩, .int .i64 l, .int .i64 r] w fun e w' => e = .returned (.int .i64 (if r ≤ l then 1 else 0)) ∧ w = w' := by
  by_cases h : r ≤ l
  · rw [if_pos h]
    go_enter Tryz.func163, Tryz.ntmps163
    go_wp2_with fail
    go_ret
    exact ⟨rfl, rfl⟩
  · rw [if_neg h]
    go_enter Tryz.func163, Tryz.ntmps163
    go_wp2_with fail
    go_ret
    exact ⟨rfl, rfl⟩
set_option maxHeartbeats 1000000 in
theorem res_ge (l r : Int) (w : World) : Calls Tryz.prog 133 #[.string ⟨#[62, 61]⟩, .int .i64 l, .int .i64 r] w fun e w' => e = .returned (.int .i64 (if r ≤ l then 1 else 0)) ∧ w = w' := by
  have HC := Lib.hid (cmpd_ge l r)
  generalize (if r ≤ l then (1 : Int) else 0) = z at *
  go_enter Tryz.func133, Tryz.ntmps133
  go_wp2_with fail
  refine (HC.out _).mono ?_
  rintro e w1 ⟨rfl, rfl⟩
  go_wp2_with fail
  go_ret
  exact ⟨rfl, rfl⟩

set_option maxHeartbeats 1000000 in
theorem cmpd_le (l r : Int) (w : World) : Calls Tryz.prog 163 #[.string ⟨#[60, 61]⟩, .int .i64 l, .int .i64 r] w fun e w' => e = .returned (.int .i64 (if l ≤ r then 1 else 0)) ∧ w = w' := by
  by_cases h : l ≤ r
  · rw [if_pos h]
    go_enter Tryz.func163, Tryz.ntmps163
    go_wp2_with fail
    go_ret
    exact ⟨rfl, rfl⟩
  · rw [if_neg h]
    go_enter Tryz.func163, Tryz.ntmps163
    go_wp2_with fail
    go_ret
    exact ⟨rfl, rfl⟩
set_option maxHeartbeats 1000000 in
theorem res_le (l r : Int) (w : World) : Calls Tryz.prog 133 #[.string ⟨#[60, 61]⟩, .int .i64 l, .int .i64 r] w fun e w' => e = .returned (.int .i64 (if l ≤ r then 1 else 0)) ∧ w = w' := by
  have HC := Lib.hid (cmpd_le l r)
  generalize (if l ≤ r then (1 : Int) else 0) = z at *
  go_enter Tryz.func133, Tryz.ntmps133
  go_wp2_with fail
  refine (HC.out _).mono ?_
  rintro e w1 ⟨rfl, rfl⟩
  go_wp2_with fail
  go_ret
  exact ⟨rfl, rfl⟩

end Go.Proofs.YthpmkpnndbjflaaGreatDoor
