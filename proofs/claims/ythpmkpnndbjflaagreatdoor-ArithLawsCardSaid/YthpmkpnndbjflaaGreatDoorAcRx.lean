/- What the operators make of two numbers (gen_acrx.py). -/
import Derived.Test.YthpmkpnndbjflaaGreatDoorKMc
import Derived.Test.YthpmkpnndbjflaaGreatDoorKOs
namespace Go.Proofs.YthpmkpnndbjflaaGreatDoor
open Go.RowKit

set_option maxHeartbeats 1000000 in
theorem res_uplus (l r : Int) (w : World) : Calls Tryz.prog 133 #[.string ⟨#[117, 43]⟩, .int .i64 l, .int .i64 r] w fun e w' => e = .returned (.int .i64 (wrap64 r)) ∧ w = w' := by
  go_enter Tryz.func133, Tryz.ntmps133
  go_wp2_with fail
  go_ret
  exact ⟨rfl, rfl⟩

set_option maxHeartbeats 1000000 in
theorem res_uminus (l r : Int) (w : World) : Calls Tryz.prog 133 #[.string ⟨#[117, 45]⟩, .int .i64 l, .int .i64 r] w fun e w' => e = .returned (.int .i64 (wrap64 (-r))) ∧ w = w' := by
  go_enter Tryz.func133, Tryz.ntmps133
  go_wp2_with fail
  go_ret
  exact ⟨rfl, rfl⟩

set_option maxHeartbeats 1000000 in
theorem res_minus (l r : Int) (w : World) : Calls Tryz.prog 133 #[.string ⟨#[45]⟩, .int .i64 l, .int .i64 r] w fun e w' => e = .returned (.int .i64 (wrap64 (l - r))) ∧ w = w' := by
  go_enter Tryz.func133, Tryz.ntmps133
  go_wp2_with fail
  go_ret
  exact ⟨rfl, rfl⟩

set_option maxHeartbeats 1000000 in
theorem res_not (l r : Int) (w : World) : Calls Tryz.prog 133 #[.string ⟨#[126]⟩, .int .i64 l, .int .i64 r] w fun e w' => e = .returned (.int .i64 (bits .xor .i64 (-1) r)) ∧ w = w' := by
  go_enter Tryz.func133, Tryz.ntmps133
  go_wp2_with fail
  go_ret
  exact ⟨rfl, rfl⟩

set_option maxHeartbeats 1000000 in
theorem res_xor (l r : Int) (w : World) : Calls Tryz.prog 133 #[.string ⟨#[94]⟩, .int .i64 l, .int .i64 r] w fun e w' => e = .returned (.int .i64 (bits .xor .i64 l r)) ∧ w = w' := by
  go_enter Tryz.func133, Tryz.ntmps133
  go_wp2_with fail
  go_ret
  exact ⟨rfl, rfl⟩

set_option maxHeartbeats 1000000 in
theorem res_and (l r : Int) (w : World) : Calls Tryz.prog 133 #[.string ⟨#[38]⟩, .int .i64 l, .int .i64 r] w fun e w' => e = .returned (.int .i64 (bits .and .i64 l r)) ∧ w = w' := by
  go_enter Tryz.func133, Tryz.ntmps133
  go_wp2_with fail
  go_ret
  exact ⟨rfl, rfl⟩

set_option maxHeartbeats 1000000 in
theorem res_or (l r : Int) (w : World) : Calls Tryz.prog 133 #[.string ⟨#[124]⟩, .int .i64 l, .int .i64 r] w fun e w' => e = .returned (.int .i64 (bits .or .i64 l r)) ∧ w = w' := by
  go_enter Tryz.func133, Tryz.ntmps133
  go_wp2_with fail
  go_ret
  exact ⟨rfl, rfl⟩

set_option maxHeartbeats 1000000 in
theorem res_div (l r : Int) (h0 : ¬ r = 0) (w : World) : Calls Tryz.prog 133 #[.string ⟨#[47]⟩, .int .i64 l, .int .i64 r] w fun e w' => e = .returned (.int .i64 (wrap64 (l.tdiv r))) ∧ w = w' := by
  go_enter Tryz.func133, Tryz.ntmps133
  go_wp2_with fail
  go_ret
  exact ⟨rfl, rfl⟩

set_option maxHeartbeats 1000000 in
theorem res_mod (l r : Int) (h0 : ¬ r = 0) (w : World) : Calls Tryz.prog 133 #[.string ⟨#[37]⟩, .int .i64 l, .int .i64 r] w fun e w' => e = .returned (.int .i64 (l.tmod r)) ∧ w = w' := by
  go_enter Tryz.func133, Tryz.ntmps133
  go_wp2_with fail
  go_ret
  exact ⟨rfl, rfl⟩

set_option maxHeartbeats 1000000 in
theorem res_shl (l r : Int) (w : World) : Calls Tryz.prog 133 #[.string ⟨#[60, 60]⟩, .int .i64 l, .int .i64 r] w fun e w' => e = .returned (.int .i64 (wrap64 (l * 2 ^ shN r))) ∧ w = w' := by
  obtain ⟨hb, hn⟩ := shN_eq r
  generalize shN r = n at *
  have hneg : ¬ (n : Int) < 0 := by omega
  have hmin : min n 64 = n := by omega
  have hmin2 : min (n : Int).toNat 64 = n := by omega
  go_enter Tryz.func133, Tryz.ntmps133
  go_wp2_with fail
  go_ret
  exact ⟨rfl, rfl⟩

set_option maxHeartbeats 1000000 in
theorem res_shr (l r : Int) (w : World) : Calls Tryz.prog 133 #[.string ⟨#[62, 62]⟩, .int .i64 l, .int .i64 r] w fun e w' => e = .returned (.int .i64 (l / 2 ^ shN r)) ∧ w = w' := by
  obtain ⟨hb, hn⟩ := shN_eq r
  generalize shN r = n at *
  have hneg : ¬ (n : Int) < 0 := by omega
  have hmin : min n 64 = n := by omega
  have hmin2 : min (n : Int).toNat 64 = n := by omega
  go_enter Tryz.func133, Tryz.ntmps133
  go_wp2_with fail
  go_ret
  exact ⟨rfl, rfl⟩

end Go.Proofs.YthpmkpnndbjflaaGreatDoor
