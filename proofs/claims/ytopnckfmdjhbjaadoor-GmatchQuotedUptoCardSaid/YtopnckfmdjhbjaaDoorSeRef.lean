/- Contracts of the reference's sets: Add, Or, Not, Has, Range. -/
import Derived.Test.YtopnckfmdjhbjaaDoorSeNam
import Derived.BigRegion
namespace Go.Proofs.YtopnckfmdjhbjaaDoor
open Go.RowKit

set_option maxRecDepth 100000 in
set_option maxHeartbeats 8000000 in
theorem radd_any (p : Nat → Bool) (b : Nat) (hb : b < 256) (w : World) :
    Calls Tryd.prog 35 #[SV p, .int .u8 b] w fun e w' => e = .returned (SV (plus p b)) ∧ Below w.heap.size w w' := by
  obtain ⟨j, hj, h⟩ : ∃ j, j < 64 ∧ (b = 64 * 0 + j ∨ b = 64 * 1 + j ∨ b = 64 * 2 + j ∨ b = 64 * 3 + j) := ⟨b % 64, by omega, by omega⟩
  have hpw := pow_wrap j hj
  rcases h with h | h | h | h
  · have hq : (b : Int) / 64 = 0 := by omega
    have hr : (b : Int) % 64 = j := by omega
    have hw := sw_plus p 0 j hj
    rw [← h] at hw
    have k1 : sw (plus p b) 1 = sw p 1 := sw_plus_other p b 1 (by omega)
    have k2 : sw (plus p b) 2 = sw p 2 := sw_plus_other p b 2 (by omega)
    have k3 : sw (plus p b) 3 = sw p 3 := sw_plus_other p b 3 (by omega)
    clear h
    unfold SV
    rw [k1, k2, k3]
    clear k1 k2 k3
    generalize sw (plus p b) 0 = y at *
    go_enter Tryd.func35, Tryd.ntmps35
    go_wp2
    exact bodyPost_ret (by simp [results, Tryd.results35, go_sem]) rfl ⟨rfl, ((Below.refl _ _).alloc (Nat.le_refl _) _).alloc (by simp) _⟩
  · have hq : (b : Int) / 64 = 1 := by omega
    have hr : (b : Int) % 64 = j := by omega
    have hw := sw_plus p 1 j hj
    rw [← h] at hw
    have k1 : sw (plus p b) 0 = sw p 0 := sw_plus_other p b 0 (by omega)
    have k2 : sw (plus p b) 2 = sw p 2 := sw_plus_other p b 2 (by omega)
    have k3 : sw (plus p b) 3 = sw p 3 := sw_plus_other p b 3 (by omega)
    clear h
    unfold SV
    rw [k1, k2, k3]
    clear k1 k2 k3
    generalize sw (plus p b) 1 = y at *
    go_enter Tryd.func35, Tryd.ntmps35
    go_wp2
    exact bodyPost_ret (by simp [results, Tryd.results35, go_sem]) rfl ⟨rfl, ((Below.refl _ _).alloc (Nat.le_refl _) _).alloc (by simp) _⟩
  · have hq : (b : Int) / 64 = 2 := by omega
    have hr : (b : Int) % 64 = j := by omega
    have hw := sw_plus p 2 j hj
    rw [← h] at hw
    have k1 : sw (plus p b) 0 = sw p 0 := sw_plus_other p b 0 (by omega)
    have k2 : sw (plus p b) 1 = sw p 1 := sw_plus_other p b 1 (by omega)
    have k3 : sw (plus p b) 3 = sw p 3 := sw_plus_other p b 3 (by omega)
    clear h
    unfold SV
    rw [k1, k2, k3]
    clear k1 k2 k3
    generalize sw (plus p b) 2 = y at *
    go_enter Tryd.func35, Tryd.ntmps35
    go_wp2
    exact bodyPost_ret (by simp [results, Tryd.results35, go_sem]) rfl ⟨rfl, ((Below.refl _ _).alloc (Nat.le_refl _) _).alloc (by simp) _⟩
  · have hq : (b : Int) / 64 = 3 := by omega
    have hr : (b : Int) % 64 = j := by omega
    have hw := sw_plus p 3 j hj
    rw [← h] at hw
    have k1 : sw (plus p b) 0 = sw p 0 := sw_plus_other p b 0 (by omega)
    have k2 : sw (plus p b) 1 = sw p 1 := sw_plus_other p b 1 (by omega)
    have k3 : sw (plus p b) 2 = sw p 2 := sw_plus_other p b 2 (by omega)
    clear h
    unfold SV
    rw [k1, k2, k3]
    clear k1 k2 k3
    generalize sw (plus p b) 3 = y at *
    go_enter Tryd.func35, Tryd.ntmps35
    go_wp2
    exact bodyPost_ret (by simp [results, Tryd.results35, go_sem]) rfl ⟨rfl, ((Below.refl _ _).alloc (Nat.le_refl _) _).alloc (by simp) _⟩

set_option maxHeartbeats 4000000 in
theorem ror_any (p q : Nat → Bool) (w : World) :
    Calls Tryd.prog 58 #[SV p, SV q] w fun e w' => e = .returned (SV (orP p q)) ∧ Below w.heap.size w w' := by
  have b0 := sw_or p q 0
  have b1 := sw_or p q 1
  have b2 := sw_or p q 2
  have b3 := sw_or p q 3
  rw [show SV (orP p q) = SV (fun c => p c || q c) from rfl]
  unfold SV
  generalize sw p 0 = x0 at *
  generalize sw p 1 = x1 at *
  generalize sw p 2 = x2 at *
  generalize sw p 3 = x3 at *
  generalize sw q 0 = y0 at *
  generalize sw q 1 = y1 at *
  generalize sw q 2 = y2 at *
  generalize sw q 3 = y3 at *
  go_enter Tryd.func58, Tryd.ntmps58
  go_wp2
  refine wp_loop_rounds 5 ?_
  iterate 4 (rw [rounds_succ]; go_wp2; go_region; go_wp2)
  rw [rounds_succ]
  go_wp2
  exact bodyPost_ret (by simp [results, Tryd.results58, go_sem]) rfl ⟨rfl, ((((((((Below.refl _ _).alloc (Nat.le_refl _) _).alloc (by simp) _).alloc (by simp; omega) _).drew).drew).drew).drew)⟩

set_option maxHeartbeats 4000000 in
theorem rnot_any (p : Nat → Bool) (w : World) :
    Calls Tryd.prog 56 #[SV p] w fun e w' => e = .returned (SV fun c => !p c) ∧ Below w.heap.size w w' := by
  have b0 : bits .xor .u64 IntKind.u64.max (sw p 0 : Int) = (sw (fun c => !p c) 0 : Nat) := wd_not _
  have b1 : bits .xor .u64 IntKind.u64.max (sw p 1 : Int) = (sw (fun c => !p c) 1 : Nat) := wd_not _
  have b2 : bits .xor .u64 IntKind.u64.max (sw p 2 : Int) = (sw (fun c => !p c) 2 : Nat) := wd_not _
  have b3 : bits .xor .u64 IntKind.u64.max (sw p 3 : Int) = (sw (fun c => !p c) 3 : Nat) := wd_not _
  unfold SV
  generalize sw p 0 = x0 at *
  generalize sw p 1 = x1 at *
  generalize sw p 2 = x2 at *
  generalize sw p 3 = x3 at *
  go_enter Tryd.func56, Tryd.ntmps56
  go_wp2
  refine wp_loop_rounds 5 ?_
  iterate 5 (rw [rounds_succ]; go_wp2)
  exact bodyPost_ret (by simp [results, Tryd.results56, go_sem]) rfl ⟨rfl, ((Below.refl _ _).alloc (Nat.le_refl _) _).alloc (by simp) _⟩

/-- What Range has collected before the place k. -/
def acc (lo hi k c : Nat) : Bool := rng lo hi c && decide (c < k)
theorem acc_in (lo hi k : Nat) (h : lo ≤ k ∧ k ≤ hi) : plus (acc lo hi k) k = acc lo hi (k + 1) := by
  funext c
  unfold plus acc rng
  rw [Bool.eq_iff_iff]
  simp
  omega
theorem acc_out (lo hi k : Nat) (h : ¬ (lo ≤ k ∧ k ≤ hi)) : acc lo hi (k + 1) = acc lo hi k := by
  funext c
  unfold acc rng
  rw [Bool.eq_iff_iff]
  simp
  omega

set_option maxRecDepth 100000 in
set_option maxHeartbeats 16000000 in
theorem rrange_any (lo hi : Nat) (_hl : lo < 256) (_hh : hi < 256) (w : World) :
    Calls Tryd.prog 59 #[.int .u8 lo, .int .u8 hi] w fun e w' => e = .returned (SV (rng lo hi)) ∧ Below w.heap.size w w' := by
  have HN0 : Hid (NS w ((w.alloc (.cells #[.int .u64 0, .int .u64 0, .int .u64 0, .int .u64 0] 53)).alloc (.cells #[.int .u64 0, .int .u64 0, .int .u64 0, .int .u64 0] 53)) (acc lo hi 0)) := by
    have e : acc lo hi 0 = noP := by funext c; unfold acc noP; simp
    rw [e]
    exact Lib.hid (NS.start w)
  have HEND : Hid (SV (acc lo hi 256) = SV (rng lo hi)) := Lib.hid (SV_congr fun c hc => by unfold acc; simp [hc])
  go_enter Tryd.func59, Tryd.ntmps59
  go_wp2
  go_loopw [6, 8] (fun _ i wr => ∃ k : Nat, k ≤ 256 ∧ i = .int .i64 k ∧ NS w wr (acc lo hi k)) (fun _ i _ => 256 - (intOf i).toNat)
  case atStart => exact ⟨0, by omega, rfl, HN0.out⟩
  case round =>
    obtain ⟨k, hk, rfl, hns⟩ := hrel
    have HN := Lib.hid hns
    obtain ⟨⟨r0, r1, r2, r3⟩, ⟨f0, f1, f2, f3⟩, ⟨c0, c1, c2, c3, g0, g1, g2, g3, hz0⟩, hz1⟩ := hns.facts
    clear hns
    by_cases hlt : k < 256
    · by_cases hin : lo ≤ k ∧ k ≤ hi
      · have HE : Hid (plus (acc lo hi k) k = acc lo hi (k + 1)) := Lib.hid (acc_in lo hi k hin)
        obtain ⟨h1, h2⟩ := hin
        have h1I : (lo : Int) ≤ k := by omega
        have h2I : (k : Int) ≤ hi := by omega
        have HA : ∀ w, Hid (Calls Tryd.prog 35 #[.agg #[.int .u64 (sw (acc lo hi k) 0 : Nat), .int .u64 (sw (acc lo hi k) 1 : Nat), .int .u64 (sw (acc lo hi k) 2 : Nat), .int .u64 (sw (acc lo hi k) 3 : Nat)], .int .u8 k] w fun e w' => e = .returned (SV (acc lo hi (k + 1))) ∧ Below w.heap.size w w') := fun w => Lib.hid (by rw [← HE.out]; exact radd_any (acc lo hi k) k hlt w)
        go_wp2_with fail
        refine (HA _).out.mono ?_
        rintro e w1 ⟨rfl, hb1⟩
        have HN1 := Lib.hid (HN.out.next hb1)
        obtain ⟨⟨s0, s1, s2, s3⟩, ⟨u0, u1, u2, u3⟩, _, vz⟩ := HN1.out.facts
        clear hb1
        unfold SV
        go_wp2
        go_roundw
        case rel => exact ⟨k + 1, by omega, by go_num, HN1.out.put (acc lo hi (k + 1))⟩
        case measure => simp [intOf]; omega
      · have HE : Hid (acc lo hi (k + 1) = acc lo hi k) := Lib.hid (acc_out lo hi k hin)
        by_cases h1 : lo ≤ k
        · have h1I : (lo : Int) ≤ k := by omega
          have h2I : (hi : Int) < k := by omega
          clear hin
          go_wp2
          go_roundw
          case rel => exact ⟨k + 1, by omega, by go_num, by rw [HE.out]; exact HN.out⟩
          case measure => simp [intOf]; omega
        · have h1I : (k : Int) < lo := by omega
          clear hin
          go_wp2
          go_roundw
          case rel => exact ⟨k + 1, by omega, by go_num, by rw [HE.out]; exact HN.out⟩
          case measure => simp [intOf]; omega
    · obtain rfl : k = 256 := by omega
      clear hlt hk
      go_wp2
      exact bodyPost_ret (by simp [results, Tryd.results59, go_sem, c0, c1, c2, c3]; rfl) rfl ⟨by show Ending.returned (SV (acc lo hi 256)) = _; rw [HEND.out], res_below HN.out.1 _ _ _ _⟩
end Go.Proofs.YtopnckfmdjhbjaaDoor
