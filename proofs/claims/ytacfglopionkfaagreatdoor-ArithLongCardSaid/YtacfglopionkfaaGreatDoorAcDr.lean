/- Contracts of the reference's Digits and Const. -/
import Derived.Test.YtacfglopionkfaaGreatDoorKDg
import Derived.Test.YtacfglopionkfaaGreatDoorAcVr
namespace Go.Proofs.YtacfglopionkfaaGreatDoor
open Go.RowKit

theorem over_stays (m b d v : Int) (hb : 2 ≤ b) (hd : 0 ≤ d) (hm : 0 ≤ m) (h : ovr m v = true) : ovr m (v * b + d) = true := by
  unfold ovr at *
  simp only [decide_eq_true_eq] at *
  have : v * 1 ≤ v * b := Int.mul_le_mul_of_nonneg_left (by omega) (by omega)
  omega

theorem value_dig (c base : Int) (w : World) (h0 : 0 ≤ c) (h1 : c ≤ 255) (h : dgt c < base) (hb : base ≤ 16) :
    Calls Tryz.prog 109 #[.int .u8 c] w fun e w' => e = .returned (.int .i64 (dgt c)) ∧ w = w' := by
  have := value_any c w h0 h1
  unfold refv at this
  rwa [if_neg (by omega)] at this

set_option maxHeartbeats 4000000 in
theorem refDigits_cells (b o cap : Nat) (l : List Int) (base : Int) (w : World) (hb : 2 ≤ base) (hb2 : base ≤ 16)
    (hl : l.length ≤ 9223372036854775807) (hy : Byt l) (hc : Row w b o l) :
    Calls Tryz.prog 110 #[.slice (some ⟨b, o, none⟩) l.length cap, .int .i64 base] w
      fun e w' => e = .returned (.tuple #[.int .i64 (rV base 9223372036854775807 l), .int .i64 (rN base l), .bool (rO base 9223372036854775807 l)]) ∧ w = w' := by
  have HC := Lib.hid hc
  have HY := Lib.hid hy
  clear hc hy
  obtain ⟨n, hn⟩ : ∃ n, n = l.length := ⟨_, rfl⟩
  rw [← hn] at hl ⊢
  have HN := Lib.hid hn
  clear hn
  obtain ⟨M, hM⟩ : ∃ M : Int, M = 9223372036854775807 := ⟨_, rfl⟩
  have HM := Lib.hid hM
  rw [← hM]
  have hm : 16 ≤ M := by omega
  have hmm : M ≤ 9223372036854775807 := by omega
  clear hM
  go_enter Tryz.func110, Tryz.ntmps110
  go_wp2
  go_loop [7, 8, 9, 21] (fun v ov u i => ∃ k : Nat, ∃ x : Int, k ≤ n ∧ (∀ j, j < k → dig? base (l.getD j 0) = true) ∧ i = .int .i64 k ∧ u = .int .i64 k ∧ v = .int .u64 x ∧ ov = .bool (ovr M (valK base l k)) ∧ 0 ≤ x ∧ x ≤ M ∧ (ovr M (valK base l k) = false → x = cut M (valK base l k))) (fun _ _ _ i => n - (intOf i).toNat)
  case atStart => exact ⟨0, 0, Nat.zero_le _, fun j hj => absurd hj (by omega), rfl, rfl, rfl, by rw [valK_zero]; unfold ovr; simp; omega, by omega, by omega, fun _ => by rw [valK_zero]; unfold cut; rw [if_pos (by omega)]⟩
  case round =>
    obtain ⟨k, x, hk, hd, rfl, rfl, rfl, rfl, x0, x1, hx⟩ := hrel
    have HD := Lib.hid hd
    have HX := Lib.hid hx
    clear hd hx
    by_cases hlt : k < n
    · have hcell := HC.out k (by rw [← HN.out]; exact hlt)
      have hby := HY.out k
      have HS := Lib.hid (valK_succ base l k (by rw [← HN.out]; exact hlt))
      have hv0 := valK_nonneg base (by omega) l k (by rw [← HN.out]; omega)
      generalize hV : valK base l k = V at hv0 HS HX ⊢
      have HW := Lib.hid hV
      clear hV
      generalize hce : l.getD k 0 = c at hcell hby HS
      have HE := Lib.hid hce
      clear hce
      obtain ⟨y0, y1⟩ := hby
      obtain ⟨d0, d1⟩ := dgt_bd c
      by_cases hdb : dgt c < base
      · have HDD : Hid (∀ j, j < k + 1 → dig? base (l.getD j 0) = true) := by
          intro j hj
          by_cases hjk : j = k
          · rw [hjk, HE.out]; unfold dig?; simpa using hdb
          · exact HD.out j (by omega)
        by_cases ho : ovr M V = true
        · have HO := Lib.hid (over_stays M base (dgt c) V hb d0 (by omega) ho)
          rw [ho]
          clear ho
          go_wp2_with (go_at_call 109; refine (value_dig _ base _ y0 y1 (by assumption) hb2).mono ?_; rintro e w' ⟨rfl, rfl⟩)
          go_round
          case rel => exact ⟨k + 1, x, by omega, HDD.out, by go_num, by go_num, rfl, by rw [HS.out, HO.out], by omega, by omega, fun h => by rw [HS.out, HO.out] at h; cases h⟩
          case measure => simp [intOf]; omega
        · have ho' : ovr M V = false := by simpa using ho
          rw [ho']
          have hxv := HX.out ho'
          have HXV := Lib.hid hxv
          clear ho hxv
          by_cases hq : (M - dgt c) / base < x
          · have HO := Lib.hid (step_over M (dgt c) base V hb d0 hdb hv0 hm hb2 (by rw [← HXV.out]; exact hq))
            clear ho'
            have hq2 : (9223372036854775807 - dgt c) / base < x := by rw [← HM.out]; exact hq
            go_wp2_with (go_at_call 109; refine (value_dig _ base _ y0 y1 (by assumption) hb2).mono ?_; rintro e w' ⟨rfl, rfl⟩)
            go_round
            case rel => exact ⟨k + 1, x, by omega, HDD.out, by go_num, by go_num, rfl, by rw [HS.out, HO.out.2], by omega, by omega, fun h => by rw [HS.out, HO.out.2] at h; cases h⟩
            case measure => simp [intOf]; omega
          · have HO := Lib.hid (step_in M (dgt c) base V hb d0 hdb hv0 hm hb2 (by rw [← HXV.out]; exact hq))
            have hxV : x = V := by rw [HXV.out, HO.out.2.1]
            have hvb : x * base + dgt c ≤ M := by rw [hxV]; exact HO.out.2.2.1
            have hvb0 : 0 ≤ x * base := by rw [hxV]; exact Int.mul_nonneg hv0 (by omega)
            have HXV2 := Lib.hid hxV
            clear ho' hxV
            have hq2 : ¬ (9223372036854775807 - dgt c) / base < x := by rw [← HM.out]; exact hq
            go_wp2_with (go_at_call 109; refine (value_dig _ base _ y0 y1 (by assumption) hb2).mono ?_; rintro e w' ⟨rfl, rfl⟩)
            go_round
            case rel => exact ⟨k + 1, x * base + dgt c, by omega, HDD.out, by go_num, by go_num, rfl, by rw [HS.out, HO.out.2.2.2.2.1], by omega, by omega, fun _ => by rw [HS.out, HO.out.2.2.2.1, HXV2.out]⟩
            case measure => simp [intOf]; omega
      · have HR : Hid (rN base l = k) := pre_of _ l k (by rw [← HN.out]; omega) HD.out (fun _ => by rw [HE.out]; unfold dig?; simpa using hdb)
        have HV : Hid (rV base M l = cut M V ∧ rO base M l = ovr M V) := by unfold rV rO; rw [HR.out, HW.out]; exact ⟨rfl, rfl⟩
        have hrb : base ≤ refv c := by unfold refv; split <;> omega
        by_cases ho : ovr M V = true
        · have HO : Hid (ovr M V = true ∧ cut M V = M) := ⟨ho, by unfold ovr at ho; unfold cut; simp only [decide_eq_true_eq] at ho; rw [if_neg (by omega)]⟩
          rw [ho]
          clear ho
          go_wp2_with (go_at_call 109; refine (value_any _ _ y0 y1).mono ?_; rintro e w' ⟨rfl, rfl⟩)
          go_ret3
          exact ⟨ret_vnb (by rw [HV.out.1, HO.out.2, HM.out]) (by rw [HR.out]) (by rw [HV.out.2, HO.out.1]), rfl⟩
        · have ho' : ovr M V = false := by simpa using ho
          rw [ho']
          have HO : Hid (ovr M V = false ∧ x = cut M V) := ⟨ho', HX.out ho'⟩
          clear ho ho'
          go_wp2_with (go_at_call 109; refine (value_any _ _ y0 y1).mono ?_; rintro e w' ⟨rfl, rfl⟩)
          go_ret3
          exact ⟨ret_vnb (by rw [HV.out.1, HO.out.2]) (by rw [HR.out]) (by rw [HV.out.2, HO.out.1]), rfl⟩
    · obtain rfl : k = n := by omega
      have HR : Hid (rN base l = k) := pre_of _ l k (by rw [← HN.out]; omega) HD.out (fun h => absurd h (by rw [← HN.out]; omega))
      have HV : Hid (rV base M l = cut M (valK base l k) ∧ rO base M l = ovr M (valK base l k)) := by unfold rV rO; rw [HR.out]; exact ⟨rfl, rfl⟩
      generalize valK base l k = V at HV HX ⊢
      by_cases ho : ovr M V = true
      · have HO : Hid (ovr M V = true ∧ cut M V = M) := ⟨ho, by unfold ovr at ho; unfold cut; simp only [decide_eq_true_eq] at ho; rw [if_neg (by omega)]⟩
        rw [ho]
        clear ho
        go_wp2
        go_ret3
        exact ⟨ret_vnb (by rw [HV.out.1, HO.out.2, HM.out]) (by rw [HR.out]) (by rw [HV.out.2, HO.out.1]), rfl⟩
      · have ho' : ovr M V = false := by simpa using ho
        rw [ho']
        have HO : Hid (ovr M V = false ∧ x = cut M V) := ⟨ho', HX.out ho'⟩
        clear ho ho'
        go_wp2
        go_ret3
        exact ⟨ret_vnb (by rw [HV.out.1, HO.out.2]) (by rw [HR.out]) (by rw [HV.out.2, HO.out.1]), rfl⟩

set_option maxHeartbeats 4000000 in
theorem refDigits_none (a : Option Addr) (cap : Nat) (base : Int) (w : World) (hb : 2 ≤ base) (hb2 : base ≤ 16) :
    Calls Tryz.prog 110 #[.slice a 0 cap, .int .i64 base] w
      fun e w' => e = .returned (.tuple #[.int .i64 (rV base 9223372036854775807 []), .int .i64 (rN base []), .bool (rO base 9223372036854775807 [])]) ∧ w = w' := by
  have HV : Hid (rV base 9223372036854775807 [] = 0 ∧ rO base 9223372036854775807 [] = false ∧ rN base [] = 0) := by
    have e : rN base [] = 0 := rfl
    unfold rV rO cut ovr
    rw [e, valK_zero]
    exact ⟨if_pos (by omega), by simp, rfl⟩
  go_enter Tryz.func110, Tryz.ntmps110
  go_wp2
  go_loop [7, 8, 9, 21] (fun v ov u i => i = .int .i64 0 ∧ u = .int .i64 0 ∧ v = .int .u64 0 ∧ ov = .bool false) (fun _ _ _ _ => 0)
  case atStart => exact ⟨rfl, rfl, rfl, rfl⟩
  case round =>
    obtain ⟨rfl, rfl, rfl, rfl⟩ := hrel
    go_wp2
    go_ret3
    exact ⟨ret_vnb HV.out.1.symm (by rw [HV.out.2.2]; rfl) HV.out.2.1.symm, rfl⟩

theorem refDigits_no (v : Value) (base : Int) (w : World) (h : ¬ (2 ≤ base ∧ base ≤ 16)) :
    Calls Tryz.prog 110 #[v, .int .i64 base] w fun e w' => e = .returned (.tuple #[.int .i64 0, .int .i64 0, .bool false]) ∧ w = w' := by
  rcases (by omega : base < 2 ∨ (2 ≤ base ∧ 16 < base)) with h1 | ⟨h1, h2⟩
  all_goals
    clear h
    go_enter Tryz.func110, Tryz.ntmps110
    go_wp2
    all_goals
      go_ret3
      exact ⟨rfl, rfl⟩

theorem refDigits_any (v : Value) (l : List Int) (base : Int) (w : World) (hs : Sl w v l) :
    Calls Tryz.prog 110 #[v, .int .i64 base] w fun e w' => e = .returned (.tuple #[.int .i64 (gV base l), .int .i64 (gN base l), .bool (gO base l)]) ∧ w = w' := by
  unfold gV gN gO
  by_cases h : 2 ≤ base ∧ base ≤ 16
  · rw [if_pos h, if_pos h, if_pos h]
    obtain ⟨hy, hl, ⟨rfl, a, cap, rfl⟩ | ⟨b, o, cap, rfl, hcl, hcm, hr⟩⟩ := hs
    · exact refDigits_none a cap base w h.1 h.2
    · exact refDigits_cells b o cap l base w h.1 h.2 hl hy hr
  · rw [if_neg h, if_neg h, if_neg h]; exact refDigits_no v base w h

theorem refv_lt (c : Int) : refv c < 16 ↔ dgt c < 16 := by
  have := dgt_bd c
  unfold refv
  split <;> omega

set_option maxHeartbeats 4000000 in
theorem refConst_hex (b o cap : Nat) (l : List Int) (w : World) (hy : Byt l) (hl : l.length ≤ 9223372036854775807) (hcl : l.length ≤ cap) (hcm : cap ≤ 9223372036854775807) (hc : Row w b o l) (hx : hexB l = true) :
    Calls Tryz.prog 79 #[.slice (some ⟨b, o, none⟩) l.length cap] w fun e w' => e = .returned (.tuple #[.int .i64 (cV l), .int .i64 (cN l), .bool (cO l)]) ∧ w = w' := by
  have HD := Lib.hid (refDigits_any _ _ 16 w (Sl.drop hy hl hcl hcm hc 2 (by unfold hexB at hx; simp at hx; omega)))
  have hgn := gN_le 16 (l.drop 2)
  simp only [List.length_drop] at hgn
  unfold cV cN cO
  rw [if_pos hx, if_pos hx, if_pos hx]
  generalize gV 16 (l.drop 2) = x at *
  generalize gN 16 (l.drop 2) = y at *
  generalize gO 16 (l.drop 2) = z at *
  unfold hexB at hx
  simp only [Bool.and_eq_true, decide_eq_true_eq, Bool.or_eq_true, beq_iff_eq] at hx
  obtain ⟨⟨⟨hlen, hx0⟩, hx1⟩, hx2⟩ := hx
  have k0 := hc 0 (by omega)
  have k1 := hc 1 (by omega)
  have k2 := hc 2 (by omega)
  simp only [Nat.add_zero] at k0
  have y2 := hy 2
  have hr2 := (refv_lt (l.getD 2 0)).2 hx2
  rw [hx0] at k0
  generalize l.getD 1 0 = c1 at *
  generalize l.getD 2 0 = c2 at *
  clear hc hy hx0
  generalize l.length = n at *
  have hlen' : (2 : Int) < n := by omega
  obtain ⟨y20, y21⟩ := y2
  rcases hx1 with rfl | rfl
  all_goals
    go_enter Tryz.func79, Tryz.ntmps79
    go_wp2_with (first | (go_at_call 109; refine (value_any _ _ y20 y21).mono ?_; rintro e w' ⟨rfl, rfl⟩) | (go_at_call 110; refine HD.out.mono ?_; rintro e w' ⟨rfl, rfl⟩))
    go_ret3
    exact ⟨ret_vnb rfl (by omega) rfl, rfl⟩

set_option maxHeartbeats 4000000 in
theorem refConst_dec (b o cap : Nat) (l : List Int) (w : World) (hy : Byt l) (hl : l.length ≤ 9223372036854775807) (hcl : l.length ≤ cap) (hcm : cap ≤ 9223372036854775807) (hc : Row w b o l) (hx : hexB l = false) :
    Calls Tryz.prog 79 #[.slice (some ⟨b, o, none⟩) l.length cap] w fun e w' => e = .returned (.tuple #[.int .i64 (cV l), .int .i64 (cN l), .bool (cO l)]) ∧ w = w' := by
  have hx' : ¬ hexB l = true := by rw [hx]; simp
  unfold cV cN cO
  rw [if_neg hx', if_neg hx', if_neg hx']
  have hsl : Sl w (.slice (some ⟨b, o, none⟩) l.length cap) l := ⟨hy, hl, Or.inr ⟨b, o, cap, rfl, hcl, hcm, hc⟩⟩
  have HD8 := Lib.hid (refDigits_any _ _ 8 w hsl)
  have HD10 := Lib.hid (refDigits_any _ _ 10 w hsl)
  clear hsl
  unfold hexB at hx'
  simp only [Bool.and_eq_true, decide_eq_true_eq, Bool.or_eq_true, beq_iff_eq] at hx'
  have hcase : (l.length = 0 ∧ l.getD 0 0 = 0) ∨ (0 < l.length ∧ l.length ≤ 2) ∨ 2 < l.length := by
    by_cases h : l.length = 0
    · left; refine ⟨h, ?_⟩; rw [List.length_eq_zero_iff.1 h]; rfl
    · right; omega
  unfold cB
  clear hx
  rcases hcase with ⟨h0, hz⟩ | ⟨h0, h2⟩ | h2
  · rw [hz, if_neg (by omega)]
    clear hc hy hx' hz
    generalize l.length = n at *
    subst h0
    go_enter Tryz.func79, Tryz.ntmps79
    go_wp2_with (go_at_call 110; refine HD10.out.mono ?_; rintro e w' ⟨rfl, rfl⟩)
    all_goals first | (exfalso; omega) | (go_ret3; exact ⟨rfl, rfl⟩)
  · have k0 := hc 0 h0
    simp only [Nat.add_zero] at k0
    clear hc hy hx'
    generalize l.getD 0 0 = c0 at *
    generalize l.length = n at *
    have h0' : (0 : Int) < n := by omega
    by_cases hc0 : c0 = 48
    · subst hc0
      rw [if_pos rfl]
      go_enter Tryz.func79, Tryz.ntmps79
      go_wp2_with (go_at_call 110; (with_reducible refine HD8.out.mono ?_); rintro e w' ⟨rfl, rfl⟩)
      all_goals first | (exfalso; omega) | (go_ret3; exact ⟨rfl, rfl⟩)
    · rw [if_neg hc0]
      have hc0' : ((c0 : Int) == 48) = false := by simpa using hc0
      go_enter Tryz.func79, Tryz.ntmps79
      go_wp2_with (go_at_call 110; (with_reducible refine HD10.out.mono ?_); rintro e w' ⟨rfl, rfl⟩)
      all_goals first | (exfalso; omega) | (go_ret3; exact ⟨rfl, rfl⟩)
  · have k0 := hc 0 (by omega)
    have k1 := hc 1 (by omega)
    have k2 := hc 2 (by omega)
    simp only [Nat.add_zero] at k0
    have y2 := hy 2
    have hr2 := refv_lt (l.getD 2 0)
    clear hc hy
    generalize l.getD 0 0 = c0 at *
    generalize l.getD 1 0 = c1 at *
    generalize l.getD 2 0 = c2 at *
    generalize l.length = n at *
    have h2' : (2 : Int) < n := by omega
    have h00 : (0 : Int) < n := by omega
    have h000 : 0 < n := by omega
    obtain ⟨y20, y21⟩ := y2
    by_cases hc0 : c0 = 48
    · subst hc0
      rw [if_pos rfl]
      by_cases h120 : c1 = 120
      · subst h120
        have hn : ¬ refv c2 < 16 := fun h => hx' ⟨⟨⟨h2, rfl⟩, Or.inl rfl⟩, hr2.1 h⟩
        clear hx' hr2
        go_enter Tryz.func79, Tryz.ntmps79
        go_wp2_with (first | (go_at_call 109; refine (value_any _ _ y20 y21).mono ?_; rintro e w' ⟨rfl, rfl⟩) | (go_at_call 110; (with_reducible refine HD8.out.mono ?_); rintro e w' ⟨rfl, rfl⟩))
        all_goals first | (exfalso; omega) | (go_ret3; exact ⟨rfl, rfl⟩)
      · have e120 : ((c1 : Int) == 120) = false := by simpa using h120
        by_cases h88 : c1 = 88
        · subst h88
          have hn : ¬ refv c2 < 16 := fun h => hx' ⟨⟨⟨h2, rfl⟩, Or.inr rfl⟩, hr2.1 h⟩
          clear hx' hr2
          go_enter Tryz.func79, Tryz.ntmps79
          go_wp2_with (first | (go_at_call 109; refine (value_any _ _ y20 y21).mono ?_; rintro e w' ⟨rfl, rfl⟩) | (go_at_call 110; (with_reducible refine HD8.out.mono ?_); rintro e w' ⟨rfl, rfl⟩))
          all_goals first | (exfalso; omega) | (go_ret3; exact ⟨rfl, rfl⟩)
        · have e88 : ((c1 : Int) == 88) = false := by simpa using h88
          clear hx' hr2 h88 h120
          go_enter Tryz.func79, Tryz.ntmps79
          go_wp2_with (first | (go_at_call 109; refine (value_any _ _ y20 y21).mono ?_; rintro e w' ⟨rfl, rfl⟩) | (go_at_call 110; (with_reducible refine HD8.out.mono ?_); rintro e w' ⟨rfl, rfl⟩))
          all_goals first | (exfalso; omega) | (go_ret3; exact ⟨rfl, rfl⟩)
    · rw [if_neg hc0]
      have hc0' : ((c0 : Int) == 48) = false := by simpa using hc0
      clear hx' hr2 hc0
      go_enter Tryz.func79, Tryz.ntmps79
      go_wp2_with (first | (go_at_call 109; refine (value_any _ _ y20 y21).mono ?_; rintro e w' ⟨rfl, rfl⟩) | (go_at_call 110; (with_reducible refine HD10.out.mono ?_); rintro e w' ⟨rfl, rfl⟩))
      all_goals first | (exfalso; omega) | (go_ret3; exact ⟨rfl, rfl⟩)

theorem refConst_none (a : Option Addr) (cap : Nat) (w : World) :
    Calls Tryz.prog 79 #[.slice a 0 cap] w fun e w' => e = .returned (.tuple #[.int .i64 (cV []), .int .i64 (cN []), .bool (cO [])]) ∧ w = w' := by
  have hsl : Sl w (.slice a 0 cap) [] := ⟨fun i => by simp, by simp, Or.inl ⟨rfl, a, cap, rfl⟩⟩
  have HD10 := Lib.hid (refDigits_any _ _ 10 w hsl)
  have e2 : cV [] = gV 10 [] := rfl
  have e3 : cN [] = gN 10 [] := rfl
  have e4 : cO [] = gO 10 [] := rfl
  rw [e2, e3, e4]
  clear e2 e3 e4 hsl
  go_enter Tryz.func79, Tryz.ntmps79
  go_wp2_with (go_at_call 110; refine HD10.out.mono ?_; rintro e w' ⟨rfl, rfl⟩)
  go_ret3
  exact ⟨rfl, rfl⟩

theorem refConst_any (v : Value) (l : List Int) (w : World) (hs : Sl w v l) :
    Calls Tryz.prog 79 #[v] w fun e w' => e = .returned (.tuple #[.int .i64 (cV l), .int .i64 (cN l), .bool (cO l)]) ∧ w = w' := by
  obtain ⟨hy, hl, ⟨rfl, a, cap, rfl⟩ | ⟨b, o, cap, rfl, hcl, hcm, hr⟩⟩ := hs
  · exact refConst_none a cap w
  · cases hx : hexB l with
    | true => exact refConst_hex b o cap l w hy hl hcl hcm hr hx
    | false => exact refConst_dec b o cap l w hy hl hcl hcm hr hx
end Go.Proofs.YtacfglopionkfaaGreatDoor
