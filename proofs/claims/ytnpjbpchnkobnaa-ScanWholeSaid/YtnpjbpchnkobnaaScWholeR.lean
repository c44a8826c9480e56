/- The walk of the reference's Whole, and of the statement on whole texts as numbers. -/
import Derived.Test.YtnpjbpchnkobnaaScWhole
namespace Go.Proofs.Ytnpjbpchnkobnaa
open Go.RowKit

theorem valK_mono (b : Int) (hb : 1 ≤ b) (l : List Int) (k j : Nat) (h : k ≤ j) (hj : j ≤ l.length) : valK b l k ≤ valK b l j := by
  induction j with
  | zero => obtain rfl : k = 0 := by omega
            exact Int.le_refl _
  | succ j ih =>
    by_cases hk : k = j + 1
    · rw [hk]; exact Int.le_refl _
    · have h1 := ih (by omega) (by omega)
      rw [valK_succ _ _ _ (by omega)]
      have h0 := valK_nonneg b (by omega) l j (by omega)
      have h2 : valK b l j * 1 ≤ valK b l j * b := Int.mul_le_mul_of_nonneg_left hb h0
      have := (dgt_bd (l.getD j 0)).1
      omega

theorem wOk_stop (l : List Int) (k : Nat) (hk : k < (wD l).length) (h1 : ∀ j, j < k → dig? 10 ((wD l).getD j 0) = true) (h2 : dig? 10 ((wD l).getD k 0) = false) : wOk l = false := by
  have e : rN 10 (wD l) = k := pre_of _ _ k (by omega) h1 (fun _ => h2)
  unfold wOk
  rw [e]
  simp
  omega
theorem wOk_great (l : List Int) (k : Nat) (hk : k ≤ (wD l).length) (h : 9223372036854775808 < valK 10 (wD l) k) : wOk l = false := by
  have h1 := valK_mono 10 (by omega) (wD l) k _ hk (Nat.le_refl _)
  have h2 : wM l ≤ 9223372036854775808 := by unfold wM; split <;> omega
  unfold wOk
  simp
  intro _ _
  omega
theorem wOk_end (l : List Int) (h0 : 0 < (wD l).length) (h1 : ∀ j, j < (wD l).length → dig? 10 ((wD l).getD j 0) = true) : wOk l = decide (valK 10 (wD l) (wD l).length ≤ wM l) := by
  have e : rN 10 (wD l) = (wD l).length := pre_of _ _ _ (Nat.le_refl _) h1 (fun h => absurd h (by omega))
  unfold wOk
  rw [e]
  simp [h0]
theorem wV_no (l : List Int) (h : wOk l = false) : wV l = 0 := by unfold wV; rw [h]; rfl
theorem dig10 (c : Int) : dig? 10 c = decide (48 ≤ c ∧ c ≤ 57) := by
  unfold dig? dgt
  rw [Bool.eq_iff_iff]
  simp
  split <;> (try split) <;> (try split) <;> omega
theorem dgt10 (c : Int) (h : 48 ≤ c ∧ c ≤ 57) : dgt c = c - 48 := by unfold dgt; rw [if_pos h]
theorem wrap_neg2 (x : Int) (h0 : 0 ≤ x) (h1 : x ≤ 9223372036854775808) : wrap64 (-(wrap64 x)) = -x := by
  unfold wrap64
  omega

set_option maxHeartbeats 4000000 in
theorem refWhole_yes (s : ByteArray) (w : World) (hs : s.size ≤ 9223372036854775807) (h : (bys s).getD 0 0 = 45) :
    Calls Try.prog 26 #[.string s] w fun e w' => e = .returned (.tuple #[.int .i64 (wV (bys s)), .bool (wOk (bys s))]) ∧ Below w.heap.size w w' := by
  have hwd : wD (bys s) = bys (s.extract 1 s.size) := by unfold wD; rw [if_pos h, bys_minus]
  have hwm : wM (bys s) = 9223372036854775808 := by unfold wM; rw [if_pos h]
  have HG : Hid (wV (bys s) = if wOk (bys s) = true then - valK 10 (wD (bys s)) (wD (bys s)).length else 0) := Lib.hid (by unfold wV; rw [if_pos h])
  have hlen : (bys (s.extract 1 s.size)).length = s.size - 1 := by rw [bys_length]; simp
  have HST := Lib.hid (wOk_stop (bys s))
  have HGR := Lib.hid (wOk_great (bys s))
  have HEN := Lib.hid (wOk_end (bys s))
  have HNO := Lib.hid (wV_no (bys s))
  have HW0 : Hid ((wD (bys s)).length = 0 → wOk (bys s) = false) := fun h0 => by unfold wOk; rw [h0]; simp
  rw [hwd, hlen] at HST HGR HEN HG HW0
  rw [hwm] at HEN
  clear hwd hwm
  obtain ⟨cap, W1, hconv, hrow, hbel, hsz⟩ := conv_bytes w (s.extract 1 s.size)
  have HROW : Hid (Row W1 w.heap.size 0 (bys (s.extract 1 s.size))) := hrow
  have HBEL := Lib.hid hbel
  have HY := Lib.hid (bys_byt (s.extract 1 s.size))
  have HL := Lib.hid hlen
  have HVS := Lib.hid (fun k (hk : k < (bys (s.extract 1 s.size)).length) => valK_succ 10 (bys (s.extract 1 s.size)) k hk)
  have HV0 := Lib.hid (fun k (hk : k ≤ (bys (s.extract 1 s.size)).length) => valK_nonneg 10 (by omega) (bys (s.extract 1 s.size)) k hk)
  clear hrow hbel hlen
  have hp := minus_pos s h
  have hp' : (0 : Int) < s.size := by omega
  have hgs := bys_getD s 0 hp
  rw [hgs] at h
  clear hgs
  have hdz : (s.extract 1 s.size).size = s.size - 1 := by simp
  rw [hdz] at hconv
  clear hdz
  generalize wV (bys s) = av at *
  generalize wOk (bys s) = bo at *
  generalize bys (s.extract 1 s.size) = l at HST HGR HEN HG HROW HY HL HVS HV0
  by_cases hz : s.size - 1 = 0
  · have HZ : Hid (bo = false) := Lib.hid (HW0.out hz)
    have hz1 : s.size - 1 ≤ 0 := by omega
    clear hz
    go_enter Try.func26, Try.ntmps26
    go_wp2
    go_loop [5, 26] (fun v i => ∃ k : Nat, ∃ x : Int, k ≤ s.size - 1 ∧ (∀ j, j < k → dig? 10 (l.getD j 0) = true) ∧ i = .int .i64 k ∧ v = .int .u64 x ∧ x = valK 10 l k ∧ 0 ≤ x ∧ x ≤ 9223372036854775808) (fun _ i => s.size - 1 - (intOf i).toNat)
    case atStart => exact ⟨0, 0, Nat.zero_le _, fun j hj => absurd hj (by omega), rfl, rfl, rfl, by omega, by omega⟩
    case round =>
      obtain ⟨k, x, hk, hd, rfl, rfl, hx, x0, x1⟩ := hrel
      have HD := Lib.hid hd
      have HX := Lib.hid hx
      clear hd hx
      by_cases hlt : k < s.size - 1
      · exfalso; omega
      · obtain rfl : k = s.size - 1 := by omega
        have HA : Hid (av = 0 ∧ bo = false) := ⟨HNO.out HZ.out, HZ.out⟩
        go_wp2
        all_goals first | (exfalso; omega) | (go_ret2; exact ⟨ret_vb HA.out.1.symm HA.out.2.symm, HBEL.out⟩)
  · have hz1 : (0 : Int) < s.size - 1 := by omega
    go_enter Try.func26, Try.ntmps26
    go_wp2
    go_loop [5, 26] (fun v i => ∃ k : Nat, ∃ x : Int, k ≤ s.size - 1 ∧ (∀ j, j < k → dig? 10 (l.getD j 0) = true) ∧ i = .int .i64 k ∧ v = .int .u64 x ∧ x = valK 10 l k ∧ 0 ≤ x ∧ x ≤ 9223372036854775808) (fun _ i => s.size - 1 - (intOf i).toNat)
    case atStart => exact ⟨0, 0, Nat.zero_le _, fun j hj => absurd hj (by omega), rfl, rfl, rfl, by omega, by omega⟩
    case round =>
      obtain ⟨k, x, hk, hd, rfl, rfl, hx, x0, x1⟩ := hrel
      have HD := Lib.hid hd
      have HX := Lib.hid hx
      clear hd hx
      by_cases hlt : k < s.size - 1
      · skip
        have hcell := HROW.out k (by rw [HL.out]; exact hlt)
        rw [Nat.zero_add] at hcell
        have hby := HY.out k
        have HS := Lib.hid (HVS.out k (by rw [HL.out]; exact hlt))
        rw [← HX.out] at HS
        generalize hce : l.getD k 0 = c at hcell hby HS
        have HE := Lib.hid hce
        clear hce
        obtain ⟨y0, y1⟩ := hby
        by_cases hdc : 48 ≤ c ∧ c ≤ 57
        · have HDD : Hid (∀ j, j < k + 1 → dig? 10 (l.getD j 0) = true) := by
            intro j hj
            by_cases hjk : j = k
            · rw [hjk, HE.out, dig10]; simpa using hdc
            · exact HD.out j (by omega)
          rw [dgt10 c hdc] at HS
          obtain ⟨hd1, hd2⟩ := hdc
          by_cases hg : 922337203685477580 < x
          · have HA : Hid (av = 0 ∧ bo = false) := by
              have := HGR.out (k + 1) (by omega) (by rw [HS.out]; omega)
              exact ⟨HNO.out this, this⟩
            go_wp2
            all_goals first | (exfalso; omega) | (go_ret2; exact ⟨ret_vb HA.out.1.symm HA.out.2.symm, HBEL.out⟩)
          · by_cases hg2 : 9223372036854775808 < x * 10 + (c - 48)
            · have HA : Hid (av = 0 ∧ bo = false) := by
                have := HGR.out (k + 1) (by omega) (by rw [HS.out]; omega)
                exact ⟨HNO.out this, this⟩
              go_wp2
              all_goals first | (exfalso; omega) | (go_ret2; exact ⟨ret_vb HA.out.1.symm HA.out.2.symm, HBEL.out⟩)
            · go_wp2
              all_goals
                first
                  | (exfalso; omega)
                  | (go_round
                     case rel => exact ⟨k + 1, x * 10 + (c - 48), by omega, HDD.out, by go_num, rfl, HS.out.symm, by omega, by omega⟩
                     case measure => simp [intOf]; omega)
        · have HA : Hid (av = 0 ∧ bo = false) := by
            have := HST.out k (by omega) HD.out (by rw [HE.out, dig10]; simpa using hdc)
            exact ⟨HNO.out this, this⟩
          rcases (by omega : c < 48 ∨ 57 < c) with hc | hc
          all_goals
            go_wp2
            all_goals first | (exfalso; omega) | (go_ret2; exact ⟨ret_vb HA.out.1.symm HA.out.2.symm, HBEL.out⟩)
      · obtain rfl : k = s.size - 1 := by omega
        have HA : Hid (-x = av ∧ true = bo) := by
          have h1 := HEN.out (by omega) HD.out
          rw [← HX.out, decide_eq_true x1] at h1
          exact ⟨by rw [HG.out, h1, if_pos rfl, HX.out], h1.symm⟩
        go_wp2
        all_goals first | (exfalso; omega) | (go_ret2; exact ⟨ret_vb (by rw [wrap_neg2 _ x0 x1]; exact HA.out.1) HA.out.2, HBEL.out⟩)

set_option maxHeartbeats 4000000 in
theorem refWhole_no (s : ByteArray) (w : World) (hs : s.size ≤ 9223372036854775807) (h : ¬ (bys s).getD 0 0 = 45) :
    Calls Try.prog 26 #[.string s] w fun e w' => e = .returned (.tuple #[.int .i64 (wV (bys s)), .bool (wOk (bys s))]) ∧ Below w.heap.size w w' := by
  have hwd : wD (bys s) = bys (s) := by unfold wD; rw [if_neg h]
  have hwm : wM (bys s) = 9223372036854775807 := by unfold wM; rw [if_neg h]
  have HG : Hid (wV (bys s) = if wOk (bys s) = true then valK 10 (wD (bys s)) (wD (bys s)).length else 0) := Lib.hid (by unfold wV; rw [if_neg h])
  have hlen : (bys (s)).length = s.size := bys_length s
  have HST := Lib.hid (wOk_stop (bys s))
  have HGR := Lib.hid (wOk_great (bys s))
  have HEN := Lib.hid (wOk_end (bys s))
  have HNO := Lib.hid (wV_no (bys s))
  have HW0 : Hid ((wD (bys s)).length = 0 → wOk (bys s) = false) := fun h0 => by unfold wOk; rw [h0]; simp
  rw [hwd, hlen] at HST HGR HEN HG HW0
  rw [hwm] at HEN
  clear hwd hwm
  obtain ⟨cap, W1, hconv, hrow, hbel, hsz⟩ := conv_bytes w (s)
  have HROW : Hid (Row W1 w.heap.size 0 (bys (s))) := hrow
  have HBEL := Lib.hid hbel
  have HY := Lib.hid (bys_byt (s))
  have HL := Lib.hid hlen
  have HVS := Lib.hid (fun k (hk : k < (bys (s)).length) => valK_succ 10 (bys (s)) k hk)
  have HV0 := Lib.hid (fun k (hk : k ≤ (bys (s)).length) => valK_nonneg 10 (by omega) (bys (s)) k hk)
  clear hrow hbel hlen
  have h45 : 0 < s.size → ∀ hh : 0 < s.size, ¬ (s[0].toNat : Int) = 45 := fun _ hh => by rw [← bys_getD s 0 hh]; exact h
  clear h
  generalize wV (bys s) = av at *
  generalize wOk (bys s) = bo at *
  generalize bys (s) = l at HST HGR HEN HG HROW HY HL HVS HV0
  by_cases hz : s.size = 0
  · have HZ : Hid (bo = false) := Lib.hid (HW0.out hz)
    have hz1 : s.size ≤ 0 := by omega
    clear hz h45
    go_enter Try.func26, Try.ntmps26
    go_wp2
    go_loop [5, 26] (fun v i => ∃ k : Nat, ∃ x : Int, k ≤ s.size ∧ (∀ j, j < k → dig? 10 (l.getD j 0) = true) ∧ i = .int .i64 k ∧ v = .int .u64 x ∧ x = valK 10 l k ∧ 0 ≤ x ∧ x ≤ 9223372036854775808) (fun _ i => s.size - (intOf i).toNat)
    case atStart => exact ⟨0, 0, Nat.zero_le _, fun j hj => absurd hj (by omega), rfl, rfl, rfl, by omega, by omega⟩
    case round =>
      obtain ⟨k, x, hk, hd, rfl, rfl, hx, x0, x1⟩ := hrel
      have HD := Lib.hid hd
      have HX := Lib.hid hx
      clear hd hx
      by_cases hlt : k < s.size
      · exfalso; omega
      · obtain rfl : k = s.size := by omega
        have HA : Hid (av = 0 ∧ bo = false) := ⟨HNO.out HZ.out, HZ.out⟩
        go_wp2
        all_goals first | (exfalso; omega) | (go_ret2; exact ⟨ret_vb HA.out.1.symm HA.out.2.symm, HBEL.out⟩)
  · have hz1 : (0 : Int) < s.size := by omega
    have hz2 : 0 < s.size := by omega
    have hz3 := h45 hz2 hz2
    have hz4 : ((s[0].toNat : Int) == 45) = false := by simpa using hz3
    clear h45
    go_enter Try.func26, Try.ntmps26
    go_wp2
    go_loop [5, 26] (fun v i => ∃ k : Nat, ∃ x : Int, k ≤ s.size ∧ (∀ j, j < k → dig? 10 (l.getD j 0) = true) ∧ i = .int .i64 k ∧ v = .int .u64 x ∧ x = valK 10 l k ∧ 0 ≤ x ∧ x ≤ 9223372036854775808) (fun _ i => s.size - (intOf i).toNat)
    case atStart => exact ⟨0, 0, Nat.zero_le _, fun j hj => absurd hj (by omega), rfl, rfl, rfl, by omega, by omega⟩
    case round =>
      obtain ⟨k, x, hk, hd, rfl, rfl, hx, x0, x1⟩ := hrel
      have HD := Lib.hid hd
      have HX := Lib.hid hx
      clear hd hx
      by_cases hlt : k < s.size
      · skip
        have hcell := HROW.out k (by rw [HL.out]; exact hlt)
        rw [Nat.zero_add] at hcell
        have hby := HY.out k
        have HS := Lib.hid (HVS.out k (by rw [HL.out]; exact hlt))
        rw [← HX.out] at HS
        generalize hce : l.getD k 0 = c at hcell hby HS
        have HE := Lib.hid hce
        clear hce
        obtain ⟨y0, y1⟩ := hby
        by_cases hdc : 48 ≤ c ∧ c ≤ 57
        · have HDD : Hid (∀ j, j < k + 1 → dig? 10 (l.getD j 0) = true) := by
            intro j hj
            by_cases hjk : j = k
            · rw [hjk, HE.out, dig10]; simpa using hdc
            · exact HD.out j (by omega)
          rw [dgt10 c hdc] at HS
          obtain ⟨hd1, hd2⟩ := hdc
          by_cases hg : 922337203685477580 < x
          · have HA : Hid (av = 0 ∧ bo = false) := by
              have := HGR.out (k + 1) (by omega) (by rw [HS.out]; omega)
              exact ⟨HNO.out this, this⟩
            go_wp2
            all_goals first | (exfalso; omega) | (go_ret2; exact ⟨ret_vb HA.out.1.symm HA.out.2.symm, HBEL.out⟩)
          · by_cases hg2 : 9223372036854775808 < x * 10 + (c - 48)
            · have HA : Hid (av = 0 ∧ bo = false) := by
                have := HGR.out (k + 1) (by omega) (by rw [HS.out]; omega)
                exact ⟨HNO.out this, this⟩
              go_wp2
              all_goals first | (exfalso; omega) | (go_ret2; exact ⟨ret_vb HA.out.1.symm HA.out.2.symm, HBEL.out⟩)
            · go_wp2
              all_goals
                first
                  | (exfalso; omega)
                  | (go_round
                     case rel => exact ⟨k + 1, x * 10 + (c - 48), by omega, HDD.out, by go_num, rfl, HS.out.symm, by omega, by omega⟩
                     case measure => simp [intOf]; omega)
        · have HA : Hid (av = 0 ∧ bo = false) := by
            have := HST.out k (by omega) HD.out (by rw [HE.out, dig10]; simpa using hdc)
            exact ⟨HNO.out this, this⟩
          rcases (by omega : c < 48 ∨ 57 < c) with hc | hc
          all_goals
            go_wp2
            all_goals first | (exfalso; omega) | (go_ret2; exact ⟨ret_vb HA.out.1.symm HA.out.2.symm, HBEL.out⟩)
      · obtain rfl : k = s.size := by omega
        by_cases hx : x ≤ 9223372036854775807
        · have HA : Hid (x = av ∧ true = bo) := by
            have h1 := HEN.out (by omega) HD.out
            rw [← HX.out, decide_eq_true hx] at h1
            exact ⟨by rw [HG.out, h1, if_pos rfl, HX.out], h1.symm⟩
          go_wp2
          all_goals first | (exfalso; omega) | (go_ret2; exact ⟨ret_vb HA.out.1 HA.out.2, HBEL.out⟩)
        · have HA : Hid (av = 0 ∧ bo = false) := by
            have h1 := HEN.out (by omega) HD.out
            rw [← HX.out, decide_eq_false hx] at h1
            exact ⟨HNO.out h1, h1⟩
          go_wp2
          all_goals first | (exfalso; omega) | (go_ret2; exact ⟨ret_vb HA.out.1.symm HA.out.2.symm, HBEL.out⟩)

theorem refWhole_any (s : ByteArray) (w : World) (hs : s.size ≤ 9223372036854775807) :
    Calls Try.prog 26 #[.string s] w fun e w' => e = .returned (.tuple #[.int .i64 (wV (bys s)), .bool (wOk (bys s))]) ∧ Below w.heap.size w w' := by
  by_cases h : (bys s).getD 0 0 = 45
  · exact refWhole_yes s w hs h
  · exact refWhole_no s w hs h

set_option maxHeartbeats 4000000 in
theorem lawWhole_any (s : ByteArray) (w : World) (hs : s.size ≤ 9223372036854775807) :
    Calls Try.prog 5 #[.string s] w fun e w' => e = .returned (.bool true) ∧ Below w.heap.size w w' := by
  have H1 := Lib.hid (whole_any s w hs)
  have H2 := Lib.hid (refWhole_any s w hs)
  generalize wV (bys s) = x at *
  generalize wOk (bys s) = y at *
  clear hs
  go_enter Try.func5, Try.ntmps5
  go_wp2_with fail
  refine H1.out.mono ?_; rintro e w' ⟨rfl, rfl⟩
  go_wp2_with fail
  refine H2.out.mono ?_; rintro e w' ⟨rfl, hb1⟩
  go_wp2_with fail
  refine (awake_any _).mono ?_; rintro e w' ⟨rfl, hb⟩
  go_wp2
  go_ret
  exact ⟨rfl, hb1.trans (hb.mono hb1.size)⟩

theorem scanWhole_open {H : Type} {enc : TypeId × Value → H} {d0 : DataW H} {p0 : List MemPlace} {q : Prop} (W : World) (base : Nat) (v0 : Value)
    (h0 : DataW.Trod enc Try.prog W 0 (fun _ => true) true 9 v0 d0 p0) (k0 : Value.okWide Try.prog W .any base 9 v0) (_ : q) :
    Calls Try.prog 5 #[v0] W fun e W' => e = .returned (.bool true) ∧ Below W.heap.size W W' := by
  obtain ⟨s, rfl, _, _, hs⟩ := Go.ChangeMaps.open_string Try.underlying9 k0 h0
  exact lawWhole_any s W hs
end Go.Proofs.Ytnpjbpchnkobnaa
