/- The contract of strconv's formatBits at the bases 2, 4, 8, 16. -/
import Derived.Test.YtnpjbpchnkobnaaDoorScFmt
import Derived.Lib.LaidTab
import Derived.Laws.BitsAllLaws
namespace Go.Proofs.YtnpjbpchnkobnaaDoor
open Go.RowKit

/-- What the table of trailing noughts holds at the powers of two. -/
def DB (w : World) : Prop := w.cell? ⟨6, 1, none⟩ = some (.int .u8 1) ∧ w.cell? ⟨6, 3, none⟩ = some (.int .u8 2) ∧ w.cell? ⟨6, 7, none⟩ = some (.int .u8 3) ∧ w.cell? ⟨6, 15, none⟩ = some (.int .u8 4)

theorem DB.below {w w' : World} (h : DB w) (hb : Below w.heap.size w w') : DB w' := by
  have hlt : 6 < w.heap.size := by
    have := World.block_lt_of_cell? _ _ h.1
    simpa using this
  obtain ⟨h1, h2, h3, h4⟩ := h
  exact ⟨by rw [hb.cell hlt]; exact h1, by rw [hb.cell hlt]; exact h2, by rw [hb.cell hlt]; exact h3, by rw [hb.cell hlt]; exact h4⟩

set_option maxHeartbeats 4000000 in
theorem trail_2 (w : World) (h : DB w) :
    Calls Tryd.prog 48 #[.int .u64 2] w fun e w' => e = .returned (.int .i64 1) ∧ w = w' := by
  obtain ⟨d1, d2, d3, d4⟩ := h
  have e1 : bits BinOp.and IntKind.u64 2 (IntKind.u64.wrap (-2)) = 2 := by kernel_rfl
  have e2 : IntKind.u64.wrap (2 * 285870213051353865) = 571740426102707730 := by kernel_rfl
  go_enter Tryd.func48, Tryd.ntmps48
  go_wp2
  go_ret
  exact ⟨rfl, rfl⟩

set_option maxHeartbeats 4000000 in
theorem trail_4 (w : World) (h : DB w) :
    Calls Tryd.prog 48 #[.int .u64 4] w fun e w' => e = .returned (.int .i64 2) ∧ w = w' := by
  obtain ⟨d1, d2, d3, d4⟩ := h
  have e1 : bits BinOp.and IntKind.u64 4 (IntKind.u64.wrap (-4)) = 4 := by kernel_rfl
  have e2 : IntKind.u64.wrap (4 * 285870213051353865) = 1143480852205415460 := by kernel_rfl
  go_enter Tryd.func48, Tryd.ntmps48
  go_wp2
  go_ret
  exact ⟨rfl, rfl⟩

set_option maxHeartbeats 4000000 in
theorem trail_8 (w : World) (h : DB w) :
    Calls Tryd.prog 48 #[.int .u64 8] w fun e w' => e = .returned (.int .i64 3) ∧ w = w' := by
  obtain ⟨d1, d2, d3, d4⟩ := h
  have e1 : bits BinOp.and IntKind.u64 8 (IntKind.u64.wrap (-8)) = 8 := by kernel_rfl
  have e2 : IntKind.u64.wrap (8 * 285870213051353865) = 2286961704410830920 := by kernel_rfl
  go_enter Tryd.func48, Tryd.ntmps48
  go_wp2
  go_ret
  exact ⟨rfl, rfl⟩

set_option maxHeartbeats 4000000 in
theorem trail_16 (w : World) (h : DB w) :
    Calls Tryd.prog 48 #[.int .u64 16] w fun e w' => e = .returned (.int .i64 4) ∧ w = w' := by
  obtain ⟨d1, d2, d3, d4⟩ := h
  have e1 : bits BinOp.and IntKind.u64 16 (IntKind.u64.wrap (-16)) = 16 := by kernel_rfl
  have e2 : IntKind.u64.wrap (16 * 285870213051353865) = 4573923408821661840 := by kernel_rfl
  go_enter Tryd.func48, Tryd.ntmps48
  go_wp2
  go_ret
  exact ⟨rfl, rfl⟩

set_option maxRecDepth 100000 in
set_option maxHeartbeats 8000000 in
theorem formatBits_2 (n : Nat) (w : World) (hdb : DB w) (hn : n < 18446744073709551616) :
    Calls Tryd.prog 35 #[.slice none 0 0, .int .u64 n, .int .i64 2, .bool false, .bool false] w fun e w' => ∃ t, e = .returned (.tuple #[.slice none 0 0, .string t]) ∧ bys t = digs 2 n ∧ Below w.heap.size w w' := by
  obtain ⟨Z, hz, hZ⟩ : ∃ Z, (∀ w, (zeroValue 77).run Tryd.prog w = .ok (.agg Z) w) ∧ Z = Array.replicate 65 (.int .u8 0) := ⟨_, zero65, rfl⟩
  have HP : Hid (∀ w, Calls Tryd.prog 47 #[.int .i64 2] w fun e w' => e = .returned (.bool true) ∧ w = w') := fun w => isPow_any 2 w (by decide) (by decide)
  have HTR : Hid (∀ w', Below w.heap.size w w' → Calls Tryd.prog 48 #[.int .u64 2] w' fun e w'' => e = .returned (.int .i64 1) ∧ w' = w'') := fun w' h => trail_2 w' (hdb.below h)
  have HB0 : Hid (Below w.heap.size w (w.alloc (.cells Z 77))) := (Below.refl _ _).alloc (Nat.le_refl _) _
  clear hdb
  have HZ := Lib.hid hZ
  clear hZ
  go_enter Tryd.func35, Tryd.ntmps35
  go_wp2_with (first | (go_at_call 47; refine (HP.out _).mono ?_; rintro e w' ⟨rfl, rfl⟩) | (go_at_call 48; refine (HTR.out _ HB0.out).mono ?_; rintro e w' ⟨rfl, rfl⟩))
  have HA0 : Hid (Arr (w.alloc (.cells Z 77)) w.heap.size 65 []) := ⟨Z, 77, by show (w.heap.push _)[w.heap.size]? = _; simp, by rw [HZ.out]; simp, rfl, fun q c h => by simp at h⟩
  go_loopw [1, 13] (fun u i wr => ∃ (m k : Nat) (suf : List Int), u = .int .u64 m ∧ i = .int .i64 k ∧ m ≤ n ∧ digs 2 n = digs 2 m ++ suf ∧ Arr wr w.heap.size k suf ∧ Below w.heap.size w wr) (fun u _ _ => (intOf u).toNat)
  case atStart => exact ⟨n, 65, [], rfl, rfl, Nat.le_refl _, by simp, HA0.out, (Below.refl _ _).alloc (Nat.le_refl _) _⟩
  case round =>
    obtain ⟨m, k, suf, rfl, rfl, hmn, hdg, harr, hbel⟩ := hrel
    have HD := Lib.hid hdg
    have HA := Lib.hid harr
    have HB := Lib.hid hbel
    have hL := digs_len 2 (by decide) 64 n (by omega) (Nat.lt_of_lt_of_le hn (Nat.le_trans (by decide) (Nat.pow_le_pow_left (show 2 ≤ 2 by decide) 64)))
    rw [hdg, List.length_append] at hL
    have hk65 := harr.choose_spec.choose_spec.2.2.1
    clear hdg harr hbel
    by_cases hge : 2 ≤ m
    · have h2 : 2 ≤ (digs 2 m).length := by
        rw [digs_step 2 m (by decide) hge, List.length_append]
        have := digs_pos 2 (m / 2)
        simp
        omega
      have hk : 2 ≤ k := by omega
      obtain ⟨k', rfl⟩ : ∃ k', k = k' + 1 := ⟨k - 1, by omega⟩
      obtain ⟨⟨cv, hcell⟩, hfz⟩ := HA.out.cell k' (by omega)
      have hnI : (m : Int) ≤ 18446744073709551615 := by omega
      have ha : bits BinOp.and IntKind.u64 (m : Int) 1 = (m : Int) % 2 := by
        have h1 := u64_and_nat m 1 (by omega) (by decide)
        rw [show ((1 : Nat) : Int) = 1 from rfl] at h1
        rw [h1, show m &&& 1 = m % 2 from Nat.and_two_pow_sub_one_eq_mod m 1]
        omega
      have hr0 : 0 ≤ (m : Int) % 2 := by omega
      have hr1 : (m : Int) % 2 < 16 := by omega
      have HR : Hid ((m : Int) % 2 = (m % 2 : Nat)) := Lib.hid (by omega)
      have HLT : Hid (m / 2 < m) := Nat.div_lt_self (by omega) (by decide)
      go_wp2
      go_roundw
      case rel =>
        refine ⟨m / 2, k', dch (m % 2) :: suf, by rw [Int.natCast_ediv]; rfl, rfl, by have := HLT.out; omega, ?_, ?_, HB.out.setCell (Nat.le_refl _) _⟩
        · rw [HD.out, digs_step 2 m (by decide) hge]; simp
        · rw [dig_nat (m % 2) (by omega)]; exact HA.out.store _
      case measure =>
        have := HLT.out
        simp only [intOf]
        omega
    · have hlt : m < 2 := by omega
      have h1 := digs_pos 2 m
      obtain ⟨k', rfl⟩ : ∃ k', k = k' + 1 := ⟨k - 1, by omega⟩
      obtain ⟨⟨cv, hcell⟩, hfz⟩ := HA.out.cell k' (by omega)
      have hm16 : m < 16 := by omega
      have hix := fun h' => dig_nat m hm16 h'
      have hsl : Sl (wr.setCell ⟨w.heap.size, k', none⟩ (.int .u8 (dch m))) (.slice (some ⟨w.heap.size, k', none⟩) (65 - k') (65 - k')) (digs 2 n) := by
        rw [HD.out, digs_small 2 m hlt]
        refine (HA.out.store (dch m)).sl ?_
        have := byt_digs 2 (by decide) (by decide) n
        rw [HD.out, digs_small 2 m hlt] at this
        exact this
      have hconv := conv_string hsl
      have HBB : Hid (Below w.heap.size w (wr.setCell ⟨w.heap.size, k', none⟩ (.int .u8 (dch m)))) := HB.out.setCell (Nat.le_refl _) _
      clear hsl
      have hsla := slice65 w.heap.size k' (by omega)
      have HO : Hid (bys (ofBys (digs 2 n)) = digs 2 n) := bys_ofBys (byt_digs 2 (by decide) (by decide) n)
      go_wp2
      go_ret2
      exact ⟨_, rfl, HO.out, HBB.out⟩

set_option maxRecDepth 100000 in
set_option maxHeartbeats 8000000 in
theorem formatBits_4 (n : Nat) (w : World) (hdb : DB w) (hn : n < 18446744073709551616) :
    Calls Tryd.prog 35 #[.slice none 0 0, .int .u64 n, .int .i64 4, .bool false, .bool false] w fun e w' => ∃ t, e = .returned (.tuple #[.slice none 0 0, .string t]) ∧ bys t = digs 4 n ∧ Below w.heap.size w w' := by
  obtain ⟨Z, hz, hZ⟩ : ∃ Z, (∀ w, (zeroValue 77).run Tryd.prog w = .ok (.agg Z) w) ∧ Z = Array.replicate 65 (.int .u8 0) := ⟨_, zero65, rfl⟩
  have HP : Hid (∀ w, Calls Tryd.prog 47 #[.int .i64 4] w fun e w' => e = .returned (.bool true) ∧ w = w') := fun w => isPow_any 4 w (by decide) (by decide)
  have HTR : Hid (∀ w', Below w.heap.size w w' → Calls Tryd.prog 48 #[.int .u64 4] w' fun e w'' => e = .returned (.int .i64 2) ∧ w' = w'') := fun w' h => trail_4 w' (hdb.below h)
  have HB0 : Hid (Below w.heap.size w (w.alloc (.cells Z 77))) := (Below.refl _ _).alloc (Nat.le_refl _) _
  clear hdb
  have HZ := Lib.hid hZ
  clear hZ
  go_enter Tryd.func35, Tryd.ntmps35
  go_wp2_with (first | (go_at_call 47; refine (HP.out _).mono ?_; rintro e w' ⟨rfl, rfl⟩) | (go_at_call 48; refine (HTR.out _ HB0.out).mono ?_; rintro e w' ⟨rfl, rfl⟩))
  have HA0 : Hid (Arr (w.alloc (.cells Z 77)) w.heap.size 65 []) := ⟨Z, 77, by show (w.heap.push _)[w.heap.size]? = _; simp, by rw [HZ.out]; simp, rfl, fun q c h => by simp at h⟩
  go_loopw [1, 13] (fun u i wr => ∃ (m k : Nat) (suf : List Int), u = .int .u64 m ∧ i = .int .i64 k ∧ m ≤ n ∧ digs 4 n = digs 4 m ++ suf ∧ Arr wr w.heap.size k suf ∧ Below w.heap.size w wr) (fun u _ _ => (intOf u).toNat)
  case atStart => exact ⟨n, 65, [], rfl, rfl, Nat.le_refl _, by simp, HA0.out, (Below.refl _ _).alloc (Nat.le_refl _) _⟩
  case round =>
    obtain ⟨m, k, suf, rfl, rfl, hmn, hdg, harr, hbel⟩ := hrel
    have HD := Lib.hid hdg
    have HA := Lib.hid harr
    have HB := Lib.hid hbel
    have hL := digs_len 4 (by decide) 64 n (by omega) (Nat.lt_of_lt_of_le hn (Nat.le_trans (by decide) (Nat.pow_le_pow_left (show 2 ≤ 4 by decide) 64)))
    rw [hdg, List.length_append] at hL
    have hk65 := harr.choose_spec.choose_spec.2.2.1
    clear hdg harr hbel
    by_cases hge : 4 ≤ m
    · have h2 : 2 ≤ (digs 4 m).length := by
        rw [digs_step 4 m (by decide) hge, List.length_append]
        have := digs_pos 4 (m / 4)
        simp
        omega
      have hk : 2 ≤ k := by omega
      obtain ⟨k', rfl⟩ : ∃ k', k = k' + 1 := ⟨k - 1, by omega⟩
      obtain ⟨⟨cv, hcell⟩, hfz⟩ := HA.out.cell k' (by omega)
      have hnI : (m : Int) ≤ 18446744073709551615 := by omega
      have ha : bits BinOp.and IntKind.u64 (m : Int) 3 = (m : Int) % 4 := by
        have h1 := u64_and_nat m 3 (by omega) (by decide)
        rw [show ((3 : Nat) : Int) = 3 from rfl] at h1
        rw [h1, show m &&& 3 = m % 4 from Nat.and_two_pow_sub_one_eq_mod m 2]
        omega
      have hr0 : 0 ≤ (m : Int) % 4 := by omega
      have hr1 : (m : Int) % 4 < 16 := by omega
      have HR : Hid ((m : Int) % 4 = (m % 4 : Nat)) := Lib.hid (by omega)
      have HLT : Hid (m / 4 < m) := Nat.div_lt_self (by omega) (by decide)
      go_wp2
      go_roundw
      case rel =>
        refine ⟨m / 4, k', dch (m % 4) :: suf, by rw [Int.natCast_ediv]; rfl, rfl, by have := HLT.out; omega, ?_, ?_, HB.out.setCell (Nat.le_refl _) _⟩
        · rw [HD.out, digs_step 4 m (by decide) hge]; simp
        · rw [dig_nat (m % 4) (by omega)]; exact HA.out.store _
      case measure =>
        have := HLT.out
        simp only [intOf]
        omega
    · have hlt : m < 4 := by omega
      have h1 := digs_pos 4 m
      obtain ⟨k', rfl⟩ : ∃ k', k = k' + 1 := ⟨k - 1, by omega⟩
      obtain ⟨⟨cv, hcell⟩, hfz⟩ := HA.out.cell k' (by omega)
      have hm16 : m < 16 := by omega
      have hix := fun h' => dig_nat m hm16 h'
      have hsl : Sl (wr.setCell ⟨w.heap.size, k', none⟩ (.int .u8 (dch m))) (.slice (some ⟨w.heap.size, k', none⟩) (65 - k') (65 - k')) (digs 4 n) := by
        rw [HD.out, digs_small 4 m hlt]
        refine (HA.out.store (dch m)).sl ?_
        have := byt_digs 4 (by decide) (by decide) n
        rw [HD.out, digs_small 4 m hlt] at this
        exact this
      have hconv := conv_string hsl
      have HBB : Hid (Below w.heap.size w (wr.setCell ⟨w.heap.size, k', none⟩ (.int .u8 (dch m)))) := HB.out.setCell (Nat.le_refl _) _
      clear hsl
      have hsla := slice65 w.heap.size k' (by omega)
      have HO : Hid (bys (ofBys (digs 4 n)) = digs 4 n) := bys_ofBys (byt_digs 4 (by decide) (by decide) n)
      go_wp2
      go_ret2
      exact ⟨_, rfl, HO.out, HBB.out⟩

set_option maxRecDepth 100000 in
set_option maxHeartbeats 8000000 in
theorem formatBits_8 (n : Nat) (w : World) (hdb : DB w) (hn : n < 18446744073709551616) :
    Calls Tryd.prog 35 #[.slice none 0 0, .int .u64 n, .int .i64 8, .bool false, .bool false] w fun e w' => ∃ t, e = .returned (.tuple #[.slice none 0 0, .string t]) ∧ bys t = digs 8 n ∧ Below w.heap.size w w' := by
  obtain ⟨Z, hz, hZ⟩ : ∃ Z, (∀ w, (zeroValue 77).run Tryd.prog w = .ok (.agg Z) w) ∧ Z = Array.replicate 65 (.int .u8 0) := ⟨_, zero65, rfl⟩
  have HP : Hid (∀ w, Calls Tryd.prog 47 #[.int .i64 8] w fun e w' => e = .returned (.bool true) ∧ w = w') := fun w => isPow_any 8 w (by decide) (by decide)
  have HTR : Hid (∀ w', Below w.heap.size w w' → Calls Tryd.prog 48 #[.int .u64 8] w' fun e w'' => e = .returned (.int .i64 3) ∧ w' = w'') := fun w' h => trail_8 w' (hdb.below h)
  have HB0 : Hid (Below w.heap.size w (w.alloc (.cells Z 77))) := (Below.refl _ _).alloc (Nat.le_refl _) _
  clear hdb
  have HZ := Lib.hid hZ
  clear hZ
  go_enter Tryd.func35, Tryd.ntmps35
  go_wp2_with (first | (go_at_call 47; refine (HP.out _).mono ?_; rintro e w' ⟨rfl, rfl⟩) | (go_at_call 48; refine (HTR.out _ HB0.out).mono ?_; rintro e w' ⟨rfl, rfl⟩))
  have HA0 : Hid (Arr (w.alloc (.cells Z 77)) w.heap.size 65 []) := ⟨Z, 77, by show (w.heap.push _)[w.heap.size]? = _; simp, by rw [HZ.out]; simp, rfl, fun q c h => by simp at h⟩
  go_loopw [1, 13] (fun u i wr => ∃ (m k : Nat) (suf : List Int), u = .int .u64 m ∧ i = .int .i64 k ∧ m ≤ n ∧ digs 8 n = digs 8 m ++ suf ∧ Arr wr w.heap.size k suf ∧ Below w.heap.size w wr) (fun u _ _ => (intOf u).toNat)
  case atStart => exact ⟨n, 65, [], rfl, rfl, Nat.le_refl _, by simp, HA0.out, (Below.refl _ _).alloc (Nat.le_refl _) _⟩
  case round =>
    obtain ⟨m, k, suf, rfl, rfl, hmn, hdg, harr, hbel⟩ := hrel
    have HD := Lib.hid hdg
    have HA := Lib.hid harr
    have HB := Lib.hid hbel
    have hL := digs_len 8 (by decide) 64 n (by omega) (Nat.lt_of_lt_of_le hn (Nat.le_trans (by decide) (Nat.pow_le_pow_left (show 2 ≤ 8 by decide) 64)))
    rw [hdg, List.length_append] at hL
    have hk65 := harr.choose_spec.choose_spec.2.2.1
    clear hdg harr hbel
    by_cases hge : 8 ≤ m
    · have h2 : 2 ≤ (digs 8 m).length := by
        rw [digs_step 8 m (by decide) hge, List.length_append]
        have := digs_pos 8 (m / 8)
        simp
        omega
      have hk : 2 ≤ k := by omega
      obtain ⟨k', rfl⟩ : ∃ k', k = k' + 1 := ⟨k - 1, by omega⟩
      obtain ⟨⟨cv, hcell⟩, hfz⟩ := HA.out.cell k' (by omega)
      have hnI : (m : Int) ≤ 18446744073709551615 := by omega
      have ha : bits BinOp.and IntKind.u64 (m : Int) 7 = (m : Int) % 8 := by
        have h1 := u64_and_nat m 7 (by omega) (by decide)
        rw [show ((7 : Nat) : Int) = 7 from rfl] at h1
        rw [h1, show m &&& 7 = m % 8 from Nat.and_two_pow_sub_one_eq_mod m 3]
        omega
      have hr0 : 0 ≤ (m : Int) % 8 := by omega
      have hr1 : (m : Int) % 8 < 16 := by omega
      have HR : Hid ((m : Int) % 8 = (m % 8 : Nat)) := Lib.hid (by omega)
      have HLT : Hid (m / 8 < m) := Nat.div_lt_self (by omega) (by decide)
      go_wp2
      go_roundw
      case rel =>
        refine ⟨m / 8, k', dch (m % 8) :: suf, by rw [Int.natCast_ediv]; rfl, rfl, by have := HLT.out; omega, ?_, ?_, HB.out.setCell (Nat.le_refl _) _⟩
        · rw [HD.out, digs_step 8 m (by decide) hge]; simp
        · rw [dig_nat (m % 8) (by omega)]; exact HA.out.store _
      case measure =>
        have := HLT.out
        simp only [intOf]
        omega
    · have hlt : m < 8 := by omega
      have h1 := digs_pos 8 m
      obtain ⟨k', rfl⟩ : ∃ k', k = k' + 1 := ⟨k - 1, by omega⟩
      obtain ⟨⟨cv, hcell⟩, hfz⟩ := HA.out.cell k' (by omega)
      have hm16 : m < 16 := by omega
      have hix := fun h' => dig_nat m hm16 h'
      have hsl : Sl (wr.setCell ⟨w.heap.size, k', none⟩ (.int .u8 (dch m))) (.slice (some ⟨w.heap.size, k', none⟩) (65 - k') (65 - k')) (digs 8 n) := by
        rw [HD.out, digs_small 8 m hlt]
        refine (HA.out.store (dch m)).sl ?_
        have := byt_digs 8 (by decide) (by decide) n
        rw [HD.out, digs_small 8 m hlt] at this
        exact this
      have hconv := conv_string hsl
      have HBB : Hid (Below w.heap.size w (wr.setCell ⟨w.heap.size, k', none⟩ (.int .u8 (dch m)))) := HB.out.setCell (Nat.le_refl _) _
      clear hsl
      have hsla := slice65 w.heap.size k' (by omega)
      have HO : Hid (bys (ofBys (digs 8 n)) = digs 8 n) := bys_ofBys (byt_digs 8 (by decide) (by decide) n)
      go_wp2
      go_ret2
      exact ⟨_, rfl, HO.out, HBB.out⟩

set_option maxRecDepth 100000 in
set_option maxHeartbeats 8000000 in
theorem formatBits_16 (n : Nat) (w : World) (hdb : DB w) (hn : n < 18446744073709551616) :
    Calls Tryd.prog 35 #[.slice none 0 0, .int .u64 n, .int .i64 16, .bool false, .bool false] w fun e w' => ∃ t, e = .returned (.tuple #[.slice none 0 0, .string t]) ∧ bys t = digs 16 n ∧ Below w.heap.size w w' := by
  obtain ⟨Z, hz, hZ⟩ : ∃ Z, (∀ w, (zeroValue 77).run Tryd.prog w = .ok (.agg Z) w) ∧ Z = Array.replicate 65 (.int .u8 0) := ⟨_, zero65, rfl⟩
  have HP : Hid (∀ w, Calls Tryd.prog 47 #[.int .i64 16] w fun e w' => e = .returned (.bool true) ∧ w = w') := fun w => isPow_any 16 w (by decide) (by decide)
  have HTR : Hid (∀ w', Below w.heap.size w w' → Calls Tryd.prog 48 #[.int .u64 16] w' fun e w'' => e = .returned (.int .i64 4) ∧ w' = w'') := fun w' h => trail_16 w' (hdb.below h)
  have HB0 : Hid (Below w.heap.size w (w.alloc (.cells Z 77))) := (Below.refl _ _).alloc (Nat.le_refl _) _
  clear hdb
  have HZ := Lib.hid hZ
  clear hZ
  go_enter Tryd.func35, Tryd.ntmps35
  go_wp2_with (first | (go_at_call 47; refine (HP.out _).mono ?_; rintro e w' ⟨rfl, rfl⟩) | (go_at_call 48; refine (HTR.out _ HB0.out).mono ?_; rintro e w' ⟨rfl, rfl⟩))
  have HA0 : Hid (Arr (w.alloc (.cells Z 77)) w.heap.size 65 []) := ⟨Z, 77, by show (w.heap.push _)[w.heap.size]? = _; simp, by rw [HZ.out]; simp, rfl, fun q c h => by simp at h⟩
  go_loopw [1, 13] (fun u i wr => ∃ (m k : Nat) (suf : List Int), u = .int .u64 m ∧ i = .int .i64 k ∧ m ≤ n ∧ digs 16 n = digs 16 m ++ suf ∧ Arr wr w.heap.size k suf ∧ Below w.heap.size w wr) (fun u _ _ => (intOf u).toNat)
  case atStart => exact ⟨n, 65, [], rfl, rfl, Nat.le_refl _, by simp, HA0.out, (Below.refl _ _).alloc (Nat.le_refl _) _⟩
  case round =>
    obtain ⟨m, k, suf, rfl, rfl, hmn, hdg, harr, hbel⟩ := hrel
    have HD := Lib.hid hdg
    have HA := Lib.hid harr
    have HB := Lib.hid hbel
    have hL := digs_len 16 (by decide) 64 n (by omega) (Nat.lt_of_lt_of_le hn (Nat.le_trans (by decide) (Nat.pow_le_pow_left (show 2 ≤ 16 by decide) 64)))
    rw [hdg, List.length_append] at hL
    have hk65 := harr.choose_spec.choose_spec.2.2.1
    clear hdg harr hbel
    by_cases hge : 16 ≤ m
    · have h2 : 2 ≤ (digs 16 m).length := by
        rw [digs_step 16 m (by decide) hge, List.length_append]
        have := digs_pos 16 (m / 16)
        simp
        omega
      have hk : 2 ≤ k := by omega
      obtain ⟨k', rfl⟩ : ∃ k', k = k' + 1 := ⟨k - 1, by omega⟩
      obtain ⟨⟨cv, hcell⟩, hfz⟩ := HA.out.cell k' (by omega)
      have hnI : (m : Int) ≤ 18446744073709551615 := by omega
      have ha : bits BinOp.and IntKind.u64 (m : Int) 15 = (m : Int) % 16 := by
        have h1 := u64_and_nat m 15 (by omega) (by decide)
        rw [show ((15 : Nat) : Int) = 15 from rfl] at h1
        rw [h1, show m &&& 15 = m % 16 from Nat.and_two_pow_sub_one_eq_mod m 4]
        omega
      have hr0 : 0 ≤ (m : Int) % 16 := by omega
      have hr1 : (m : Int) % 16 < 16 := by omega
      have HR : Hid ((m : Int) % 16 = (m % 16 : Nat)) := Lib.hid (by omega)
      have HLT : Hid (m / 16 < m) := Nat.div_lt_self (by omega) (by decide)
      go_wp2
      go_roundw
      case rel =>
        refine ⟨m / 16, k', dch (m % 16) :: suf, by rw [Int.natCast_ediv]; rfl, rfl, by have := HLT.out; omega, ?_, ?_, HB.out.setCell (Nat.le_refl _) _⟩
        · rw [HD.out, digs_step 16 m (by decide) hge]; simp
        · rw [dig_nat (m % 16) (by omega)]; exact HA.out.store _
      case measure =>
        have := HLT.out
        simp only [intOf]
        omega
    · have hlt : m < 16 := by omega
      have h1 := digs_pos 16 m
      obtain ⟨k', rfl⟩ : ∃ k', k = k' + 1 := ⟨k - 1, by omega⟩
      obtain ⟨⟨cv, hcell⟩, hfz⟩ := HA.out.cell k' (by omega)
      have hm16 : m < 16 := by omega
      have hix := fun h' => dig_nat m hm16 h'
      have hsl : Sl (wr.setCell ⟨w.heap.size, k', none⟩ (.int .u8 (dch m))) (.slice (some ⟨w.heap.size, k', none⟩) (65 - k') (65 - k')) (digs 16 n) := by
        rw [HD.out, digs_small 16 m hlt]
        refine (HA.out.store (dch m)).sl ?_
        have := byt_digs 16 (by decide) (by decide) n
        rw [HD.out, digs_small 16 m hlt] at this
        exact this
      have hconv := conv_string hsl
      have HBB : Hid (Below w.heap.size w (wr.setCell ⟨w.heap.size, k', none⟩ (.int .u8 (dch m)))) := HB.out.setCell (Nat.le_refl _) _
      clear hsl
      have hsla := slice65 w.heap.size k' (by omega)
      have HO : Hid (bys (ofBys (digs 16 n)) = digs 16 n) := bys_ofBys (byt_digs 16 (by decide) (by decide) n)
      go_wp2
      go_ret2
      exact ⟨_, rfl, HO.out, HBB.out⟩

end Go.Proofs.YtnpjbpchnkobnaaDoor
