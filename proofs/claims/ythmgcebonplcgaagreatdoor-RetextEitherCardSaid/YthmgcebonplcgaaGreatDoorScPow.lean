/- The contract of strconv's formatBits at the bases 2, 4, 8, 16. -/
import Derived.Test.YthmgcebonplcgaaGreatDoorScFmt
import Derived.Lib.LaidTab
import Derived.Laws.BitsAllLaws
namespace Go.Proofs.YthmgcebonplcgaaGreatDoor
open Go.RowKit

/-- What the table of trailing noughts holds at the powers of two. -/
def DB (w : World) : Prop := w.cell? ⟨22, 1, none⟩ = some (.int .u8 1) ∧ w.cell? ⟨22, 3, none⟩ = some (.int .u8 2) ∧ w.cell? ⟨22, 7, none⟩ = some (.int .u8 3) ∧ w.cell? ⟨22, 15, none⟩ = some (.int .u8 4)

theorem DB.below {w w' : World} (h : DB w) (hb : Below w.heap.size w w') : DB w' := by
  have hlt : 22 < w.heap.size := by
    have := World.block_lt_of_cell? _ _ h.1
    simpa using this
  obtain ⟨h1, h2, h3, h4⟩ := h
  exact ⟨by rw [hb.cell hlt]; exact h1, by rw [hb.cell hlt]; exact h2, by rw [hb.cell hlt]; exact h3, by rw [hb.cell hlt]; exact h4⟩

set_option maxHeartbeats 4000000 in
theorem trail_16 (w : World) (h : DB w) :
    Calls Tryz.prog 118 #[.int .u64 16] w fun e w' => e = .returned (.int .i64 4) ∧ w = w' := by
  obtain ⟨d1, d2, d3, d4⟩ := h
  have e1 : bits BinOp.and IntKind.u64 16 (IntKind.u64.wrap (-16)) = 16 := by kernel_rfl
  have e2 : IntKind.u64.wrap (16 * 285870213051353865) = 4573923408821661840 := by kernel_rfl
  go_enter Tryz.func118, Tryz.ntmps118
  go_wp2
  go_ret
  exact ⟨rfl, rfl⟩

set_option maxRecDepth 100000 in
set_option maxHeartbeats 8000000 in
theorem formatBits_16 (n : Nat) (w : World) (hdb : DB w) (hn : n < 18446744073709551616) :
    Calls Tryz.prog 101 #[.slice none 0 0, .int .u64 n, .int .i64 16, .bool false, .bool false] w fun e w' => ∃ t, e = .returned (.tuple #[.slice none 0 0, .string t]) ∧ bys t = digs 16 n ∧ Below w.heap.size w w' := by
  obtain ⟨Z, hz, hZ⟩ : ∃ Z, (∀ w, (zeroValue 191).run Tryz.prog w = .ok (.agg Z) w) ∧ Z = Array.replicate 65 (.int .u8 0) := ⟨_, zero65, rfl⟩
  have HP : Hid (∀ w, Calls Tryz.prog 117 #[.int .i64 16] w fun e w' => e = .returned (.bool true) ∧ w = w') := fun w => isPow_any 16 w (by decide) (by decide)
  have HTR : Hid (∀ w', Below w.heap.size w w' → Calls Tryz.prog 118 #[.int .u64 16] w' fun e w'' => e = .returned (.int .i64 4) ∧ w' = w'') := fun w' h => trail_16 w' (hdb.below h)
  have HB0 : Hid (Below w.heap.size w (w.alloc (.cells Z 191))) := (Below.refl _ _).alloc (Nat.le_refl _) _
  clear hdb
  have HZ := Lib.hid hZ
  clear hZ
  go_enter Tryz.func101, Tryz.ntmps101
  go_wp2_with (first | (go_at_call 117; refine (HP.out _).mono ?_; rintro e w' ⟨rfl, rfl⟩) | (go_at_call 118; refine (HTR.out _ HB0.out).mono ?_; rintro e w' ⟨rfl, rfl⟩))
  have HA0 : Hid (Arr (w.alloc (.cells Z 191)) w.heap.size 65 []) := ⟨Z, 191, by show (w.heap.push _)[w.heap.size]? = _; simp, by rw [HZ.out]; simp, rfl, fun q c h => by simp at h⟩
  go_loopw [1, 13] (fun u i wr => ∃ (m k : Nat) (suf : List Int), u = .int .u64 m ∧ i = .int .i64 k ∧ m ≤ n ∧ digs 16 n = digs 16 m ++ suf ∧ Arr wr w.heap.size k suf ∧ Below w.heap.size w wr) (fun u _ _ => (intOf u).toNat)
  case atStart => exact ⟨n, 65, [], rfl, rfl, Nat.le_refl _, by simp, HA0.out, (Below.refl _ _).alloc (Nat.le_refl _) _⟩
  case round =>
    obtain ⟨m, k, suf, rfl, rfl, hmn, hdg, harr, hbel⟩ := hrel
    have HD := Lib.hid hdg
    have HA := Lib.hid harr
    have HB := Lib.hid hbel
    have hL := digs_len 16 (by decide) 64 n (by omega) (Nat.lt_of_lt_of_le hn (Nat.le_trans (by decide) (Nat.pow_le_pow_left (show 2 ≤ 16 by decide) 64)))
    rw [hdg, List.length_append] at hL
    have hk65 := harr.choose_spec.choose_spec.2.2.1
    clear hdg harr hbel
    by_cases hge : 16 ≤ m
    · have h2 : 2 ≤ (digs 16 m).length := by
        rw [digs_step 16 m (by decide) hge, List.length_append]
        have := digs_pos 16 (m / 16)
        simp
        omega
      have hk : 2 ≤ k := by omega
      obtain ⟨k', rfl⟩ : ∃ k', k = k' + 1 := ⟨k - 1, by omega⟩
      obtain ⟨⟨cv, hcell⟩, hfz⟩ := HA.out.cell k' (by omega)
      have hnI : (m : Int) ≤ 18446744073709551615 := by omega
      have ha : bits BinOp.and IntKind.u64 (m : Int) 15 = (m : Int) % 16 := by
        have h1 := u64_and_nat m 15 (by omega) (by decide)
        rw [show ((15 : Nat) : Int) = 15 from rfl] at h1
        rw [h1, show m &&& 15 = m % 16 from Nat.and_two_pow_sub_one_eq_mod m 4]
        omega
      have hr0 : 0 ≤ (m : Int) % 16 := by omega
      have hr1 : (m : Int) % 16 < 16 := by omega
      have HR : Hid ((m : Int) % 16 = (m % 16 : Nat)) := Lib.hid (by omega)
      have HLT : Hid (m / 16 < m) := Nat.div_lt_self (by omega) (by decide)
      go_wp2
      go_roundw
      case rel =>
        refine ⟨m / 16, k', dch (m % 16) :: suf, by rw [Int.natCast_ediv]; rfl, rfl, by have := HLT.out; omega, ?_, ?_, HB.out.setCell (Nat.le_refl _) _⟩
        · rw [HD.out, digs_step 16 m (by decide) hge]; simp
        · rw [dig_nat (m % 16) (by omega)]; exact HA.out.store _
      case measure =>
        have := HLT.out
        simp only [intOf]
        omega
    · have hlt : m < 16 := by omega
      have h1 := digs_pos 16 m
      obtain ⟨k', rfl⟩ : ∃ k', k = k' + 1 := ⟨k - 1, by omega⟩
      obtain ⟨⟨cv, hcell⟩, hfz⟩ := HA.out.cell k' (by omega)
      have hm16 : m < 16 := by omega
      have hix := fun h' => dig_nat m hm16 h'
      have hsl : Sl (wr.setCell ⟨w.heap.size, k', none⟩ (.int .u8 (dch m))) (.slice (some ⟨w.heap.size, k', none⟩) (65 - k') (65 - k')) (digs 16 n) := by
        rw [HD.out, digs_small 16 m hlt]
        refine (HA.out.store (dch m)).sl ?_
        have := byt_digs 16 (by decide) (by decide) n
        rw [HD.out, digs_small 16 m hlt] at this
        exact this
      have hconv := conv_string hsl
      have HBB : Hid (Below w.heap.size w (wr.setCell ⟨w.heap.size, k', none⟩ (.int .u8 (dch m)))) := HB.out.setCell (Nat.le_refl _) _
      clear hsl
      have hsla := slice65 w.heap.size k' (by omega)
      have HO : Hid (bys (ofBys (digs 16 n)) = digs 16 n) := bys_ofBys (byt_digs 16 (by decide) (by decide) n)
      go_wp2
      go_ret2
      exact ⟨_, rfl, HO.out, HBB.out⟩

end Go.Proofs.YthmgcebonplcgaaGreatDoor
