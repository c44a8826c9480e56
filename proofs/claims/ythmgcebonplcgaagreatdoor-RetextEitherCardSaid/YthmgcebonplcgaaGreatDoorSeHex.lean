/- The contracts of least and hex. -/
import Derived.Test.YthmgcebonplcgaaGreatDoorSeFst
import Derived.Test.YthmgcebonplcgaaGreatDoorScB16
import Derived.Test.YthmgcebonplcgaaGreatDoorKSet
import Derived.Test.YthmgcebonplcgaaGreatDoorKSy
namespace Go.Proofs.YthmgcebonplcgaaGreatDoor
open Go.RowKit

theorem bytes_one (t : ByteArray) (b : Nat) (hb : b < 16) (h : bys t = [dch b]) : t = ⟨#[hxd b]⟩ := bys_inj (by
  rw [h]
  have := dch_bd b hb
  unfold bys hxd
  simp
  omega)
theorem bytes_two (t : ByteArray) (a b : Nat) (ha : a < 16) (hb : b < 16) (h : bys t = [dch a, dch b]) : t = ⟨#[hxd a, hxd b]⟩ := bys_inj (by
  rw [h]
  have h1 := dch_bd a ha
  have h2 := dch_bd b hb
  unfold bys hxd
  simp
  omega)
set_option maxHeartbeats 4000000 in
theorem hex_any (b : Nat) (hb : b < 256) (w : World) (h : DB w) :
    Calls Tryz.prog 58 #[.int .i64 b] w fun e w' => e = .returned (.string ⟨(hex2 b).toArray⟩) ∧ Below w.heap.size w w' := by
  have HB := Lib.hid (base16 b w (by omega) h)
  clear h
  go_enter Tryz.func58, Tryz.ntmps58
  go_wp2_with fail
  refine HB.out.mono ?_
  rintro e w1 ⟨t, rfl, ht, hb1⟩
  have HB1 := Lib.hid hb1
  clear hb1
  by_cases hs : b < 16
  · rw [digs_small 16 b hs] at ht
    obtain rfl := bytes_one t b hs ht
    have HX : Hid (hex2 b = [48, hxd b]) := Lib.hid (by unfold hex2; rw [Nat.div_eq_of_lt hs, Nat.mod_eq_of_lt hs]; rfl)
    clear ht
    go_wp2
    go_ret
    exact ⟨by rw [HX.out]; rfl, HB1.out⟩
  · have e1 : digs 16 b = [dch (b / 16), dch (b % 16)] := by
      rw [digs_step 16 b (by decide) (by omega), digs_small 16 (b / 16) (by omega)]; rfl
    rw [e1] at ht
    obtain rfl := bytes_two t _ _ (by omega) (by omega) ht
    clear ht e1
    have HX : Hid ((⟨#[hxd (b / 16), hxd (b % 16)]⟩ : ByteArray) = ⟨(hex2 b).toArray⟩) := Lib.hid rfl
    generalize hxd (b / 16) = c at *
    generalize hxd (b % 16) = d at *
    go_wp2
    go_ret
    exact ⟨by rw [HX.out]; rfl, HB1.out⟩

theorem sw_zero_of (p : Nat → Bool) (i : Nat) (h : sw p i = 0) : ∀ j, j < 64 → p (64 * i + j) = false := fun j hj => by
  have e := congrArg (·.testBit j) h
  simp only [sw, wd_testBit, Nat.zero_testBit] at e
  simpa [hj] using e
theorem least_none (p : Nat → Bool) (h : ∀ i, i < 4 → sw p i = 0) : fst p 0 = 256 :=
  fst_uniq _ _ _ (Nat.zero_le _) (Nat.le_refl _) (fun j _ hj => by
    have := sw_zero_of p (j / 64) (h _ (by omega)) (j % 64) (Nat.mod_lt _ (by decide))
    rwa [Nat.div_add_mod] at this) (fun h => absurd h (by omega))
theorem least_at (p : Nat → Bool) (i : Nat) (hi : i < 4) (h : ∀ k, k < i → sw p k = 0) (h0 : sw p i ≠ 0) : fst p 0 = i * 64 + Lib.ctz 64 (sw p i) := by
  obtain ⟨hc, hq, hl⟩ := ctz_least (fun j => p (64 * i + j)) h0
  have e : wd (fun j => p (64 * i + j)) = sw p i := rfl
  rw [e] at hc hq hl
  refine fst_uniq _ _ _ (Nat.zero_le _) (by omega) (fun j _ hj => ?_) (fun _ => by rw [Nat.mul_comm]; exact hq)
  rcases Nat.lt_or_ge (j / 64) i with hlt | hge
  · have := sw_zero_of p (j / 64) (h _ hlt) (j % 64) (Nat.mod_lt _ (by decide))
    rwa [Nat.div_add_mod] at this
  · have := hl (j % 64) (by omega)
    rwa [show 64 * i + j % 64 = j by omega] at this

set_option maxHeartbeats 4000000 in
theorem least_w0 (x0 x1 x2 x3 c : Nat) (hc : c < 64) (_h0 : ((x0 : Int) == 0) = false) (h0' : ((x0 : Int) != 0) = true) (w : World)
    (HC : ∀ w', Below w.heap.size w w' → Hid (Calls Tryz.prog 79 #[.int .u64 (x0 : Nat)] w' fun e w'' => e = .returned (.int .i64 (c : Nat)) ∧ w' = w'')) :
    Calls Tryz.prog 55 #[.agg #[.int .u64 (x0 : Nat), .int .u64 (x1 : Nat), .int .u64 (x2 : Nat), .int .u64 (x3 : Nat)]] w fun e w' => e = .returned (.int .i64 (0 * 64 + c : Nat)) ∧ Below w.heap.size w w' := by
  have i0 := arr_idx0 (.int .u64 (x0 : Nat)) (.int .u64 (x1 : Nat)) (.int .u64 (x2 : Nat)) (.int .u64 (x3 : Nat))
  go_enter Tryz.func55, Tryz.ntmps55
  go_wp2
  refine wp_loop_rounds 5 ?_
  rw [rounds_succ]
  go_wp2_with fail
  refine (HC _ ?_).out.mono ?_
  · exact (Below.refl _ _).alloc (Nat.le_refl _) _
  rintro e w' ⟨rfl, rfl⟩
  go_wp2
  go_ret
  exact ⟨ret_int (by omega), (Below.refl _ _).alloc (Nat.le_refl _) _⟩
set_option maxHeartbeats 4000000 in
theorem least_w1 (x1 x2 x3 c : Nat) (hc : c < 64) (_h0 : ((x1 : Int) == 0) = false) (h0' : ((x1 : Int) != 0) = true) (w : World)
    (HC : ∀ w', Below w.heap.size w w' → Hid (Calls Tryz.prog 79 #[.int .u64 (x1 : Nat)] w' fun e w'' => e = .returned (.int .i64 (c : Nat)) ∧ w' = w'')) :
    Calls Tryz.prog 55 #[.agg #[.int .u64 0, .int .u64 (x1 : Nat), .int .u64 (x2 : Nat), .int .u64 (x3 : Nat)]] w fun e w' => e = .returned (.int .i64 (1 * 64 + c : Nat)) ∧ Below w.heap.size w w' := by
  have i0 := arr_idx0 (.int .u64 0) (.int .u64 (x1 : Nat)) (.int .u64 (x2 : Nat)) (.int .u64 (x3 : Nat))
  have i1 := arr_idx1 (.int .u64 0) (.int .u64 (x1 : Nat)) (.int .u64 (x2 : Nat)) (.int .u64 (x3 : Nat))
  go_enter Tryz.func55, Tryz.ntmps55
  go_wp2
  refine wp_loop_rounds 5 ?_
  rw [rounds_succ]
  go_wp2
  rw [rounds_succ]
  go_wp2_with fail
  refine (HC _ ?_).out.mono ?_
  · exact (Below.refl _ _).alloc (Nat.le_refl _) _
  rintro e w' ⟨rfl, rfl⟩
  go_wp2
  go_ret
  exact ⟨ret_int (by omega), (Below.refl _ _).alloc (Nat.le_refl _) _⟩
set_option maxHeartbeats 4000000 in
theorem least_w2 (x2 x3 c : Nat) (hc : c < 64) (_h0 : ((x2 : Int) == 0) = false) (h0' : ((x2 : Int) != 0) = true) (w : World)
    (HC : ∀ w', Below w.heap.size w w' → Hid (Calls Tryz.prog 79 #[.int .u64 (x2 : Nat)] w' fun e w'' => e = .returned (.int .i64 (c : Nat)) ∧ w' = w'')) :
    Calls Tryz.prog 55 #[.agg #[.int .u64 0, .int .u64 0, .int .u64 (x2 : Nat), .int .u64 (x3 : Nat)]] w fun e w' => e = .returned (.int .i64 (2 * 64 + c : Nat)) ∧ Below w.heap.size w w' := by
  have i0 := arr_idx0 (.int .u64 0) (.int .u64 0) (.int .u64 (x2 : Nat)) (.int .u64 (x3 : Nat))
  have i1 := arr_idx1 (.int .u64 0) (.int .u64 0) (.int .u64 (x2 : Nat)) (.int .u64 (x3 : Nat))
  have i2 := arr_idx2 (.int .u64 0) (.int .u64 0) (.int .u64 (x2 : Nat)) (.int .u64 (x3 : Nat))
  go_enter Tryz.func55, Tryz.ntmps55
  go_wp2
  refine wp_loop_rounds 5 ?_
  iterate 2 (rw [rounds_succ]; go_wp2)
  rw [rounds_succ]
  go_wp2_with fail
  refine (HC _ ?_).out.mono ?_
  · exact (Below.refl _ _).alloc (Nat.le_refl _) _
  rintro e w' ⟨rfl, rfl⟩
  go_wp2
  go_ret
  exact ⟨ret_int (by omega), (Below.refl _ _).alloc (Nat.le_refl _) _⟩
set_option maxHeartbeats 4000000 in
theorem least_w3 (x3 c : Nat) (hc : c < 64) (_h0 : ((x3 : Int) == 0) = false) (h0' : ((x3 : Int) != 0) = true) (w : World)
    (HC : ∀ w', Below w.heap.size w w' → Hid (Calls Tryz.prog 79 #[.int .u64 (x3 : Nat)] w' fun e w'' => e = .returned (.int .i64 (c : Nat)) ∧ w' = w'')) :
    Calls Tryz.prog 55 #[.agg #[.int .u64 0, .int .u64 0, .int .u64 0, .int .u64 (x3 : Nat)]] w fun e w' => e = .returned (.int .i64 (3 * 64 + c : Nat)) ∧ Below w.heap.size w w' := by
  have i0 := arr_idx0 (.int .u64 0) (.int .u64 0) (.int .u64 0) (.int .u64 (x3 : Nat))
  have i1 := arr_idx1 (.int .u64 0) (.int .u64 0) (.int .u64 0) (.int .u64 (x3 : Nat))
  have i2 := arr_idx2 (.int .u64 0) (.int .u64 0) (.int .u64 0) (.int .u64 (x3 : Nat))
  have i3 := arr_idx3 (.int .u64 0) (.int .u64 0) (.int .u64 0) (.int .u64 (x3 : Nat))
  go_enter Tryz.func55, Tryz.ntmps55
  go_wp2
  refine wp_loop_rounds 5 ?_
  iterate 3 (rw [rounds_succ]; go_wp2)
  rw [rounds_succ]
  go_wp2_with fail
  refine (HC _ ?_).out.mono ?_
  · exact (Below.refl _ _).alloc (Nat.le_refl _) _
  rintro e w' ⟨rfl, rfl⟩
  go_wp2
  go_ret
  exact ⟨ret_int (by omega), (Below.refl _ _).alloc (Nat.le_refl _) _⟩
set_option maxHeartbeats 4000000 in
theorem least_w4 (w : World) :
    Calls Tryz.prog 55 #[.agg #[.int .u64 0, .int .u64 0, .int .u64 0, .int .u64 0]] w fun e w' => e = .returned (.int .i64 256) ∧ Below w.heap.size w w' := by
  have i0 := arr_idx0 (.int .u64 0) (.int .u64 0) (.int .u64 0) (.int .u64 0)
  have i1 := arr_idx1 (.int .u64 0) (.int .u64 0) (.int .u64 0) (.int .u64 0)
  have i2 := arr_idx2 (.int .u64 0) (.int .u64 0) (.int .u64 0) (.int .u64 0)
  have i3 := arr_idx3 (.int .u64 0) (.int .u64 0) (.int .u64 0) (.int .u64 0)
  go_enter Tryz.func55, Tryz.ntmps55
  go_wp2
  refine wp_loop_rounds 5 ?_
  iterate 5 (rw [rounds_succ]; go_wp2)
  go_ret
  exact ⟨rfl, (Below.refl _ _).alloc (Nat.le_refl _) _⟩
/-- The least byte of a set. -/
theorem least_any (p : Nat → Bool) (w : World) (hT : TZ w) :
    Calls Tryz.prog 55 #[SV p] w fun e w' => e = .returned (.int .i64 (fst p 0 : Nat)) ∧ Below w.heap.size w w' := by
  have hz : ∀ i, sw p i ≠ 0 → (((sw p i : Nat) : Int) == 0) = false ∧ (((sw p i : Nat) : Int) != 0) = true := fun i h => ⟨by simp; omega, by simp; omega⟩
  have hc : ∀ i, sw p i ≠ 0 → Lib.ctz 64 (sw p i) < 64 := fun i h => (ctz_least (fun j => p (64 * i + j)) h).1
  have HC : ∀ i, sw p i ≠ 0 → ∀ w', Below w.heap.size w w' → Hid (Calls Tryz.prog 79 #[.int .u64 (sw p i : Nat)] w' fun e w'' => e = .returned (.int .i64 (Lib.ctz 64 (sw p i) : Nat)) ∧ w' = w'') :=
    fun i h w' hb => Lib.hid ((tz_any (sw p i) (by have := sw_lt p i; omega) h w' (hT.below hb)).mono fun _ _ h => ⟨h.1, h.2.symm⟩)
  unfold SV
  by_cases h0 : sw p 0 = 0
  · by_cases h1 : sw p 1 = 0
    · by_cases h2 : sw p 2 = 0
      · by_cases h3 : sw p 3 = 0
        · rw [least_none p (fun i hi => by rcases (by omega : i = 0 ∨ i = 1 ∨ i = 2 ∨ i = 3) with rfl | rfl | rfl | rfl <;> assumption), h0, h1, h2, h3]
          exact least_w4 w
        · rw [least_at p 3 (by decide) (fun k hk => by rcases (by omega : k = 0 ∨ k = 1 ∨ k = 2) with rfl | rfl | rfl <;> assumption) h3, h0, h1, h2]
          exact least_w3 _ _ (hc 3 h3) (hz 3 h3).1 (hz 3 h3).2 w (HC 3 h3)
      · rw [least_at p 2 (by decide) (fun k hk => by rcases (by omega : k = 0 ∨ k = 1) with rfl | rfl <;> assumption) h2, h0, h1]
        exact least_w2 _ _ _ (hc 2 h2) (hz 2 h2).1 (hz 2 h2).2 w (HC 2 h2)
    · rw [least_at p 1 (by decide) (fun k hk => by obtain rfl : k = 0 := (by omega); exact h0) h1, h0]
      exact least_w1 _ _ _ _ (hc 1 h1) (hz 1 h1).1 (hz 1 h1).2 w (HC 1 h1)
  · rw [least_at p 0 (by decide) (fun k hk => absurd hk (by omega)) h0]
    exact least_w0 _ _ _ _ _ (hc 0 h0) (hz 0 h0).1 (hz 0 h0).2 w (HC 0 h0)
end Go.Proofs.YthmgcebonplcgaaGreatDoor
