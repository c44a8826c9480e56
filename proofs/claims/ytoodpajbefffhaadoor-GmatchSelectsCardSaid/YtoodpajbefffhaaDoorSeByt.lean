/- The contract of Bytes. -/
import Derived.Test.YtoodpajbefffhaaDoorSeCtz
import Derived.Test.YtoodpajbefffhaaDoorKSet
import Derived.Shelf.Spec.TrailingZeros
import Derived.Outline
import Derived.OwnWalk
import Derived.Laws.OwnMore
namespace Go.Proofs.YtoodpajbefffhaaDoor
open Go.RowKit

/-- The table of trailing noughts lies. -/
def TZ (w : World) : Prop := TabAt 21 Lib.deBruijn64tab w
theorem TZ.below {w w' : World} (h : TZ w) (hb : Below w.heap.size w w') : TZ w' := fun j hj => by
  have hc := h j hj
  have hlt := World.block_lt_of_cell? _ _ hc
  rw [hb.cell (by simpa using hlt)]
  exact hc
set_option maxHeartbeats 2000000 in
theorem tz_core (x k idx : Nat) (w : World) (hx0 : ((x : Int) == 0) = false)
    (key : IntKind.u64.wrap (bits BinOp.and IntKind.u64 (x : Int) (IntKind.u64.wrap (-(x : Int))) * 285870213051353865) / 288230376151711744 = (idx : Int))
    (hi : idx < 64) (hk : k < 64) (hcell : w.cell? ⟨21, idx, none⟩ = some (.int .u8 k)) :
    Calls Tryd.prog 49 #[.int .u64 x] w fun e w' => e = .returned (.int .i64 k) ∧ w' = w := by
  go_enter Tryd.func49, Tryd.ntmps49
  go_wp2_with (simp only [key])
  go_ret
  exact ⟨rfl, rfl⟩
theorem tz_any (x : Nat) (hx : x < 18446744073709551616) (hx0 : x ≠ 0) (w : World) (hT : TZ w) :
    Calls Tryd.prog 49 #[.int .u64 x] w fun e w' => e = .returned (.int .i64 (Lib.ctz 64 x : Nat)) ∧ w' = w := by
  obtain ⟨hlow, hk⟩ := Lib.lowest_bit 64 x hx0 hx
  obtain ⟨hi, htab⟩ := Lib.deBruijn64_at _ hk
  have hcell := hT _ hi
  rw [htab] at hcell
  exact tz_core x _ _ w (by simp; omega) (tz64_key x _ hx hx0 hlow) hi hk hcell
theorem byte_row : (Tryd.prog.info? 5).map (fun i => (i.zero, i.size, i.bytes)) = some (some (.int .u8 0), 1, 1) := by kernel_rfl
/-- What the loop over a word leaves to do. -/
def rq (p : Nat → Bool) (B m j : Nat) : Bool := p (B + j) && decide (m ≤ j)
theorem rq_next (p : Nat → Bool) (B m : Nat) (h0 : wd (rq p B m) ≠ 0) :
    ∃ c, c = Lib.ctz 64 (wd (rq p B m)) ∧ c < 64 ∧ byL p (B + (c + 1)) = byL p (B + m) ++ [((B + c : Nat) : Int)] ∧ wd (rq p B m) &&& (wd (rq p B m) - 1) = wd (rq p B (c + 1)) := by
  obtain ⟨hc, hq, hl⟩ := ctz_least _ h0
  have hcl := clear_least _ h0
  generalize Lib.ctz 64 (wd (rq p B m)) = c at *
  have hq' : p (B + c) = true ∧ m ≤ c := by simpa [rq] using hq
  obtain ⟨n, rfl⟩ : ∃ n, c = m + n := ⟨c - m, by omega⟩
  refine ⟨_, rfl, hc, ?_, ?_⟩
  · have h1 := byL_skip p (B + m) n (fun j hj => by
      have := hl (m + j) (by omega)
      simp only [rq] at this
      rw [show decide (m ≤ m + j) = true by simp, Bool.and_true] at this
      rw [Nat.add_assoc]
      exact this)
    have h2 := byL_step p (B + (m + n)) hq'.1
    rw [show B + (m + n + 1) = B + (m + n) + 1 by omega, h2, show B + (m + n) = B + m + n by omega, h1]
  · rw [hcl]
    refine wd_congr fun j _ => ?_
    unfold rq
    cases p (B + j)
    · simp
    · simp only [Bool.true_and]
      rw [Bool.eq_iff_iff]
      simp
      omega
theorem rq_end (p : Nat → Bool) (B m : Nat) (hm : m ≤ 64) (h0 : wd (rq p B m) = 0) : byL p (B + 64) = byL p (B + m) := by
  obtain ⟨n, hn⟩ : ∃ n, 64 = m + n := ⟨64 - m, by omega⟩
  rw [hn, ← Nat.add_assoc]
  refine byL_skip p (B + m) n fun j hj => ?_
  have h := congrArg (·.testBit (m + j)) h0
  simp only [wd_testBit, Nat.zero_testBit] at h
  rw [decide_eq_true (by omega : m + j < 64), Bool.true_and] at h
  simp only [rq] at h
  rw [show decide (m ≤ m + j) = true by simp, Bool.and_true] at h
  rw [Nat.add_assoc]
  exact h
theorem and_sub_lt (x : Nat) (h : x ≠ 0) : x &&& (x - 1) < x := Nat.lt_of_le_of_lt Nat.and_le_right (by omega)

set_option maxRecDepth 100000 in
set_option maxHeartbeats 16000000 in
theorem bytes_any (p : Nat → Bool) (w : World) (hT : TZ w) :
    Calls Tryd.prog 63 #[SV p] w fun e w' => ∃ v, e = .returned v ∧ w'.ownsRow w.heap.size 5 1 v (byL p 256).length ((byL p 256).map (Value.int .u8)) ∧ Below w.heap.size w w' := by
  obtain ⟨i0, hi, hz0, hz1, hz2⟩ := info_parts byte_row
  have HT := Lib.hid hT
  clear hT
  have hcn : cntS p ≤ 256 := by unfold cntS; have a := cntW_le (fun j => p j); have b := cntW_le (fun j => p (64 + j)); have c := cntW_le (fun j => p (128 + j)); have d := cntW_le (fun j => p (192 + j)); omega
  have HL : ∀ w, Hid (Calls Tryd.prog 62 #[.agg #[.int .u64 (sw p 0 : Nat), .int .u64 (sw p 1 : Nat), .int .u64 (sw p 2 : Nat), .int .u64 (sw p 3 : Nat)]] w fun e w' => e = .returned (.int .i64 (cntS p : Nat)) ∧ Below w.heap.size w w') := fun w => Lib.hid (len_any p w)
  generalize cntS p = n at *
  have HZ : ∀ (q : Nat → Bool) (w' : World), wd q ≠ 0 → Below w.heap.size w w' → Calls Tryd.prog 49 #[.int .u64 (wd q : Nat)] w' fun e w'' => e = .returned (.int .i64 (Lib.ctz 64 (wd q) : Nat)) ∧ w' = w'' := fun q w' h0 h => (tz_any (wd q) (wd_lt q) h0 w' (HT.out.below h)).mono fun _ _ h => ⟨h.1, h.2.symm⟩
  have HZH := Lib.hid HZ
  clear HZ
  have k0 : Hid (sw p 0 = wd (rq p 0 0)) := Lib.hid (wd_congr fun j _ => by simp [rq])
  have k1 : Hid (sw p 1 = wd (rq p 64 0)) := Lib.hid (wd_congr fun j _ => by simp [rq])
  have k2 : Hid (sw p 2 = wd (rq p 128 0)) := Lib.hid (wd_congr fun j _ => by simp [rq])
  have k3 : Hid (sw p 3 = wd (rq p 192 0)) := Lib.hid (wd_congr fun j _ => by simp [rq])
  unfold SV
  have i00 := arr_idx0 (.int .u64 (sw p 0 : Nat)) (.int .u64 (sw p 1 : Nat)) (.int .u64 (sw p 2 : Nat)) (.int .u64 (sw p 3 : Nat))
  have i01 := arr_idx1 (.int .u64 (sw p 0 : Nat)) (.int .u64 (sw p 1 : Nat)) (.int .u64 (sw p 2 : Nat)) (.int .u64 (sw p 3 : Nat))
  have i02 := arr_idx2 (.int .u64 (sw p 0 : Nat)) (.int .u64 (sw p 1 : Nat)) (.int .u64 (sw p 2 : Nat)) (.int .u64 (sw p 3 : Nat))
  have i03 := arr_idx3 (.int .u64 (sw p 0 : Nat)) (.int .u64 (sw p 1 : Nat)) (.int .u64 (sw p 2 : Nat)) (.int .u64 (sw p 3 : Nat))
  go_enter Tryd.func63, Tryd.ntmps63
  go_wp2_with fail
  refine (HL _).out.mono ?_
  rintro e w1 ⟨rfl, hb1⟩
  have HB1 : Hid (Below (w.heap.size + 1) (w.alloc (.cells #[.int .u64 (sw p 0 : Nat), .int .u64 (sw p 1 : Nat), .int .u64 (sw p 2 : Nat), .int .u64 (sw p 3 : Nat)] 39)) w1) := Lib.hid (hb1.mono (by simp))
  clear hb1
  have hs1 : w.heap.size + 1 ≤ w1.heap.size := by have := HB1.out.size; simp at this; exact this
  go_wp2_with (at_make; refine wpList_make_own _ rfl _ _ 22 rfl w.heap.size 5 i0 (.int .u8 0) 1 Tryd.underlying22 hi hz0 hz1 _ _ _ n rfl rfl rfl (by rw [hz2]; omega) (by unfold maxLen; omega) (by omega) ?_)
  intro w2 hown hgrow
  have HB2 : Hid (Below (w.heap.size + 1) (w.alloc (.cells #[.int .u64 (sw p 0 : Nat), .int .u64 (sw p 1 : Nat), .int .u64 (sw p 2 : Nat), .int .u64 (sw p 3 : Nat)] 39)) w2) := Lib.hid (HB1.out.grown hgrow hs1 (fun k hk => by cases hk))
  have HW2 : Hid (Below w.heap.size w w2) := Lib.hid (((Below.refl _ _).alloc (Nat.le_refl _) _).trans (HB2.out.mono (Nat.le_succ _)))
  have HO : Hid (w2.ownsRow w.heap.size 5 1 (.slice (some ⟨w1.heap.size, 0, none⟩) 0 n) (byL p (0 + 0)).length ((byL p (0 + 0)).map (Value.int .u8))) := Lib.hid (by rw [show byL p (0 + 0) = [] from rfl]; exact hown)
  have hbx := (HB2.out.block w.heap.size (Nat.lt_succ_self _)).trans (show (w.alloc (.cells #[.int .u64 (sw p 0 : Nat), .int .u64 (sw p 1 : Nat), .int .u64 (sw p 2 : Nat), .int .u64 (sw p 3 : Nat)] 39)).heap[w.heap.size]? = some (.cells #[.int .u64 (sw p 0 : Nat), .int .u64 (sw p 1 : Nat), .int .u64 (sw p 2 : Nat), .int .u64 (sw p 3 : Nat)] 39) by show (w.heap.push _)[w.heap.size]? = _; simp)
  have c0 : w2.cell? ⟨w.heap.size, 0, none⟩ = some (.int .u64 (sw p 0 : Nat)) := by simp [World.cell?, hbx]
  have c1 : w2.cell? ⟨w.heap.size, 1, none⟩ = some (.int .u64 (sw p 1 : Nat)) := by simp [World.cell?, hbx]
  have c2 : w2.cell? ⟨w.heap.size, 2, none⟩ = some (.int .u64 (sw p 2 : Nat)) := by simp [World.cell?, hbx]
  have c3 : w2.cell? ⟨w.heap.size, 3, none⟩ = some (.int .u64 (sw p 3 : Nat)) := by simp [World.cell?, hbx]
  clear hbx hown hgrow
  go_wp2_with fail
  refine wp_loop_rounds 5 ?_
  obtain ⟨v0, hv0⟩ : ∃ v, v = Value.slice (some ⟨w1.heap.size, 0, none⟩) 0 n := ⟨_, rfl⟩
  rw [← hv0] at HO ⊢
  have HV0 := Lib.hid hv0
  clear hv0 c0 c1 c2 c3
  rw [rounds_succ]
  go_wp2_with fail
  go_loopw [3, 5] (fun v x wr => ∃ m : Nat, m ≤ 64 ∧ x = .int .u64 (wd (rq p 0 m) : Nat) ∧ wr.ownsRow w.heap.size 5 1 v (byL p (0 + m)).length ((byL p (0 + m)).map (Value.int .u8)) ∧ Below w.heap.size w wr) (fun _ x _ => (intOf x).toNat)
  case atStart => exact ⟨0, by omega, by rw [k0.out], HO.out, HW2.out⟩
  case round =>
    obtain ⟨m, hm, rfl, hown, hbel⟩ := hrel
    have HOW0 := Lib.hid hown
    have HB0x := Lib.hid hbel
    have hbl := byL_len p (0 + m)
    have hbs := hbel.size
    clear hown hbel
    by_cases h0 : wd (rq p 0 m) = 0
    · have HE0 : Hid (byL p (0 + 64) = byL p (0 + m)) := Lib.hid (rq_end p 0 m hm h0)
      have h1 : (((wd (rq p 0 m) : Nat) : Int) == 0) = true := by rw [h0]; rfl
      have h2 : (((wd (rq p 0 m) : Nat) : Int) != 0) = false := by rw [h0]; rfl
      clear h0 hbl
      have HP0 : Hid (wr.ownsRow w.heap.size 5 1 u3 (byL p (64 + 0)).length ((byL p (64 + 0)).map (Value.int .u8))) := Lib.hid (by rw [show 64 + 0 = 0 + 64 from rfl, HE0.out]; exact HOW0.out)
      go_wp2_with fail
      rw [rounds_succ]
      go_wp2_with fail
      go_loopw [3, 5] (fun v x wr => ∃ m : Nat, m ≤ 64 ∧ x = .int .u64 (wd (rq p 64 m) : Nat) ∧ wr.ownsRow w.heap.size 5 1 v (byL p (64 + m)).length ((byL p (64 + m)).map (Value.int .u8)) ∧ Below w.heap.size w wr) (fun _ x _ => (intOf x).toNat)
      case atStart => exact ⟨0, by omega, by rw [k1.out], HP0.out, HB0x.out⟩
      case round =>
        obtain ⟨m, hm, rfl, hown, hbel⟩ := hrel
        have HOW1 := Lib.hid hown
        have HB1x := Lib.hid hbel
        have hbl := byL_len p (64 + m)
        have hbs := hbel.size
        clear hown hbel
        by_cases h0 : wd (rq p 64 m) = 0
        · have HE1 : Hid (byL p (64 + 64) = byL p (64 + m)) := Lib.hid (rq_end p 64 m hm h0)
          have h1 : (((wd (rq p 64 m) : Nat) : Int) == 0) = true := by rw [h0]; rfl
          have h2 : (((wd (rq p 64 m) : Nat) : Int) != 0) = false := by rw [h0]; rfl
          clear h0 hbl
          have HP1 : Hid (wr.ownsRow w.heap.size 5 1 u3 (byL p (128 + 0)).length ((byL p (128 + 0)).map (Value.int .u8))) := Lib.hid (by rw [show 128 + 0 = 64 + 64 from rfl, HE1.out]; exact HOW1.out)
          go_wp2_with fail
          rw [rounds_succ]
          go_wp2_with fail
          go_loopw [3, 5] (fun v x wr => ∃ m : Nat, m ≤ 64 ∧ x = .int .u64 (wd (rq p 128 m) : Nat) ∧ wr.ownsRow w.heap.size 5 1 v (byL p (128 + m)).length ((byL p (128 + m)).map (Value.int .u8)) ∧ Below w.heap.size w wr) (fun _ x _ => (intOf x).toNat)
          case atStart => exact ⟨0, by omega, by rw [k2.out], HP1.out, HB1x.out⟩
          case round =>
            obtain ⟨m, hm, rfl, hown, hbel⟩ := hrel
            have HOW2 := Lib.hid hown
            have HB2x := Lib.hid hbel
            have hbl := byL_len p (128 + m)
            have hbs := hbel.size
            clear hown hbel
            by_cases h0 : wd (rq p 128 m) = 0
            · have HE2 : Hid (byL p (128 + 64) = byL p (128 + m)) := Lib.hid (rq_end p 128 m hm h0)
              have h1 : (((wd (rq p 128 m) : Nat) : Int) == 0) = true := by rw [h0]; rfl
              have h2 : (((wd (rq p 128 m) : Nat) : Int) != 0) = false := by rw [h0]; rfl
              clear h0 hbl
              have HP2 : Hid (wr.ownsRow w.heap.size 5 1 u3 (byL p (192 + 0)).length ((byL p (192 + 0)).map (Value.int .u8))) := Lib.hid (by rw [show 192 + 0 = 128 + 64 from rfl, HE2.out]; exact HOW2.out)
              go_wp2_with fail
              rw [rounds_succ]
              go_wp2_with fail
              go_loopw [3, 5] (fun v x wr => ∃ m : Nat, m ≤ 64 ∧ x = .int .u64 (wd (rq p 192 m) : Nat) ∧ wr.ownsRow w.heap.size 5 1 v (byL p (192 + m)).length ((byL p (192 + m)).map (Value.int .u8)) ∧ Below w.heap.size w wr) (fun _ x _ => (intOf x).toNat)
              case atStart => exact ⟨0, by omega, by rw [k3.out], HP2.out, HB2x.out⟩
              case round =>
                obtain ⟨m, hm, rfl, hown, hbel⟩ := hrel
                have HOW3 := Lib.hid hown
                have HB3x := Lib.hid hbel
                have hbl := byL_len p (192 + m)
                have hbs := hbel.size
                clear hown hbel
                by_cases h0 : wd (rq p 192 m) = 0
                · have HE3 : Hid (byL p (192 + 64) = byL p (192 + m)) := Lib.hid (rq_end p 192 m hm h0)
                  have h1 : (((wd (rq p 192 m) : Nat) : Int) == 0) = true := by rw [h0]; rfl
                  have h2 : (((wd (rq p 192 m) : Nat) : Int) != 0) = false := by rw [h0]; rfl
                  clear h0 hbl
                  go_wp2_with fail
                  rw [rounds_succ]
                  go_wp2
                  go_ret
                  exact ⟨_, rfl, by rw [show 256 = 192 + 64 from rfl, HE3.out]; exact HOW3.out, HB3x.out⟩
                · obtain ⟨c, hc, hc64, hby, hand⟩ := rq_next p 192 m h0
                  have HC := Lib.hid (HZH.out (rq p 192 m) _ h0 HB3x.out)
                  rw [← hc] at HC
                  have HM : Hid (wd (rq p 192 (c + 1)) < wd (rq p 192 m)) := Lib.hid (by rw [← hand]; exact and_sub_lt _ h0)
                  have h1 : (((wd (rq p 192 m) : Nat) : Int) == 0) = false := by simp; omega
                  have h2 : (((wd (rq p 192 m) : Nat) : Int) != 0) = true := by simp; omega
                  have hp1 : (1 : Int) ≤ (wd (rq p 192 m) : Nat) := by omega
                  have hlt := wd_lt (rq p 192 m)
                  have ha : bits .and .u64 ((wd (rq p 192 m) : Nat) : Int) (((wd (rq p 192 m) : Nat) : Int) - 1) = ((wd (rq p 192 (c + 1)) : Nat) : Int) := by
                    rw [show (((wd (rq p 192 m) : Nat) : Int) - 1) = ((wd (rq p 192 m) - 1 : Nat) : Int) by omega, u64_and_nat _ _ hlt (by omega), hand]
                  have HY : Hid (byL p (192 + (c + 1)) = byL p (192 + m) ++ [((192 + c : Nat) : Int)]) := Lib.hid hby
                  clear hc hby hand h0
                  generalize wd (rq p 192 m) = x at *
                  obtain ⟨y, hy⟩ : ∃ y, y = wd (rq p 192 (c + 1)) := ⟨_, rfl⟩
                  rw [← hy] at HM ha
                  have HYW := Lib.hid hy
                  clear hy
                  go_wp2_with fail
                  refine HC.out.mono ?_
                  rintro e w3 ⟨rfl, rfl⟩
                  go_wp2_with (at_builtin; refine wpList_append_own _ rfl _ _ 22 rfl w.heap.size 5 i0 (.int .u8 0) 1 1 Tryd.underlying22 hi hz0 hz1 hz2 rfl (by decide) _ _ _ rfl (HOW3.out.alloc _) ⟨wr.heap.size, 0, none⟩ 1 1 [.int .u8 (192 + (c : Int))] rfl rfl ?c1 ?c2 ?c3 ?c4 ?c5 ?_)
                  case c1 =>
                    intro j u hj
                    match j, hj with
                    | 0, hj => simp at hj; subst hj; simp [Addr.add]
                  case c2 => intro u hu; simp at hu; subst hu; rfl
                  case c3 => unfold maxLen; omega
                  case c4 => omega
                  case c5 => simp; omega
                  intro v' w4 hown' hgrow _
                  have HN : Hid (w4.ownsRow w.heap.size 5 1 v' (byL p (192 + (c + 1))).length ((byL p (192 + (c + 1))).map (Value.int .u8))) := Lib.hid (by rw [HY.out]; simpa using hown')
                  have HG : Hid (Below w.heap.size w w4) := Lib.hid ((HB3x.out.alloc HB3x.out.size _).grown hgrow (by simp; omega) (fun k hk => (HOW3.out.lt k hk).1))
                  clear hown' hgrow
                  go_wp2
                  go_roundw
                  case rel => exact ⟨c + 1, by omega, by rw [← HYW.out], HN.out, HG.out⟩
                  case measure => have := HM.out; simp [intOf]; omega
            · obtain ⟨c, hc, hc64, hby, hand⟩ := rq_next p 128 m h0
              have HC := Lib.hid (HZH.out (rq p 128 m) _ h0 HB2x.out)
              rw [← hc] at HC
              have HM : Hid (wd (rq p 128 (c + 1)) < wd (rq p 128 m)) := Lib.hid (by rw [← hand]; exact and_sub_lt _ h0)
              have h1 : (((wd (rq p 128 m) : Nat) : Int) == 0) = false := by simp; omega
              have h2 : (((wd (rq p 128 m) : Nat) : Int) != 0) = true := by simp; omega
              have hp1 : (1 : Int) ≤ (wd (rq p 128 m) : Nat) := by omega
              have hlt := wd_lt (rq p 128 m)
              have ha : bits .and .u64 ((wd (rq p 128 m) : Nat) : Int) (((wd (rq p 128 m) : Nat) : Int) - 1) = ((wd (rq p 128 (c + 1)) : Nat) : Int) := by
                rw [show (((wd (rq p 128 m) : Nat) : Int) - 1) = ((wd (rq p 128 m) - 1 : Nat) : Int) by omega, u64_and_nat _ _ hlt (by omega), hand]
              have HY : Hid (byL p (128 + (c + 1)) = byL p (128 + m) ++ [((128 + c : Nat) : Int)]) := Lib.hid hby
              clear hc hby hand h0
              generalize wd (rq p 128 m) = x at *
              obtain ⟨y, hy⟩ : ∃ y, y = wd (rq p 128 (c + 1)) := ⟨_, rfl⟩
              rw [← hy] at HM ha
              have HYW := Lib.hid hy
              clear hy
              go_wp2_with fail
              refine HC.out.mono ?_
              rintro e w3 ⟨rfl, rfl⟩
              go_wp2_with (at_builtin; refine wpList_append_own _ rfl _ _ 22 rfl w.heap.size 5 i0 (.int .u8 0) 1 1 Tryd.underlying22 hi hz0 hz1 hz2 rfl (by decide) _ _ _ rfl (HOW2.out.alloc _) ⟨wr.heap.size, 0, none⟩ 1 1 [.int .u8 (128 + (c : Int))] rfl rfl ?c1 ?c2 ?c3 ?c4 ?c5 ?_)
              case c1 =>
                intro j u hj
                match j, hj with
                | 0, hj => simp at hj; subst hj; simp [Addr.add]
              case c2 => intro u hu; simp at hu; subst hu; rfl
              case c3 => unfold maxLen; omega
              case c4 => omega
              case c5 => simp; omega
              intro v' w4 hown' hgrow _
              have HN : Hid (w4.ownsRow w.heap.size 5 1 v' (byL p (128 + (c + 1))).length ((byL p (128 + (c + 1))).map (Value.int .u8))) := Lib.hid (by rw [HY.out]; simpa using hown')
              have HG : Hid (Below w.heap.size w w4) := Lib.hid ((HB2x.out.alloc HB2x.out.size _).grown hgrow (by simp; omega) (fun k hk => (HOW2.out.lt k hk).1))
              clear hown' hgrow
              go_wp2
              go_roundw
              case rel => exact ⟨c + 1, by omega, by rw [← HYW.out], HN.out, HG.out⟩
              case measure => have := HM.out; simp [intOf]; omega
        · obtain ⟨c, hc, hc64, hby, hand⟩ := rq_next p 64 m h0
          have HC := Lib.hid (HZH.out (rq p 64 m) _ h0 HB1x.out)
          rw [← hc] at HC
          have HM : Hid (wd (rq p 64 (c + 1)) < wd (rq p 64 m)) := Lib.hid (by rw [← hand]; exact and_sub_lt _ h0)
          have h1 : (((wd (rq p 64 m) : Nat) : Int) == 0) = false := by simp; omega
          have h2 : (((wd (rq p 64 m) : Nat) : Int) != 0) = true := by simp; omega
          have hp1 : (1 : Int) ≤ (wd (rq p 64 m) : Nat) := by omega
          have hlt := wd_lt (rq p 64 m)
          have ha : bits .and .u64 ((wd (rq p 64 m) : Nat) : Int) (((wd (rq p 64 m) : Nat) : Int) - 1) = ((wd (rq p 64 (c + 1)) : Nat) : Int) := by
            rw [show (((wd (rq p 64 m) : Nat) : Int) - 1) = ((wd (rq p 64 m) - 1 : Nat) : Int) by omega, u64_and_nat _ _ hlt (by omega), hand]
          have HY : Hid (byL p (64 + (c + 1)) = byL p (64 + m) ++ [((64 + c : Nat) : Int)]) := Lib.hid hby
          clear hc hby hand h0
          generalize wd (rq p 64 m) = x at *
          obtain ⟨y, hy⟩ : ∃ y, y = wd (rq p 64 (c + 1)) := ⟨_, rfl⟩
          rw [← hy] at HM ha
          have HYW := Lib.hid hy
          clear hy
          go_wp2_with fail
          refine HC.out.mono ?_
          rintro e w3 ⟨rfl, rfl⟩
          go_wp2_with (at_builtin; refine wpList_append_own _ rfl _ _ 22 rfl w.heap.size 5 i0 (.int .u8 0) 1 1 Tryd.underlying22 hi hz0 hz1 hz2 rfl (by decide) _ _ _ rfl (HOW1.out.alloc _) ⟨wr.heap.size, 0, none⟩ 1 1 [.int .u8 (64 + (c : Int))] rfl rfl ?c1 ?c2 ?c3 ?c4 ?c5 ?_)
          case c1 =>
            intro j u hj
            match j, hj with
            | 0, hj => simp at hj; subst hj; simp [Addr.add]
          case c2 => intro u hu; simp at hu; subst hu; rfl
          case c3 => unfold maxLen; omega
          case c4 => omega
          case c5 => simp; omega
          intro v' w4 hown' hgrow _
          have HN : Hid (w4.ownsRow w.heap.size 5 1 v' (byL p (64 + (c + 1))).length ((byL p (64 + (c + 1))).map (Value.int .u8))) := Lib.hid (by rw [HY.out]; simpa using hown')
          have HG : Hid (Below w.heap.size w w4) := Lib.hid ((HB1x.out.alloc HB1x.out.size _).grown hgrow (by simp; omega) (fun k hk => (HOW1.out.lt k hk).1))
          clear hown' hgrow
          go_wp2
          go_roundw
          case rel => exact ⟨c + 1, by omega, by rw [← HYW.out], HN.out, HG.out⟩
          case measure => have := HM.out; simp [intOf]; omega
    · obtain ⟨c, hc, hc64, hby, hand⟩ := rq_next p 0 m h0
      have HC := Lib.hid (HZH.out (rq p 0 m) _ h0 HB0x.out)
      rw [← hc] at HC
      have HM : Hid (wd (rq p 0 (c + 1)) < wd (rq p 0 m)) := Lib.hid (by rw [← hand]; exact and_sub_lt _ h0)
      have h1 : (((wd (rq p 0 m) : Nat) : Int) == 0) = false := by simp; omega
      have h2 : (((wd (rq p 0 m) : Nat) : Int) != 0) = true := by simp; omega
      have hp1 : (1 : Int) ≤ (wd (rq p 0 m) : Nat) := by omega
      have hlt := wd_lt (rq p 0 m)
      have ha : bits .and .u64 ((wd (rq p 0 m) : Nat) : Int) (((wd (rq p 0 m) : Nat) : Int) - 1) = ((wd (rq p 0 (c + 1)) : Nat) : Int) := by
        rw [show (((wd (rq p 0 m) : Nat) : Int) - 1) = ((wd (rq p 0 m) - 1 : Nat) : Int) by omega, u64_and_nat _ _ hlt (by omega), hand]
      have HY : Hid (byL p (0 + (c + 1)) = byL p (0 + m) ++ [((0 + c : Nat) : Int)]) := Lib.hid hby
      clear hc hby hand h0
      generalize wd (rq p 0 m) = x at *
      obtain ⟨y, hy⟩ : ∃ y, y = wd (rq p 0 (c + 1)) := ⟨_, rfl⟩
      rw [← hy] at HM ha
      have HYW := Lib.hid hy
      clear hy
      go_wp2_with fail
      refine HC.out.mono ?_
      rintro e w3 ⟨rfl, rfl⟩
      go_wp2_with (at_builtin; refine wpList_append_own _ rfl _ _ 22 rfl w.heap.size 5 i0 (.int .u8 0) 1 1 Tryd.underlying22 hi hz0 hz1 hz2 rfl (by decide) _ _ _ rfl (HOW0.out.alloc _) ⟨wr.heap.size, 0, none⟩ 1 1 [.int .u8 (c : Int)] rfl rfl ?c1 ?c2 ?c3 ?c4 ?c5 ?_)
      case c1 =>
        intro j u hj
        match j, hj with
        | 0, hj => simp at hj; subst hj; simp [Addr.add]
      case c2 => intro u hu; simp at hu; subst hu; rfl
      case c3 => unfold maxLen; omega
      case c4 => omega
      case c5 => simp; omega
      intro v' w4 hown' hgrow _
      have HN : Hid (w4.ownsRow w.heap.size 5 1 v' (byL p (0 + (c + 1))).length ((byL p (0 + (c + 1))).map (Value.int .u8))) := Lib.hid (by rw [HY.out]; simpa using hown')
      have HG : Hid (Below w.heap.size w w4) := Lib.hid ((HB0x.out.alloc HB0x.out.size _).grown hgrow (by simp; omega) (fun k hk => (HOW0.out.lt k hk).1))
      clear hown' hgrow
      go_wp2
      go_roundw
      case rel => exact ⟨c + 1, by omega, by rw [← HYW.out], HN.out, HG.out⟩
      case measure => have := HM.out; simp [intOf]; omega
end Go.Proofs.YtoodpajbefffhaaDoor
