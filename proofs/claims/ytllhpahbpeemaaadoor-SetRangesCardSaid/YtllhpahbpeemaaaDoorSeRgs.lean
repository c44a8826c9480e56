/- The walk of SetRanges. -/
import Derived.Test.YtllhpahbpeemaaaDoorSeRng
import Derived.Test.YtllhpahbpeemaaaDoorSeAwk
namespace Go.Proofs.YtllhpahbpeemaaaDoor
open Go.RowKit

theorem own_shape {w : World} {base : Nat} {e : TypeId} {v : Value} {n : Nat} {xs : List Value} (h : w.ownsRow base e 1 v n xs) : xs.length = n ∧ ∃ a0 cap, v = .slice a0 n cap := by
  obtain ⟨h1, ⟨rfl, rfl⟩ | ⟨g, cap, cur, rfl, _⟩⟩ := h
  · exact ⟨by simpa using h1, none, 0, rfl⟩
  · exact ⟨by simpa using h1, _, cap, rfl⟩

set_option maxRecDepth 100000 in
set_option maxHeartbeats 8000000 in
theorem ranges_over (low high : Nat) (hl : low < 256) (hh : high < 256) (hgt : high < low) (w : World) (hT : TZ w) :
    Calls Tryd.prog 10 #[.int .u8 low, .int .u8 high] w fun e w' => e = .returned (.bool true) ∧ Below w.heap.size w w' := by
  have HT := Lib.hid hT
  clear hT
  have hgI : (high : Int) < (low : Int) := by omega
  have hc0 : cntS (rng low high) = 0 := by rw [cntS_len, byL_none low high hgt]; rfl
  have HL : ∀ w, Hid (Calls Tryd.prog 23 #[.agg #[.int .u64 (sw (rng low high) 0 : Nat), .int .u64 (sw (rng low high) 1 : Nat), .int .u64 (sw (rng low high) 2 : Nat), .int .u64 (sw (rng low high) 3 : Nat)]] w fun e w' => e = .returned (.int .i64 0) ∧ Below w.heap.size w w') := fun w => Lib.hid (by have := len_any (rng low high) w; rw [hc0] at this; exact this)
  have HX : ∀ w, Hid (Calls Tryd.prog 29 #[.agg #[.int .u64 (sw (rng low high) 0 : Nat), .int .u64 (sw (rng low high) 1 : Nat), .int .u64 (sw (rng low high) 2 : Nat), .int .u64 (sw (rng low high) 3 : Nat)]] w fun e w' => e = .returned (.string ⟨#[91, 93]⟩) ∧ Below w.heap.size w w') := fun w => Lib.hid (by have := text_none w; rw [← SV_no (p := rng low high) (fun c _ => by simp [rng]; omega)] at this; exact this)
  have HA : ∀ w, Hid (Calls Tryd.prog 26 #[] w fun e w' => e = .returned (.bool true) ∧ Below w.heap.size w w') := fun w => Lib.hid (awake5_any w)
  have HR : ∀ w, Hid (Calls Tryd.prog 14 #[.int .u8 low, .int .u8 high] w fun e w' => e = .returned (SV (rng low high)) ∧ Below w.heap.size w w') := fun w => Lib.hid (range_any low high hl hh w)
  clear hc0 hl hh hgt
  go_enter Tryd.func10, Tryd.ntmps10
  go_wp2_with fail
  refine (HR _).out.mono ?_
  rintro e w1 ⟨rfl, hb1⟩
  have HB1 := Lib.hid hb1
  clear hb1
  unfold SV
  go_wp2_with fail
  refine (bytes_any (rng low high) _ (HT.out.below (HB1.out.alloc HB1.out.size _))).mono ?_
  rintro e w2 ⟨v, rfl, hown, hb2⟩
  have hg := (hb2.block w1.heap.size (by simp)).trans (alloc_last w1 (.cells #[.int .u64 (sw (rng low high) 0 : Nat), .int .u64 (sw (rng low high) 1 : Nat), .int .u64 (sw (rng low high) 2 : Nat), .int .u64 (sw (rng low high) 3 : Nat)] 24))
  have HG := Lib.hid hg
  obtain ⟨⟨c0, c1, c2, c3⟩, _, _⟩ := cells4 hg
  have HB2 := Lib.hid (below_thn (HB1.out.alloc HB1.out.size (.cells #[.int .u64 (sw (rng low high) 0 : Nat), .int .u64 (sw (rng low high) 1 : Nat), .int .u64 (sw (rng low high) 2 : Nat), .int .u64 (sw (rng low high) 3 : Nat)] 24)) (Nat.le_refl _) hb2)
  have hz2 : w1.heap.size < w2.heap.size := by have := hb2.size; simp at this; omega
  have hlen0 : (byL (rng low high) 256).length = 0 := by rw [← cntS_len]; have := cntS_len (rng low high); simp [cntS_len, byL_none low high (by omega)]
  obtain ⟨_, a0, cap, rfl⟩ := own_shape hown
  rw [hlen0]
  clear hown hb2 hg hlen0
  go_wp2_with fail
  refine (HL _).out.mono ?_
  rintro e w3 ⟨rfl, hb3⟩
  have HB3 := Lib.hid (below_thn HB2.out (Nat.le_refl _) hb3)
  have hg3 := (hb3.block w1.heap.size hz2).trans HG.out
  obtain ⟨⟨d0, d1, d2, d3⟩, _, _⟩ := cells4 hg3
  clear hb3 hg3
  go_wp2_with fail
  refine (HX _).out.mono ?_
  rintro e w4 ⟨rfl, hb4⟩
  have HB4 := Lib.hid (below_thn HB3.out (Nat.le_refl _) hb4)
  clear hb4
  go_wp2_with fail
  refine (HA _).out.mono ?_
  rintro e w5 ⟨rfl, hb5⟩
  have HB5 := Lib.hid (below_thn HB4.out (Nat.le_refl _) hb5)
  clear hb5
  go_wp2
  go_ret
  exact ⟨rfl, HB5.out⟩
set_option maxRecDepth 100000 in
set_option maxHeartbeats 16000000 in
theorem ranges_in (low high : Nat) (hl : low < 256) (hh : high < 256) (hle : low ≤ high) (w : World) (hT : TZ w) :
    Calls Tryd.prog 10 #[.int .u8 low, .int .u8 high] w fun e w' => e = .returned (.bool true) ∧ Below w.heap.size w w' := by
  obtain ⟨i0, hi, hz0, hz1, hz2'⟩ := info_parts byte_row
  have HT := Lib.hid hT
  clear hT
  have hgI : ¬ (high : Int) < (low : Int) := by omega
  have hN : Hid (byL (mem (byL (notP (rng low high)) 256 ++ byL (rng low high) 256)) 256 = byL (rng 0 255) 256) := Lib.hid (byL_congr fun c hc => mem_both (rng low high) c hc)
  have HA : ∀ w, Hid (Calls Tryd.prog 26 #[] w fun e w' => e = .returned (.bool true) ∧ Below w.heap.size w w') := fun w => Lib.hid (awake5_any w)
  have HR : ∀ w, Hid (Calls Tryd.prog 14 #[.int .u8 low, .int .u8 high] w fun e w' => e = .returned (SV (rng low high)) ∧ Below w.heap.size w w') := fun w => Lib.hid (range_any low high hl hh w)
  have HR2 : ∀ w, Hid (Calls Tryd.prog 14 #[.int .u8 0, .int .u8 255] w fun e w' => e = .returned (SV (rng 0 255)) ∧ Below w.heap.size w w') := fun w => Lib.hid (range_any 0 255 (by omega) (by omega) w)
  have HNo : ∀ w, Hid (Calls Tryd.prog 16 #[.agg #[.int .u64 (sw (rng low high) 0 : Nat), .int .u64 (sw (rng low high) 1 : Nat), .int .u64 (sw (rng low high) 2 : Nat), .int .u64 (sw (rng low high) 3 : Nat)]] w fun e w' => e = .returned (SV (notP (rng low high))) ∧ Below w.heap.size w w') := fun w => Lib.hid (not_any (rng low high) w)
  have hlen := byL_rng_len low high hle hh
  have hget := fun i => byL_rng_getD low high i hle hh
  have hby := byL_byt (rng low high) 256 (Nat.le_refl _)
  have hby' := byL_byt (notP (rng low high)) 256 (Nat.le_refl _)
  have hlb := len_both (rng low high)
  have hbl := byL_len (rng low high) 256
  have hbl' := byL_len (notP (rng low high)) 256
  go_enter Tryd.func10, Tryd.ntmps10
  go_wp2_with fail
  refine (HR _).out.mono ?_
  rintro e w1 ⟨rfl, hb1⟩
  have HB1 := Lib.hid hb1
  clear hb1
  unfold SV
  go_wp2_with fail
  refine (bytes_any (rng low high) _ (HT.out.below (HB1.out.alloc HB1.out.size _))).mono ?_
  rintro e w2 ⟨v, rfl, hown, hb2⟩
  have hg := (hb2.block w1.heap.size (by simp)).trans (alloc_last w1 (.cells #[.int .u64 (sw (rng low high) 0 : Nat), .int .u64 (sw (rng low high) 1 : Nat), .int .u64 (sw (rng low high) 2 : Nat), .int .u64 (sw (rng low high) 3 : Nat)] 24))
  have HG := Lib.hid hg
  obtain ⟨⟨c0, c1, c2, c3⟩, _, _⟩ := cells4 hg
  have HB2 := Lib.hid (below_thn (HB1.out.alloc HB1.out.size (.cells #[.int .u64 (sw (rng low high) 0 : Nat), .int .u64 (sw (rng low high) 1 : Nat), .int .u64 (sw (rng low high) 2 : Nat), .int .u64 (sw (rng low high) 3 : Nat)] 24)) (Nat.le_refl _) hb2)
  have hz2 : w1.heap.size < w2.heap.size := by have := hb2.size; simp at this; omega
  have HS := Lib.hid (slOwnedM hown hby (by omega))
  obtain ⟨_, a0, cap, rfl⟩ := own_shape hown
  rw [hlen] at HS ⊢
  clear hown hb2 hg
  obtain ⟨vb, vo, rfl, hcl⟩ : ∃ vb vo, a0 = some ⟨vb, vo, none⟩ ∧ ∀ i, i < high + 1 - low → w2.cell? ⟨vb, vo + i, none⟩ = some (.int .u8 ((low + i : Nat) : Int)) := by
    obtain ⟨_, _, ⟨he, _⟩ | ⟨b, o, cap', he, _, _, hr⟩⟩ := HS.out
    · rw [he] at hlen; simp at hlen; omega
    · simp only [Value.slice.injEq] at he
      exact ⟨b, o, he.1, fun i hi => by rw [hr i (by omega), hget i hi]⟩
  have hcap : (high + 1 - low : Nat) ≤ 256 := by omega
  have HCL := Lib.hid hcl
  clear hcl
  go_wp2_with fail
  go_loopw [35] (fun x wr => ∃ k : Nat, k ≤ high + 1 - low ∧ x = .int .i64 k ∧ wr = w2) (fun x _ => high + 1 - low - (intOf x).toNat)
  case atStart => exact ⟨0, by omega, rfl, rfl⟩
  case round =>
    obtain ⟨k, hk, rfl, rfl⟩ := hrel
    by_cases hlt : k < high + 1 - low
    · have hcell := HCL.out k hlt
      have hw1 : IntKind.i64.wrap ((low : Int) + (k : Int)) = (low : Int) + (k : Int) := by rw [IntKind.wrap_i64]; omega
      have hw2 : IntKind.i64.wrap ((k : Int) + 1) = (k : Int) + 1 := by rw [IntKind.wrap_i64]; omega
      have hI : (k : Int) < ((high + 1 - low : Nat) : Int) := by omega
      go_wp2_with fail
      exact ⟨⟨k + 1, by omega, by simp, trivial⟩, by simp [intOf]; omega⟩
    · obtain rfl : k = high + 1 - low := by omega
      go_wp2_with fail
      refine (HNo _).out.mono ?_
      rintro e w4 ⟨rfl, hb4⟩
      have HB4 := Lib.hid (below_thn HB2.out (Nat.le_refl _) hb4)
      have HS4 := Lib.hid (HS.out.below hb4)
      clear hb4
      unfold SV
      go_wp2_with fail
      refine (bytes_any (notP (rng low high)) _ (HT.out.below HB4.out)).mono ?_
      rintro e w5 ⟨v5, rfl, hown5, hb5⟩
      have HB5 := Lib.hid (below_thn HB4.out (Nat.le_refl _) hb5)
      have hsz4 := hb5.size
      have HS5 := Lib.hid (HS4.out.below hb5)
      clear hb5
      obtain ⟨hn5, _⟩ := own_shape hown5
      have HO5 := Lib.hid hown5
      have HNW := Lib.hid (newsB HS5.out)
      clear hown5 hn5
      go_wp2_with (at_builtin; refine wpList_append_own _ rfl (.tmp 51) (.tmp 52) 32 rfl w4.heap.size 5 i0 (.int .u8 0) 1 1 Tryd.underlying32 hi hz0 hz1 hz2' rfl (by decide) v5 _ _ rfl HO5.out ⟨vb, vo, none⟩ (high + 1 - low) cap ((byL (rng low high) 256).map (Value.int .u8)) rfl ?c0 HNW.out.2 (oneB _) ?c3 ?c4 hsz4 ?_)
      case c0 => simp; omega
      case c3 => unfold maxLen; omega
      case c4 => omega
      intro v6 w6 hown6 hgrow _
      have HB6 : Hid (Below w.heap.size w w6) := Lib.hid (HB5.out.grown hgrow HB5.out.size (fun k hk => Nat.le_trans HB4.out.size (HO5.out.lt k hk).1))
      rw [← List.map_append] at hown6
      have hlen6 : (byL (notP (rng low high)) 256 ++ byL (rng low high) 256).length = 256 := by rw [List.length_append]; exact hlb
      have HS6 := Lib.hid (slOwnedM hown6 (byt_app hby' hby) (by rw [hlen6]; omega))
      obtain ⟨hn6, a6, cap6, rfl⟩ := own_shape hown6
      have hn6' : (byL (notP (rng low high)) 256).length + (high + 1 - low) = 256 := by rw [hlen] at hlb; exact hlb
      rw [hn6'] at HS6 ⊢
      clear hown6 hgrow hn6
      have c6 := conv_string HS6.out
      have hOf : ∀ w, Hid (Calls Tryd.prog 13 #[.string (ofBys (byL (notP (rng low high)) 256 ++ byL (rng low high) 256))] w fun e w' => e = .returned (SV (mem (byL (notP (rng low high)) 256 ++ byL (rng low high) 256))) ∧ Below w.heap.size w w') := fun w => Lib.hid (by have := of_any (ofBys (byL (notP (rng low high)) 256 ++ byL (rng low high) 256)) w (by rw [ofBys_size, hlen6]; omega); rwa [bys_ofBys (byt_app hby' hby)] at this)
      have hd : ((high : Int) - (low : Int)) + 1 = ((high + 1 - low : Nat) : Int) := by omega
      have hd1 : IntKind.i64.wrap ((high : Int) - (low : Int)) = (high : Int) - (low : Int) := by rw [IntKind.wrap_i64]; omega
      have hd2 : IntKind.i64.wrap (((high : Int) - (low : Int)) + 1) = ((high + 1 - low : Nat) : Int) := by rw [hd, IntKind.wrap_i64]; omega
      clear hlb hbl hbl' hget hby' hlen6
      generalize (byL (notP (rng low high)) 256 ++ byL (rng low high) 256) = L at *
      generalize mem L = ML at *
      go_wp2_with fail
      refine (hOf _).out.mono ?_
      rintro e w7 ⟨rfl, hb7⟩
      have HB7 := Lib.hid (below_thn HB6.out (Nat.le_refl _) hb7)
      clear hb7
      unfold SV
      go_wp2_with fail
      refine (bytes_any ML _ (HT.out.below HB7.out)).mono ?_
      rintro e w8 ⟨v8, rfl, hown8, hb8⟩
      have HB8 := Lib.hid (below_thn HB7.out (Nat.le_refl _) hb8)
      have HS8 := Lib.hid (slOwnedM hown8 (byL_byt ML 256 (Nat.le_refl _)) (by have := byL_len ML 256; omega))
      clear hb8 hown8
      go_wp2_with fail
      refine (HR2 _).out.mono ?_
      rintro e w9 ⟨rfl, hb9⟩
      have HB9 := Lib.hid (below_thn HB8.out (Nat.le_refl _) hb9)
      have HS9 := Lib.hid (HS8.out.below hb9)
      clear hb9
      unfold SV
      go_wp2_with fail
      refine (bytes_any (rng 0 255) _ (HT.out.below HB9.out)).mono ?_
      rintro e w10 ⟨v10, rfl, hown10, hb10⟩
      have HB10 := Lib.hid (below_thn HB9.out (Nat.le_refl _) hb10)
      have HS10 := Lib.hid (HS9.out.below hb10)
      have HSy := Lib.hid (slOwnedM hown10 (byL_byt (rng 0 255) 256 (Nat.le_refl _)) (by have := byL_len (rng 0 255) 256; omega))
      clear hb10 hown10
      go_wp2_with fail
      refine (bytesEq_any v8 v10 _ _ w10 HS10.out HSy.out).mono ?_
      rintro e w11 ⟨rfl, rfl⟩
      rw [hN.out]
      simp only [decide_true]
      go_wp2_with fail
      refine (HA _).out.mono ?_
      rintro e w12 ⟨rfl, hb12⟩
      have HB12 := Lib.hid (below_thn HB10.out (Nat.le_refl _) hb12)
      clear hb12
      go_wp2
      go_ret
      exact ⟨rfl, HB12.out⟩
theorem ranges_any (low high : Nat) (hl : low < 256) (hh : high < 256) (w : World) (hT : TZ w) :
    Calls Tryd.prog 10 #[.int .u8 low, .int .u8 high] w fun e w' => e = .returned (.bool true) ∧ Below w.heap.size w w' := by
  by_cases h : low ≤ high
  · exact ranges_in low high hl hh h w hT
  · exact ranges_over low high hl hh (by omega) w hT
end Go.Proofs.YtllhpahbpeemaaaDoor
