/- The walk of the statement on what is written and read again. -/
import Derived.Test.YtnpjbpchnkobnaaDoorScUint
import Derived.Test.YtnpjbpchnkobnaaDoorScWhole
import Derived.Test.YtnpjbpchnkobnaaDoorScAwake
import Derived.Test.YtnpjbpchnkobnaaDoorScOpen
namespace Go.Proofs.YtnpjbpchnkobnaaDoor
open Go.RowKit Go.Sort

/-- The bytes of a number's decimal text. -/
def textB (n : Int) : List Int := if n < 0 then 45 :: digs 10 n.natAbs else digs 10 n.toNat
theorem bys_itoa (n : Int) : bys ⟨(Lib.itoa n).toArray⟩ = textB n := by
  unfold Lib.itoa textB
  by_cases h : n < 0
  · rw [if_pos h, if_pos h, ← dec_digs]
    unfold bys
    simp
  · rw [if_neg h, if_neg h, ← dec_digs]
    unfold bys
    simp

theorem digs_head (b n : Nat) (hb : 2 ≤ b) (hb2 : b ≤ 16) : 48 ≤ (digs b n).getD 0 0 := by
  have h1 := digs_pos b n
  rw [List.getD, List.getElem?_eq_getElem (by omega)]
  simp only [Option.getD_some]
  exact ((digs_val b hb hb2 n).2 _ (List.getElem_mem _)).2.1

theorem whole_text (n : Int) (h0 : -9223372036854775808 ≤ n) (h1 : n ≤ 9223372036854775807) : wOk (textB n) = true ∧ wV (textB n) = n := by
  unfold textB
  by_cases h : n < 0
  · rw [if_pos h]
    have hg : (45 :: digs 10 n.natAbs : List Int).getD 0 0 = 45 := rfl
    have hd : wD (45 :: digs 10 n.natAbs) = digs 10 n.natAbs := by unfold wD; rw [if_pos hg]; rfl
    have hm : wM (45 :: digs 10 n.natAbs) = 9223372036854775808 := by unfold wM; rw [if_pos hg]
    obtain ⟨r1, r2⟩ := digs_read 10 (by omega) (by omega) n.natAbs
    have r1' : rN 10 (digs 10 n.natAbs) = (digs 10 n.natAbs).length := r1
    have r2' : valK 10 (digs 10 n.natAbs) (digs 10 n.natAbs).length = n.natAbs := r2
    have hp := digs_pos 10 n.natAbs
    have hok : wOk (45 :: digs 10 n.natAbs) = true := by
      unfold wOk
      rw [hd, hm, r2']
      simp only [decide_eq_true_eq]
      exact ⟨by omega, r1', by omega⟩
    refine ⟨hok, ?_⟩
    unfold wV
    rw [if_pos hok, if_pos hg, hd, r2']
    omega
  · rw [if_neg h]
    have hh := digs_head 10 n.toNat (by omega) (by omega)
    have hg : ¬ (digs 10 n.toNat).getD 0 0 = 45 := by omega
    have hd : wD (digs 10 n.toNat) = digs 10 n.toNat := by unfold wD; rw [if_neg hg]
    have hm : wM (digs 10 n.toNat) = 9223372036854775807 := by unfold wM; rw [if_neg hg]
    obtain ⟨r1, r2⟩ := digs_read 10 (by omega) (by omega) n.toNat
    have r1' : rN 10 (digs 10 n.toNat) = (digs 10 n.toNat).length := r1
    have r2' : valK 10 (digs 10 n.toNat) (digs 10 n.toNat).length = n.toNat := r2
    have hp := digs_pos 10 n.toNat
    have hok : wOk (digs 10 n.toNat) = true := by
      unfold wOk
      rw [hd, hm, r2']
      simp only [decide_eq_true_eq]
      exact ⟨by omega, r1', by omega⟩
    refine ⟨hok, ?_⟩
    unfold wV
    rw [if_pos hok, if_neg hg, hd, r2']
    omega

set_option maxRecDepth 100000 in
set_option maxHeartbeats 4000000 in
theorem text_any (n : Int) (w : World) (h0 : -9223372036854775808 ≤ n) (h1 : n ≤ 9223372036854775807) (h : TB w) :
    Calls Tryd.prog 6 #[.int .i64 n] w fun e w' => ∃ t, e = .returned (.string t) ∧ bys t = textB n ∧ Below w.heap.size w w' := by
  have HF := Lib.hid (Tryd.strconv_FormatInt_10 n h0 h1 w h.1)
  have HT := Lib.hid (bys_itoa n)
  clear h
  go_enter Tryd.func6, Tryd.ntmps6
  go_wp2_with fail
  refine HF.out.mono ?_
  rintro e w1 ⟨rfl, k, os, hw⟩
  have HB : Hid (Below w.heap.size w w1) := Lib.hid (by rw [hw]; exact Lib.below_grow w.heap.size w (Nat.le_refl _) k os)
  clear hw
  go_wp2
  go_ret
  exact ⟨_, rfl, HT.out, HB.out⟩

theorem textB_len (n : Int) (h0 : -9223372036854775808 ≤ n) (h1 : n ≤ 9223372036854775807) : (textB n).length ≤ 65 := by
  unfold textB
  split
  · have := digs_len 10 (by omega) 64 n.natAbs (by omega) (Nat.lt_of_lt_of_le (show n.natAbs < 18446744073709551616 by omega) (Nat.le_trans (by decide) (Nat.pow_le_pow_left (show 2 ≤ 10 by decide) 64)))
    simp
    omega
  · have := digs_len 10 (by omega) 64 n.toNat (by omega) (Nat.lt_of_lt_of_le (show n.toNat < 18446744073709551616 by omega) (Nat.le_trans (by decide) (Nat.pow_le_pow_left (show 2 ≤ 10 by decide) 64)))
    omega

theorem val_up (b : Int) : ∀ (l : List Int) (v : Int), (∀ c ∈ l, dgt (upB c) = dgt c) → (l.map upB).foldl (fun v c => v * b + dgt c) v = l.foldl (fun v c => v * b + dgt c) v
  | [], _, _ => rfl
  | c :: l, v, h => by
    simp only [List.map_cons, List.foldl_cons]
    rw [h c (by simp)]
    exact val_up b l _ (fun x hx => h x (by simp [hx]))
theorem dgt_up (b n : Nat) (hb : 2 ≤ b) (hb2 : b ≤ 16) : ∀ c ∈ digs b n, dgt (upB c) = dgt c := by
  intro c hc
  obtain ⟨_, h2, h3⟩ := (digs_val b hb hb2 n).2 c hc
  by_cases h97 : 97 ≤ c
  · have e : upB c = c - 32 := by unfold upB; rw [if_pos (by omega)]
    rw [e]
    unfold dgt
    rw [if_neg (by omega), if_neg (by omega), if_pos (by omega), if_neg (by omega), if_pos (by omega)]
    omega
  · have e : upB c = c := by unfold upB; rw [if_neg (by omega)]
    rw [e]
/-- The digits, in small or great letters. -/
def baseL (b n : Nat) (up : Bool) : List Int := if up then (digs b n).map upB else digs b n
theorem baseL_len (b n : Nat) (up : Bool) : (baseL b n up).length = (digs b n).length := by unfold baseL; split <;> simp
theorem baseL_read (b n : Nat) (up : Bool) (hb : 2 ≤ b) (hb2 : b ≤ 16) : rN b (baseL b n up) = (digs b n).length ∧ valK b (baseL b n up) (digs b n).length = n := by
  cases up with
  | false => exact digs_read b hb hb2 n
  | true =>
    have hl : ((digs b n).map upB).length = (digs b n).length := by simp
    show rN b ((digs b n).map upB) = _ ∧ valK b ((digs b n).map upB) _ = _
    refine ⟨?_, ?_⟩
    · rw [← hl]
      refine pre_all _ _ fun c hc => ?_
      obtain ⟨x, hx, rfl⟩ := List.mem_map.1 hc
      unfold dig?
      rw [dgt_up b n hb hb2 x hx]
      simpa using ((digs_val b hb hb2 n).2 x hx).1
    · unfold valK val
      rw [List.take_of_length_le (by omega), val_up _ _ _ (dgt_up b n hb hb2)]
      exact (digs_val b hb hb2 n).1
theorem baseL_dig (b n : Nat) (up : Bool) (hb : 2 ≤ b) (hb2 : b ≤ 16) : gN b (baseL b n up) = (digs b n).length ∧ gV b (baseL b n up) = cut 9223372036854775807 n ∧ gO b (baseL b n up) = ovr 9223372036854775807 n := by
  obtain ⟨h1, h2⟩ := baseL_read b n up hb hb2
  unfold gN gV gO rV rO
  rw [if_pos (by omega), if_pos (by omega), if_pos (by omega), h1, h2]
  exact ⟨rfl, rfl, rfl⟩

theorem base_any (n b : Nat) (up : Bool) (w : World) (hb : 2 ≤ b) (hb2 : b ≤ 16) (hn : n < 18446744073709551616) (h : TB w) :
    Calls Tryd.prog 8 #[.int .u64 n, .int .i64 b, .bool up] w fun e w' => ∃ t, e = .returned (.string t) ∧ bys t = baseL b n up ∧ Below w.heap.size w w' := by
  cases up with
  | false => exact base_low n b w hb hb2 hn h
  | true => exact base_up n b w hb hb2 hn h

set_option maxHeartbeats 4000000 in
theorem base_no (n : Int) (b : Int) (up : Bool) (w : World) (h : ¬ (2 ≤ b ∧ b ≤ 16)) :
    Calls Tryd.prog 8 #[.int .u64 n, .int .i64 b, .bool up] w fun e w' => e = .returned (.string ⟨#[]⟩) ∧ w = w' := by
  have hd : decide (2 ≤ b ∧ b ≤ 16) = false := by simpa using h
  have HI : Hid (∀ w, Calls Tryd.prog 15 #[.int .i64 b] w fun e w' => e = .returned (.bool false) ∧ w = w') := fun w => by have := isBase_any b w; rw [hd] at this; exact this
  clear hd h
  go_enter Tryd.func8, Tryd.ntmps8
  go_wp2_with fail
  refine (HI.out _).mono ?_
  rintro e w' ⟨rfl, rfl⟩
  go_wp2
  go_ret
  exact ⟨rfl, rfl⟩

set_option maxRecDepth 100000 in
set_option maxHeartbeats 4000000 in
theorem lawBack_any (n b : Int) (up : Bool) (w : World) (h0 : -9223372036854775808 ≤ n) (h1 : n ≤ 9223372036854775807) (h : TB w) :
    Calls Tryd.prog 4 #[.int .i64 n, .int .i64 b, .bool up] w fun e w' => e = .returned (.bool true) ∧ Below w.heap.size w w' := by
  have HT := Lib.hid (text_any n w h0 h1 h)
  have HTB := Lib.hid h
  clear h
  go_enter Tryd.func4, Tryd.ntmps4
  go_wp2_with fail
  refine HT.out.mono ?_
  rintro e w1 ⟨t, rfl, ht, hb1⟩
  have HB1 := Lib.hid hb1
  have hsz : t.size ≤ 9223372036854775807 := by rw [← bys_length, ht]; have := textB_len n h0 h1; omega
  have hwh := whole_any t w1 hsz
  rw [ht, (whole_text n h0 h1).1, (whole_text n h0 h1).2] at hwh
  have HW := Lib.hid hwh
  clear ht hb1 hwh hsz
  go_wp2_with fail
  refine HW.out.mono ?_
  rintro e w' ⟨rfl, rfl⟩
  go_wp2_with fail
  refine (awake_any _).mono ?_
  rintro e w2 ⟨rfl, hb2⟩
  have HB2 : Hid (Below w.heap.size w w2) := HB1.out.trans (hb2.mono HB1.out.size)
  have HTB2 := Lib.hid (HTB.out.below HB2.out)
  clear hb2
  by_cases hb : 2 ≤ b ∧ b ≤ 16
  · obtain ⟨hbl, hbh⟩ := hb
    obtain ⟨bn, rfl⟩ : ∃ bn : Nat, b = bn := ⟨b.toNat, by omega⟩
    obtain ⟨q, hq, hqn, hneg⟩ : ∃ q : Nat, IntKind.u64.wrap n = (q : Int) ∧ q < 18446744073709551616 ∧ ((n < 0 ∧ 9223372036854775807 < (q : Int)) ∨ (0 ≤ n ∧ (q : Int) = n)) := by
      by_cases hn : n < 0
      · refine ⟨(n + 18446744073709551616).toNat, ?_, by omega, Or.inl ⟨hn, by omega⟩⟩
        unfold IntKind.wrap
        simp [IntKind.signed, IntKind.bits]
        omega
      · refine ⟨n.toNat, ?_, by omega, Or.inr ⟨by omega, by omega⟩⟩
        unfold IntKind.wrap
        simp [IntKind.signed, IntKind.bits]
        omega
    have HBA := Lib.hid (base_any q bn up w2 (by omega) (by omega) hqn HTB2.out)
    have HLN := Lib.hid (digs_len bn (by omega) 64 q (by omega) (Nat.lt_of_lt_of_le hqn (Nat.le_trans (by decide) (Nat.pow_le_pow_left (show 2 ≤ bn by omega) 64))))
    have HDG := Lib.hid (baseL_dig bn q up (by omega) (by omega))
    have HBL := Lib.hid (baseL_len bn q up)
    rcases hneg with ⟨hn, hq1⟩ | ⟨hn, hq1⟩
    · have HOV : Hid (ovr 9223372036854775807 q = true) := Lib.hid (by unfold ovr; simpa using hq1)
      have HCV : Hid (cut 9223372036854775807 q = 9223372036854775807) := Lib.hid (by unfold cut; rw [if_neg (by omega)])
      go_wp2_with fail
      refine HBA.out.mono ?_
      rintro e w3 ⟨t2, rfl, ht2, hb3⟩
      have HB3 : Hid (Below w.heap.size w w3) := HB2.out.trans (hb3.mono HB2.out.size)
      have hsz : t2.size = (digs bn q).length := by rw [← bys_length, ht2, HBL.out]
      obtain ⟨cap, w4, hconv, hsl, hb4⟩ := conv_sl w3 t2 (by have := HLN.out; omega)
      rw [ht2] at hsl
      have hdd := digits_any _ _ bn w4 hsl
      rw [HDG.out.1, HDG.out.2.1, HDG.out.2.2, HOV.out, HCV.out] at hdd
      have HDD := Lib.hid hdd
      have HSZ := Lib.hid hsz
      have HB4 : Hid (Below w.heap.size w w4) := HB3.out.trans (hb4.mono HB3.out.size)
      have hszI : ((digs bn q).length : Int) = t2.size := by omega
      clear ht2 hb3 hsl hb4 hdd hsz
      generalize (digs bn q).length = dl at *
      go_wp2_with fail
      refine HDD.out.mono ?_
      rintro e w5 ⟨rfl, rfl⟩
      go_wp2
      all_goals first | (exfalso; omega) | (go_ret; exact ⟨rfl, HB4.out⟩)
    · have HOV : Hid (ovr 9223372036854775807 q = false) := Lib.hid (by unfold ovr; simp; omega)
      have HCV : Hid (cut 9223372036854775807 q = n) := Lib.hid (by unfold cut; rw [if_pos (by omega)]; exact hq1)
      have HQ1 := Lib.hid hq1
      clear hq1
      go_wp2_with fail
      refine HBA.out.mono ?_
      rintro e w3 ⟨t2, rfl, ht2, hb3⟩
      have HB3 : Hid (Below w.heap.size w w3) := HB2.out.trans (hb3.mono HB2.out.size)
      have hsz : t2.size = (digs bn q).length := by rw [← bys_length, ht2, HBL.out]
      obtain ⟨cap, w4, hconv, hsl, hb4⟩ := conv_sl w3 t2 (by have := HLN.out; omega)
      rw [ht2] at hsl
      have hdd := digits_any _ _ bn w4 hsl
      rw [HDG.out.1, HDG.out.2.1, HDG.out.2.2, HOV.out, HCV.out] at hdd
      have HDD := Lib.hid hdd
      have HSZ := Lib.hid hsz
      have HB4 : Hid (Below w.heap.size w w4) := HB3.out.trans (hb4.mono HB3.out.size)
      have hszI : ((digs bn q).length : Int) = t2.size := by omega
      clear ht2 hb3 hsl hb4 hdd hsz
      generalize (digs bn q).length = dl at *
      go_wp2_with fail
      refine HDD.out.mono ?_
      rintro e w5 ⟨rfl, rfl⟩
      go_wp2
      all_goals first | (exfalso; have := HQ1.out; omega) | (go_ret; exact ⟨rfl, HB4.out⟩)
  · rcases (by omega : b < 2 ∨ (2 ≤ b ∧ 16 < b)) with hb' | ⟨hb', hb''⟩
    all_goals
      go_wp2_with fail
      refine (base_no _ b up w2 hb).mono ?_
      rintro e w3 ⟨rfl, rfl⟩
      go_wp2
      go_ret
      exact ⟨rfl, HB2.out⟩
end Go.Proofs.YtnpjbpchnkobnaaDoor
