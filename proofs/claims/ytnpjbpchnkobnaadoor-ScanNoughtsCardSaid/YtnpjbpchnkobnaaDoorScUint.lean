/- The contract of strconv.FormatUint at the bases 2 to 16. -/
import Derived.Test.YtnpjbpchnkobnaaDoorScPow
import Derived.Lib.ItoaMem
import Derived.Lib.AppendIntMem
import Derived.Lib.ItoaNum
import Derived.Lib.SmallJoins
namespace Go.Proofs.YtnpjbpchnkobnaaDoor
open Go.RowKit Go.Sort

theorem dec_digs (u : Nat) : (Lib.decDigits u).map (fun c => (c.toNat : Int)) = digs 10 u := by
  induction u using Nat.strongRecOn with
  | _ u ih =>
    by_cases h : u < 10
    · rw [Lib.decDigits_one h, digs_small _ _ h]
      have e : dch u = 48 + u := by unfold dch; rw [if_pos h]
      simp [e]
      omega
    · rw [Lib.decDigits, dif_neg h, digs_step 10 u (by omega) (by omega), List.map_append, ih (u / 10) (by omega)]
      have hm : u % 10 < 10 := Nat.mod_lt _ (by omega)
      have e : dch (u % 10) = 48 + (u % 10 : Nat) := by unfold dch; rw [if_pos hm]
      rw [e]
      simp
      omega
theorem bys_dec (u : Nat) : bys ⟨(Lib.decDigits u).toArray⟩ = digs 10 u := by
  rw [← dec_digs]
  unfold bys
  simp

def TP (w : World) : Prop := Lib.TabIs Tryd.prog w "internal/strconv.uint64pow10" .u64 Lib.pow10Tab

set_option maxRecDepth 100000 in
set_option maxHeartbeats 4000000 in
theorem uint10_small (n : Nat) (w : World) (hn : n < 100) :
    Calls Tryd.prog 23 #[.int .u64 n, .int .i64 10] w fun e w' => ∃ t, e = .returned (.string t) ∧ bys t = digs 10 n ∧ Below w.heap.size w w' := by
  have HS := Lib.hid (Tryd.internal_strconv_small n hn w)
  have hnI : (n : Int) < 100 := by omega
  have HB := Lib.hid (bys_dec n)
  go_enter Tryd.func23, Tryd.ntmps23
  go_wp2_with (go_at_call 32; refine HS.out.mono ?_; rintro e w' ⟨rfl, rfl⟩)
  go_ret
  exact ⟨_, rfl, HB.out, Below.refl _ _⟩

theorem arrLen24 : Tryd.prog.arrayLen 60 = 24 := by kernel_rfl
theorem zero24 (w : World) : (zeroValue 60).run Tryd.prog w = .ok (.agg Lib.zeros24) w := by kernel_rfl
theorem slice24 (A k : Nat) (hk : k ≤ 24) (W : World) : (Instr.sliceAt 60 (.pointer (some ⟨A, 0, none⟩)) none (some (.int .i64 (k : Int))) none).run Tryd.prog W = .ok (.slice (some ⟨A, 0, none⟩) k 24) W := by
  have hsz : (sizeOf (Tryd.prog.elem 60)).run Tryd.prog W = .ok 1 W := by kernel_rfl
  rw [run_sliceAt_array_h W 60 ⟨A, 0, none⟩ (by kernel_rfl) .i64 (k : Int) (by omega) (by rw [arrLen24]; omega), hsz, arrLen24]
  show Result.ok (slicedAt ⟨A, 0, none⟩ 0 (k : Int).toNat 24 1) W = _
  unfold slicedAt
  rw [Int.toNat_natCast, if_neg (by omega), Nat.zero_mul, WideShapes.add_plain]
  rfl

set_option maxRecDepth 100000 in
set_option maxHeartbeats 4000000 in
theorem uint10_big (u : Nat) (w : World) (hu : 100 ≤ u) (hu64 : u < 18446744073709551616) (htab : TP w) :
    Calls Tryd.prog 23 #[.int .u64 u, .int .i64 10] w fun e w' => ∃ t, e = .returned (.string t) ∧ bys t = digs 10 u ∧ Below w.heap.size w w' := by
  have hu1 : 1 ≤ u := by omega
  have hnd20 : Lib.nDigits u ≤ 20 := by have := Lib.numDigits_eq u hu1 hu64; split at this <;> omega
  have hz := zero24
  have hsl := fun W => slice24 w.heap.size (Lib.nDigits u) (by omega) W
  have hH0 := Lib.holds_zero0 w 60 (Lib.nDigits u) (by omega)
  have hfmt := Tryd.internal_strconv_formatBase10 w.heap.size 0 24 u (Array.replicate (Lib.nDigits u) 0) (w.alloc (.cells Lib.zeros24 60)) hH0 (by rw [Array.size_replicate]; exact Lib.lt_pow_nDigits u) hu64 (by rw [Array.size_replicate]; omega)
  rw [Array.size_replicate] at hfmt
  have HH0 := Lib.hid hH0
  have HF := Lib.hid hfmt
  have HT := Lib.hid (Lib.tabIs_alloc htab (.cells Lib.zeros24 60))
  have HB := Lib.hid (bys_dec u)
  have iu : (100 : Int) ≤ (u : Int) := by omega
  have hudec : decide ((u : Int) < 100) = false := by simp; omega
  clear hH0 hfmt htab
  go_enter Tryd.func23, Tryd.ntmps23
  go_wp2_with (go_at_call 33; refine (Tryd.internal_strconv_numDigits u hu1 hu64 _ HT.out).mono ?_; rintro e w' ⟨rfl, rfl⟩)
  refine HF.out.mono ?_
  rintro e w' ⟨rfl, k, v', dk, rfl, hF⟩
  have hconv : (convert 31 9 (.slice (some ⟨w.heap.size, 0, none⟩) (Lib.nDigits u) 24)).run Tryd.prog ((putRow (fun (b : UInt8) => Value.int .u8 (b.toNat : Int)) (w.alloc (.cells Lib.zeros24 60)) w.heap.size 0 dk).drewN k) = .ok (.string ⟨(Lib.decDigits u).toArray⟩) ((putRow (fun (b : UInt8) => Value.int .u8 (b.toNat : Int)) (w.alloc (.cells Lib.zeros24 60)) w.heap.size 0 dk).drewN k) := by
    have h1 := run_convert_bytes_back (P := Tryd.prog) ((putRow (fun (b : UInt8) => Value.int .u8 (b.toNat : Int)) (w.alloc (.cells Lib.zeros24 60)) w.heap.size 0 dk).drewN k) 31 9 5 ⟨w.heap.size, 0, none⟩ 24 (Lib.decDigits u) Tryd.underlying31 Tryd.underlying5 Tryd.underlying9 (fun j hj => by
      rw [Lib.row_is_numeral hF j hj, Lib.add_plain, World.cell?_drewN]
      exact cell?_putRow (fun (b : UInt8) => Value.int .u8 (b.toNat : Int)) _ w.heap.size 0 _ dk HH0.out (by rw [hF.size, Array.size_replicate]) j (by rw [hF.size]; rw [Lib.decDigits_length] at hj; exact hj))
    rw [Lib.decDigits_length] at h1
    exact h1
  obtain ⟨os, eo⟩ := Lib.fin_at w (.cells Lib.zeros24 60) dk k 0
  have HBB : Hid (Below w.heap.size w ((putRow (fun (b : UInt8) => Value.int .u8 (b.toNat : Int)) (w.alloc (.cells Lib.zeros24 60)) w.heap.size 0 dk).drewN k)) := Lib.hid (by rw [eo]; exact Lib.below_grow w.heap.size w (Nat.le_refl _) k os)
  generalize (putRow (fun (b : UInt8) => Value.int .u8 (b.toNat : Int)) (w.alloc (.cells Lib.zeros24 60)) w.heap.size 0 dk).drewN k = W2 at hconv HBB ⊢
  clear eo HH0 HF
  go_wp2
  go_ret
  exact ⟨_, rfl, HB.out, HBB.out⟩

/-- The tables that the texts of numbers read. -/
def TB (w : World) : Prop := TP w ∧ DB w
theorem TB.below {w w' : World} (h : TB w) (hb : Below w.heap.size w w') : TB w' :=
  ⟨Go.Joins.tab_stays (g := 0) (by kernel_rfl) h.1 hb (Nat.le_refl _), h.2.below hb⟩

set_option maxRecDepth 100000 in
theorem bits_any (n b : Nat) (w : World) (hb : 2 ≤ b) (hb2 : b ≤ 16) (hb10 : b ≠ 10) (hn : n < 18446744073709551616) (h : TB w) :
    Calls Tryd.prog 35 #[.slice none 0 0, .int .u64 n, .int .i64 b, .bool false, .bool false] w fun e w' => ∃ t, e = .returned (.tuple #[.slice none 0 0, .string t]) ∧ bys t = digs b n ∧ Below w.heap.size w w' := by
  by_cases hp : powB b = false
  · exact formatBits_odd n b w hb hb2 hb10 hp hn
  · have : b = 2 ∨ b = 4 ∨ b = 8 ∨ b = 16 := by
      unfold powB at hp
      simp at hp
      omega
    rcases this with rfl | rfl | rfl | rfl
    · exact formatBits_2 n w h.2 hn
    · exact formatBits_4 n w h.2 hn
    · exact formatBits_8 n w h.2 hn
    · exact formatBits_16 n w h.2 hn

set_option maxRecDepth 100000 in
set_option maxHeartbeats 4000000 in
theorem uint_other (n b : Nat) (w : World) (hb : 2 ≤ b) (hb2 : b ≤ 16) (hb10 : b ≠ 10) (hn : n < 18446744073709551616) (h : TB w) :
    Calls Tryd.prog 23 #[.int .u64 n, .int .i64 b] w fun e w' => ∃ t, e = .returned (.string t) ∧ bys t = digs b n ∧ Below w.heap.size w w' := by
  have HS := Lib.hid (bits_any n b w hb hb2 hb10 hn h)
  have hb10' : ((b : Int) == 10) = false := by simp; omega
  clear h
  go_enter Tryd.func23, Tryd.ntmps23
  go_wp2_with fail
  refine HS.out.mono ?_
  rintro e w' ⟨t, rfl, ht, hbel⟩
  have HT := Lib.hid ht
  have HB := Lib.hid hbel
  clear ht hbel
  go_wp2
  go_ret
  exact ⟨_, rfl, HT.out, HB.out⟩

theorem uint_any (n b : Nat) (w : World) (hb : 2 ≤ b) (hb2 : b ≤ 16) (hn : n < 18446744073709551616) (h : TB w) :
    Calls Tryd.prog 16 #[.int .u64 n, .int .i64 b] w fun e w' => ∃ t, e = .returned (.string t) ∧ bys t = digs b n ∧ Below w.heap.size w w' := by
  have HS : Hid (Calls Tryd.prog 23 #[.int .u64 n, .int .i64 b] w fun e w' => ∃ t, e = .returned (.string t) ∧ bys t = digs b n ∧ Below w.heap.size w w') := by
    by_cases hb10 : b = 10
    · subst hb10
      by_cases h100 : n < 100
      · exact uint10_small n w h100
      · exact uint10_big n w (by omega) hn h.1
    · exact uint_other n b w hb hb2 hb10 hn h
  clear h
  go_enter Tryd.func16, Tryd.ntmps16
  go_wp2_with fail
  refine HS.out.mono ?_
  rintro e w' ⟨t, rfl, ht, hbel⟩
  have HT := Lib.hid ht
  have HB := Lib.hid hbel
  clear ht hbel
  go_wp2
  go_ret
  exact ⟨_, rfl, HT.out, HB.out⟩

/-- The bytes of digits in capitals. -/
def upB (c : Int) : Int := if 97 ≤ c ∧ c ≤ 122 then c - 32 else c
theorem toUpper_bys (t : ByteArray) : bys ⟨(Lib.toUpperA t.data.toList).toArray⟩ = (bys t).map upB := by
  unfold bys Lib.toUpperA
  simp only [List.map_map]
  apply List.map_congr_left
  intro c _
  have hc := c.toNat_lt
  have h97 : (97 ≤ c) = (97 ≤ c.toNat) := by rw [UInt8.le_iff_toNat_le]; rfl
  have h122 : (c ≤ 122) = (c.toNat ≤ 122) := by rw [UInt8.le_iff_toNat_le]; rfl
  show ((Lib.upperB c).toNat : Int) = upB (c.toNat : Int)
  unfold upB Lib.upperB
  by_cases h : 97 ≤ c.toNat ∧ c.toNat ≤ 122
  · have hb : Lib.isLowerB c = true := by unfold Lib.isLowerB; simp [h97, h122, h]
    rw [if_pos hb, if_pos (by omega), UInt8.toNat_sub_of_le _ _ (by rw [UInt8.le_iff_toNat_le]; show 32 ≤ _; omega)]
    show ((c.toNat - 32 : Nat) : Int) = _
    omega
  · have hb : ¬ Lib.isLowerB c = true := by unfold Lib.isLowerB; simp [h97, h122]; omega
    rw [if_neg hb, if_neg (by omega)]

theorem ascii_of_digs (t : ByteArray) (b n : Nat) (hb : 2 ≤ b) (hb2 : b ≤ 16) (ht : bys t = digs b n) : ∀ (j : Nat) (c : UInt8), t.data.toList[j]? = some c → c.toNat < 128 := by
  intro j c hj
  have h1 : (c.toNat : Int) ∈ bys t := by
    unfold bys
    exact List.mem_map.2 ⟨c, List.mem_of_getElem? hj, rfl⟩
  rw [ht] at h1
  have := (digs_val b hb hb2 n).2 _ h1
  omega

/-- What Base tells. -/
def baseB (b n : Nat) (up : Bool) : List Int := if 2 ≤ b ∧ b ≤ 16 then (if up then (digs b n).map upB else digs b n) else []

set_option maxRecDepth 100000 in
set_option maxHeartbeats 4000000 in
theorem base_low (n b : Nat) (w : World) (hb : 2 ≤ b) (hb2 : b ≤ 16) (hn : n < 18446744073709551616) (h : TB w) :
    Calls Tryd.prog 8 #[.int .u64 n, .int .i64 b, .bool false] w fun e w' => ∃ t, e = .returned (.string t) ∧ bys t = digs b n ∧ Below w.heap.size w w' := by
  have HS := Lib.hid (uint_any n b w hb hb2 hn h)
  have hd : decide ((2 : Int) ≤ b ∧ (b : Int) ≤ 16) = true := by simp; omega
  have HI : Hid (∀ w, Calls Tryd.prog 15 #[.int .i64 b] w fun e w' => e = .returned (.bool true) ∧ w = w') := fun w => by have := isBase_any b w; rw [hd] at this; exact this
  clear hd h
  go_enter Tryd.func8, Tryd.ntmps8
  go_wp2_with fail
  refine (HI.out _).mono ?_
  rintro e w' ⟨rfl, rfl⟩
  go_wp2_with fail
  refine HS.out.mono ?_
  rintro e w' ⟨t, rfl, ht, hbel⟩
  have HT := Lib.hid ht
  have HB := Lib.hid hbel
  clear ht hbel
  go_wp2
  go_ret
  exact ⟨_, rfl, HT.out, HB.out⟩

set_option maxRecDepth 100000 in
set_option maxHeartbeats 4000000 in
theorem base_up (n b : Nat) (w : World) (hb : 2 ≤ b) (hb2 : b ≤ 16) (hn : n < 18446744073709551616) (h : TB w) :
    Calls Tryd.prog 8 #[.int .u64 n, .int .i64 b, .bool true] w fun e w' => ∃ t, e = .returned (.string t) ∧ bys t = (digs b n).map upB ∧ Below w.heap.size w w' := by
  have HS := Lib.hid (uint_any n b w hb hb2 hn h)
  have hd : decide ((2 : Int) ≤ b ∧ (b : Int) ≤ 16) = true := by simp; omega
  have HI : Hid (∀ w, Calls Tryd.prog 15 #[.int .i64 b] w fun e w' => e = .returned (.bool true) ∧ w = w') := fun w => by have := isBase_any b w; rw [hd] at this; exact this
  have HL := Lib.hid (digs_len b hb 64 n (by omega) (Nat.lt_of_lt_of_le hn (Nat.le_trans (by decide) (Nat.pow_le_pow_left hb 64))))
  clear hd h
  go_enter Tryd.func8, Tryd.ntmps8
  go_wp2_with fail
  refine (HI.out _).mono ?_
  rintro e w' ⟨rfl, rfl⟩
  go_wp2_with fail
  refine HS.out.mono ?_
  rintro e w1 ⟨t, rfl, ht, hbel⟩
  have HT := Lib.hid ht
  have HB := Lib.hid hbel
  have HU := Lib.hid (Tryd.strings_ToUpper_ascii t w1 (by have := HL.out; rw [← ht, bys_length] at this; omega) (ascii_of_digs t b n hb hb2 ht))
  clear ht hbel
  go_wp2_with fail
  refine HU.out.mono ?_
  rintro e w2 ⟨rfl, hb2'⟩
  have HB2 : Hid (Below w.heap.size w w2) := HB.out.trans (hb2'.mono HB.out.size)
  clear hb2'
  go_wp2
  go_ret
  exact ⟨_, rfl, by rw [toUpper_bys, HT.out], HB2.out⟩
end Go.Proofs.YtnpjbpchnkobnaaDoor
