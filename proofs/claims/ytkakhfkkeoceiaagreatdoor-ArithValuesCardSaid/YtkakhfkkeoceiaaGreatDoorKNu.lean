import Derived.Test.YtkakhfkkeoceiaaGreatDoorAcTr
import Derived.Test.YtkakhfkkeoceiaaGreatDoorAcAw
import Derived.Shelf.Strings.SlTrimAscii
import Derived.Test.YtkakhfkkeoceiaaGreatDoorArTokAt
import Derived.Test.YtkakhfkkeoceiaaGreatDoorAcDr
namespace Go.Proofs.YtkakhfkkeoceiaaGreatDoor
set_option maxHeartbeats 8000000
set_option maxRecDepth 100000
open Go.RowKit
def minS : ByteArray := ⟨#[45, 57, 50, 50, 51, 51, 55, 50, 48, 51, 54, 56, 53, 52, 55, 55, 53, 56, 48, 56]⟩
theorem minS_itoa : (⟨(Lib.itoa (-9223372036854775808)).toArray⟩ : ByteArray) = ⟨#[45, 57, 50, 50, 51, 51, 55, 50, 48, 51, 54, 56, 53, 52, 55, 55, 53, 56, 48, 56]⟩ := by kernel_rfl
def unsN (T : ByteArray) : Bool := Lib.hasPrefix T.data.toList [45]
def unsS (T : ByteArray) : ByteArray := if unsN T = true then ⟨(Lib.trimPrefix T.data.toList [45]).toArray⟩ else ⟨(Lib.trimPrefix T.data.toList [43]).toArray⟩
def numR (neg : Bool) (l : List Int) : Int × Nat :=
 if cN l = 0 ∨ cN l < l.length then (0, 13) else if cO l = true then (0, 6) else (if neg = true then wrap64 (-(cV l)) else cV l, 0)
def numT (T : ByteArray) : Int × Nat := if T = minS then (-9223372036854775808, 0) else numR (unsN T) (bys (unsS T))
def numOf (s : ByteArray) : Int × Nat := if s = ⟨#[]⟩ then (0, 0) else numT ⟨(Lib.trimS s.data.toList whS).toArray⟩
theorem trimS_size (s : ByteArray) : (⟨(Lib.trimS s.data.toList whS).toArray⟩ : ByteArray).size ≤ s.size := by
 show (Lib.trimS s.data.toList whS).toArray.size ≤ s.data.size
 have h1 : (Lib.trimS s.data.toList whS).length ≤ s.data.toList.length := by
  unfold Lib.trimS Lib.trimLeftS Lib.trimRightS
  refine Nat.le_trans (List.dropWhile_sublist _).length_le ?_
  rw [List.length_reverse]
  refine Nat.le_trans (List.dropWhile_sublist _).length_le ?_
  rw [List.length_reverse]
  exact Nat.le_refl _
 simpa using h1
theorem trimPrefix_size (T : ByteArray) (p : List UInt8) : (⟨(Lib.trimPrefix T.data.toList p).toArray⟩ : ByteArray).size ≤ T.size := by
 show (Lib.trimPrefix T.data.toList p).toArray.size ≤ T.data.size
 unfold Lib.trimPrefix
 split <;> simp
theorem trimA_any (s : ByteArray) (w : World) (hs : s.size ≤ 9223372036854775807) : Calls Tryz.prog 183 #[.string s, .string ⟨#[32, 9, 10]⟩] w fun e w' => e = .returned (.string ⟨(Lib.trimS s.data.toList whS).toArray⟩) ∧ Below w.heap.size w w' :=
 Any.strings_Trim_laid Tryz.lays160 (by kernel_rfl) s ⟨#[32, 9, 10]⟩ w hs (by decide) (ascii_of_all (by decide))
theorem numberOf_any (s : ByteArray) (w : World) (hs : s.size ≤ 9223372036854775807) (hT : TP w) : Calls Tryz.prog 166 #[.string s] w fun e w' => e = .returned (.tuple #[.int .i64 (numOf s).1, .int .i64 ((numOf s).2 : Nat)]) ∧ Below w.heap.size w w' := by
 by_cases hE : s = ⟨#[]⟩
 ·subst hE
  exact (numberOf_none w).mono (by rintro e w' ⟨rfl, rfl⟩; exact ⟨rfl, Below.refl _ _⟩)
 have tn := tl_no (l := []) hE
 have HN0 : Hid (numOf s = numT ⟨(Lib.trimS s.data.toList whS).toArray⟩) := if_neg hE
 have HTR := Lib.hid (trimA_any s w hs)
 have hTz := trimS_size s
 have HTX : Hid (∀ X, Below w.heap.size w X → Calls Tryz.prog 100 #[.int .i64 (-9223372036854775808)] X fun e w' => e = .returned (.string ⟨#[45, 57, 50, 50, 51, 51, 55, 50, 48, 51, 54, 56, 53, 52, 55, 55, 53, 56, 48, 56]⟩) ∧ Below X.heap.size X w') := Lib.hid (fun X hX => by
  have h := scText_any (-9223372036854775808) X (by omega) (by omega) (hT.below hX)
  rw [minS_itoa] at h
  exact h)
 generalize (⟨(Lib.trimS s.data.toList whS).toArray⟩ : ByteArray) = T at *
 generalize numOf s = r at *
 clear hT hE
 by_cases hm : T = minS
 ·have HR : Hid (r = (-9223372036854775808, 0)) := HN0.out.trans (if_pos hm)
  obtain rfl : T = ⟨#[45, 57, 50, 50, 51, 51, 55, 50, 48, 51, 54, 56, 53, 52, 55, 55, 53, 56, 48, 56]⟩ := hm
  clear HN0
  go_enter Tryz.func166, Tryz.ntmps166
  go_wp2_with fail
  refine HTR.out.mono ?_
  rintro e w1 ⟨rfl, hb1⟩
  have HB1 := Lib.hid hb1
  clear hb1
  go_wp2_with fail
  refine (HTX.out w1 HB1.out).mono ?_
  rintro e w2 ⟨rfl, hb2⟩
  have HB2 := Lib.hid (HB1.out.trans (hb2.mono HB1.out.size))
  clear hb2
  go_wp2_with fail
  go_ret2
  exact ⟨by rw [HR.out]; rfl, HB2.out⟩
 have tm : (T.toList == [45, 57, 50, 50, 51, 51, 55, 50, 48, 51, 54, 56, 53, 52, 55, 55, 53, 56, 48, 56]) = false := tl_no (l := [45, 57, 50, 50, 51, 51, 55, 50, 48, 51, 54, 56, 53, 52, 55, 55, 53, 56, 48, 56]) hm
 have HR0 : Hid (r = numR (unsN T) (bys (unsS T))) := HN0.out.trans (if_neg hm)
 have HCP : Hid (∀ X, Calls Tryz.prog 184 #[.string T, .string ⟨#[45]⟩] X fun e w' => e = .returned (.tuple #[.string ⟨(Lib.trimPrefix T.data.toList [45]).toArray⟩, .bool (unsN T)]) ∧ w' = X) := Lib.hid (fun X => Tryz.strings_CutPrefix T ⟨#[45]⟩ X)
 have HTP : Hid (∀ X, Calls Tryz.prog 185 #[.string T, .string ⟨#[43]⟩] X fun e w' => e = .returned (.string ⟨(Lib.trimPrefix T.data.toList [43]).toArray⟩) ∧ w' = X) := Lib.hid (fun X => Tryz.strings_TrimPrefix T ⟨#[43]⟩ X)
 clear HN0 hm
 cases hn : unsN T
 ·have HR : Hid (r = numR false (bys ⟨(Lib.trimPrefix T.data.toList [43]).toArray⟩)) := HR0.out.trans (by unfold unsS; rw [hn]; rfl)
  have hUz := trimPrefix_size T [43]
  rw [hn] at HCP
  clear HR0 hn
  generalize (⟨(Lib.trimPrefix T.data.toList [43]).toArray⟩ : ByteArray) = U at *
  go_enter Tryz.func166, Tryz.ntmps166
  go_wp2_with fail
  refine HTR.out.mono ?_
  rintro e w1 ⟨rfl, hb1⟩
  have HB1 := Lib.hid hb1
  clear hb1
  go_wp2_with fail
  refine (HTX.out w1 HB1.out).mono ?_
  rintro e w2 ⟨rfl, hb2⟩
  have HB2 := Lib.hid (HB1.out.trans (hb2.mono HB1.out.size))
  clear hb2
  obtain ⟨cap, W1, hconv, hrow, hbel⟩ := conv_sl w2 U (by omega)
  have HC := Lib.hid (const_any _ (bys U) W1 hrow)
  have HB3 := Lib.hid (HB2.out.trans (hbel.mono HB2.out.size))
  have HR1 : r = (if cN (bys U) = 0 ∨ cN (bys U) < U.size then ((0 : Int), 13) else if cO (bys U) = true then (0, 6) else (cV (bys U), 0)) := HR.out.trans (by unfold numR; rw [bys_length]; rfl)
  clear HR hrow hbel
  generalize cN (bys U) = n at HR1 HC
  generalize cV (bys U) = x at HR1 HC
  generalize cO (bys U) = o at HR1 HC
  rcases Nat.eq_zero_or_pos n with rfl | h0
  ·have HR2 : Hid (r = (0, 13)) := HR1.trans (if_pos (Or.inl rfl))
   clear HR1
   go_wp2_with fail
   refine (HCP.out _).mono ?_
   rintro e w3 ⟨rfl, rfl⟩
   go_wp2_with fail
   refine (HTP.out _).mono ?_
   rintro e w4 ⟨rfl, rfl⟩
   go_wp2_with fail
   refine HC.out.mono ?_
   rintro e w5 ⟨rfl, rfl⟩
   go_wp2_with fail
   go_ret2
   exact ⟨by rw [HR2.out]; rfl, HB3.out⟩
  ·have h0' : ¬ (n : Int) = 0 := by omega
   rcases Nat.lt_or_ge n U.size with h1 | h1
   ·have HR2 : Hid (r = (0, 13)) := HR1.trans (if_pos (Or.inr h1))
    have h1' : (n : Int) < U.size := by omega
    clear HR1
    go_wp2_with fail
    refine (HCP.out _).mono ?_
    rintro e w3 ⟨rfl, rfl⟩
    go_wp2_with fail
    refine (HTP.out _).mono ?_
    rintro e w4 ⟨rfl, rfl⟩
    go_wp2_with fail
    refine HC.out.mono ?_
    rintro e w5 ⟨rfl, rfl⟩
    go_wp2_with fail
    go_ret2
    exact ⟨by rw [HR2.out]; rfl, HB3.out⟩
   ·have h1' : ¬ (n : Int) < U.size := by omega
    have hif : ¬ (n = 0 ∨ n < U.size) := by omega
    cases o
    ·have HR2 : Hid (r = (x, 0)) := HR1.trans ((if_neg hif).trans (if_neg (by decide)))
     clear HR1 hif
     go_wp2_with fail
     refine (HCP.out _).mono ?_
     rintro e w3 ⟨rfl, rfl⟩
     go_wp2_with fail
     refine (HTP.out _).mono ?_
     rintro e w4 ⟨rfl, rfl⟩
     go_wp2_with fail
     refine HC.out.mono ?_
     rintro e w5 ⟨rfl, rfl⟩
     go_wp2_with fail
     go_ret2
     exact ⟨by rw [HR2.out]; rfl, HB3.out⟩
    ·have HR2 : Hid (r = (0, 6)) := HR1.trans ((if_neg hif).trans (if_pos rfl))
     clear HR1 hif
     go_wp2_with fail
     refine (HCP.out _).mono ?_
     rintro e w3 ⟨rfl, rfl⟩
     go_wp2_with fail
     refine (HTP.out _).mono ?_
     rintro e w4 ⟨rfl, rfl⟩
     go_wp2_with fail
     refine HC.out.mono ?_
     rintro e w5 ⟨rfl, rfl⟩
     go_wp2_with fail
     go_ret2
     exact ⟨by rw [HR2.out]; rfl, HB3.out⟩
 ·have HR : Hid (r = numR true (bys ⟨(Lib.trimPrefix T.data.toList [45]).toArray⟩)) := HR0.out.trans (by unfold unsS; rw [hn]; rfl)
  have hUz := trimPrefix_size T [45]
  rw [hn] at HCP
  clear HR0 hn
  generalize (⟨(Lib.trimPrefix T.data.toList [45]).toArray⟩ : ByteArray) = U at *
  go_enter Tryz.func166, Tryz.ntmps166
  go_wp2_with fail
  refine HTR.out.mono ?_
  rintro e w1 ⟨rfl, hb1⟩
  have HB1 := Lib.hid hb1
  clear hb1
  go_wp2_with fail
  refine (HTX.out w1 HB1.out).mono ?_
  rintro e w2 ⟨rfl, hb2⟩
  have HB2 := Lib.hid (HB1.out.trans (hb2.mono HB1.out.size))
  clear hb2
  obtain ⟨cap, W1, hconv, hrow, hbel⟩ := conv_sl w2 U (by omega)
  have HC := Lib.hid (const_any _ (bys U) W1 hrow)
  have HB3 := Lib.hid (HB2.out.trans (hbel.mono HB2.out.size))
  have HR1 : r = (if cN (bys U) = 0 ∨ cN (bys U) < U.size then ((0 : Int), 13) else if cO (bys U) = true then (0, 6) else (wrap64 (-(cV (bys U))), 0)) := HR.out.trans (by unfold numR; rw [bys_length]; rfl)
  clear HR hrow hbel
  generalize cN (bys U) = n at HR1 HC
  generalize cV (bys U) = x at HR1 HC
  generalize cO (bys U) = o at HR1 HC
  rcases Nat.eq_zero_or_pos n with rfl | h0
  ·have HR2 : Hid (r = (0, 13)) := HR1.trans (if_pos (Or.inl rfl))
   clear HR1
   go_wp2_with fail
   refine (HCP.out _).mono ?_
   rintro e w3 ⟨rfl, rfl⟩
   go_wp2_with fail
   refine HC.out.mono ?_
   rintro e w5 ⟨rfl, rfl⟩
   go_wp2_with fail
   go_ret2
   exact ⟨by rw [HR2.out]; rfl, HB3.out⟩
  ·have h0' : ¬ (n : Int) = 0 := by omega
   rcases Nat.lt_or_ge n U.size with h1 | h1
   ·have HR2 : Hid (r = (0, 13)) := HR1.trans (if_pos (Or.inr h1))
    have h1' : (n : Int) < U.size := by omega
    clear HR1
    go_wp2_with fail
    refine (HCP.out _).mono ?_
    rintro e w3 ⟨rfl, rfl⟩
    go_wp2_with fail
    refine HC.out.mono ?_
    rintro e w5 ⟨rfl, rfl⟩
    go_wp2_with fail
    go_ret2
    exact ⟨by rw [HR2.out]; rfl, HB3.out⟩
   ·have h1' : ¬ (n : Int) < U.size := by omega
    have hif : ¬ (n = 0 ∨ n < U.size) := by omega
    cases o
    ·have HR2 : Hid (r = (wrap64 (-x), 0)) := HR1.trans ((if_neg hif).trans (if_neg (by decide)))
     clear HR1 hif
     go_wp2_with fail
     refine (HCP.out _).mono ?_
     rintro e w3 ⟨rfl, rfl⟩
     go_wp2_with fail
     refine HC.out.mono ?_
     rintro e w5 ⟨rfl, rfl⟩
     go_wp2_with fail
     go_ret2
     exact ⟨by rw [HR2.out]; rfl, HB3.out⟩
    ·have HR2 : Hid (r = (0, 6)) := HR1.trans ((if_neg hif).trans (if_pos rfl))
     clear HR1 hif
     go_wp2_with fail
     refine (HCP.out _).mono ?_
     rintro e w3 ⟨rfl, rfl⟩
     go_wp2_with fail
     refine HC.out.mono ?_
     rintro e w5 ⟨rfl, rfl⟩
     go_wp2_with fail
     go_ret2
     exact ⟨by rw [HR2.out]; rfl, HB3.out⟩
theorem pre_no {T : ByteArray} (c : UInt8) (h : ∀ h0 : 0 < T.size, ¬ (T[0].toNat : Int) = (c.toNat : Int)) : Lib.hasPrefix T.data.toList [c] = false ∧ (⟨(Lib.trimPrefix T.data.toList [c]).toArray⟩ : ByteArray) = T := by
 have hp : Lib.hasPrefix T.data.toList [c] = false := by
  unfold Lib.hasPrefix
  have hl : T.data.toList.length = T.size := by rw [Array.length_toList]; rfl
  cases hT : T.data.toList with
  | nil => rfl
  | cons a t =>
   have h0 : 0 < T.size := by rw [← hl, hT]; simp
   have ha : T.data.toList[0]? = some T[0] := by rw [List.getElem?_eq_getElem (by omega)]; rfl
   rw [hT] at ha
   have ha' : a = T[0] := by simpa using ha
   simp only [List.isPrefixOf_cons_cons, List.isPrefixOf_nil_left, Bool.and_true]
   rw [Bool.eq_false_iff]
   intro he
   have : c = a := by simpa using he
   exact h h0 (by rw [← ha', ← this])
 refine ⟨hp, ?_⟩
 unfold Lib.trimPrefix
 rw [hp]
 rfl
theorem pre_yes {T : ByteArray} (c : UInt8) (h0 : 0 < T.size) (h : (T[0].toNat : Int) = (c.toNat : Int)) : Lib.hasPrefix T.data.toList [c] = true ∧ (⟨(Lib.trimPrefix T.data.toList [c]).toArray⟩ : ByteArray) = T.extract 1 T.size := by
 have hl : T.data.toList.length = T.size := by rw [Array.length_toList]; rfl
 have ha : T.data.toList[0]? = some T[0] := by rw [List.getElem?_eq_getElem (by omega)]; rfl
 have hc : T[0] = c := UInt8.toNat_inj.1 (by omega)
 cases hT : T.data.toList with
 | nil => rw [hT] at hl; simp at hl; omega
 | cons a t =>
  rw [hT] at ha hl
  have ha' : a = c := by rw [← hc]; simpa using ha
  have hp : Lib.hasPrefix (a :: t) [c] = true := by rw [ha']; simp [Lib.hasPrefix]
  refine ⟨hp, ?_⟩
  have he : (T.extract 1 T.size).data.toList = t := by
   rw [ext_list, hT, List.drop_succ_cons, List.drop_zero, List.take_of_length_le (by simp at hl; omega)]
  unfold Lib.trimPrefix
  rw [hp, ← he]
  rfl
theorem refNumber_any (s : ByteArray) (w : World) (hs : s.size ≤ 9223372036854775807) : Calls Tryz.prog 27 #[.string s] w fun e w' => e = .returned (.tuple #[.int .i64 (numOf s).1, .int .i64 ((numOf s).2 : Nat)]) ∧ Below w.heap.size w w' := by
 by_cases hE : s = ⟨#[]⟩
 ·subst hE
  have HR : Hid (numOf ⟨#[]⟩ = (0, 0)) := rfl
  generalize numOf ⟨#[]⟩ = r at *
  go_enter Tryz.func27, Tryz.ntmps27
  go_wp2_with fail
  go_ret2
  exact ⟨by rw [HR.out]; rfl, Below.refl _ _⟩
 have tn := tl_no (l := []) hE
 have HN0 : Hid (numOf s = numT ⟨(Lib.trimS s.data.toList whS).toArray⟩) := if_neg hE
 have HTR := Lib.hid (refTrim_any s w hs)
 have hTz := trimS_size s
 generalize (⟨(Lib.trimS s.data.toList whS).toArray⟩ : ByteArray) = T at *
 generalize numOf s = r at *
 clear hE
 by_cases hm : T = minS
 ·have HR : Hid (r = (-9223372036854775808, 0)) := HN0.out.trans (if_pos hm)
  obtain rfl : T = ⟨#[45, 57, 50, 50, 51, 51, 55, 50, 48, 51, 54, 56, 53, 52, 55, 55, 53, 56, 48, 56]⟩ := hm
  clear HN0
  go_enter Tryz.func27, Tryz.ntmps27
  go_wp2_with fail
  refine HTR.out.mono ?_
  rintro e w1 ⟨rfl, rfl⟩
  go_wp2_with fail
  go_ret2
  exact ⟨by rw [HR.out]; rfl, Below.refl _ _⟩
 have tm : (T.toList == [45, 57, 50, 50, 51, 51, 55, 50, 48, 51, 54, 56, 53, 52, 55, 55, 53, 56, 48, 56]) = false := tl_no (l := [45, 57, 50, 50, 51, 51, 55, 50, 48, 51, 54, 56, 53, 52, 55, 55, 53, 56, 48, 56]) hm
 have HR0 : Hid (r = numR (unsN T) (bys (unsS T))) := HN0.out.trans (if_neg hm)
 clear HN0 hm
 by_cases hE : T = ⟨#[]⟩
 ·subst hE
  have HR : Hid (r = numR false (bys ⟨#[]⟩)) := HR0.out
  clear HR0
  obtain ⟨cap, W1, hconv, hrow, hbel⟩ := conv_sl w (⟨#[]⟩ : ByteArray) (by omega)
  have HC := Lib.hid (refConst_any _ (bys (⟨#[]⟩ : ByteArray)) W1 hrow)
  have HB3 := Lib.hid hbel
  have hle := cN_le (bys (⟨#[]⟩ : ByteArray))
  rw [bys_length] at hle
  have HR1 : r = (if cN (bys (⟨#[]⟩ : ByteArray)) = 0 ∨ cN (bys (⟨#[]⟩ : ByteArray)) < ((⟨#[]⟩ : ByteArray)).size then ((0 : Int), 13) else if cO (bys (⟨#[]⟩ : ByteArray)) = true then (0, 6) else (cV (bys (⟨#[]⟩ : ByteArray)), 0)) := HR.out.trans (by unfold numR; rw [bys_length]; rfl)
  clear HR hrow hbel
  generalize cN (bys (⟨#[]⟩ : ByteArray)) = n at HR1 HC hle
  generalize cV (bys (⟨#[]⟩ : ByteArray)) = x at HR1 HC
  generalize cO (bys (⟨#[]⟩ : ByteArray)) = o at HR1 HC
  rcases Nat.eq_zero_or_pos n with rfl | h0
  ·have HR2 : Hid (r = (0, 13)) := HR1.trans (if_pos (Or.inl rfl))
   clear HR1
   go_enter Tryz.func27, Tryz.ntmps27
   go_wp2_with fail
   refine HTR.out.mono ?_
   rintro e w1 ⟨rfl, rfl⟩
   go_upto_region 9 with fail
   go_wp2_with fail
   refine HC.out.mono ?_
   rintro e w5 ⟨rfl, rfl⟩
   go_wp2_with fail
   go_ret2
   exact ⟨by rw [HR2.out]; rfl, HB3.out⟩
  ·exact absurd hle (by show ¬ n ≤ 0; omega)
 have tn2 := tl_no (l := []) hE
 have h00 : 0 < T.size := Nat.pos_of_ne_zero fun h => hE (by obtain ⟨a⟩ := T; exact congrArg ByteArray.mk (Array.eq_empty_of_size_eq_zero h))
 have h00' : (0 : Int) < T.size := by omega
 have hUz : (T.extract 1 T.size).size = T.size - 1 := by rw [ByteArray.size_extract]; omega
 by_cases h45 : (T[0].toNat : Int) = 45
 ·have hp := pre_yes 45 h00 h45
  have HR : Hid (r = numR true (bys (T.extract 1 T.size))) := HR0.out.trans (by unfold unsS unsN; rw [hp.1, if_pos rfl, hp.2])
  have hz4 : ((T[0].toNat : Int) == 45) = true := by simpa using h45
  clear HR0 hp
  obtain ⟨cap, W1, hconv, hrow, hbel⟩ := conv_sl w (T.extract 1 T.size) (by omega)
  have HC := Lib.hid (refConst_any _ (bys (T.extract 1 T.size)) W1 hrow)
  have HB3 := Lib.hid hbel
  have hle := cN_le (bys (T.extract 1 T.size))
  rw [bys_length] at hle
  have HR1 : r = (if cN (bys (T.extract 1 T.size)) = 0 ∨ cN (bys (T.extract 1 T.size)) < ((T.extract 1 T.size)).size then ((0 : Int), 13) else if cO (bys (T.extract 1 T.size)) = true then (0, 6) else (wrap64 (-(cV (bys (T.extract 1 T.size)))), 0)) := HR.out.trans (by unfold numR; rw [bys_length]; rfl)
  clear HR hrow hbel
  generalize cN (bys (T.extract 1 T.size)) = n at HR1 HC hle
  generalize cV (bys (T.extract 1 T.size)) = x at HR1 HC
  generalize cO (bys (T.extract 1 T.size)) = o at HR1 HC
  rcases Nat.eq_zero_or_pos n with rfl | h0
  ·have HR2 : Hid (r = (0, 13)) := HR1.trans (if_pos (Or.inl rfl))
   clear HR1
   go_enter Tryz.func27, Tryz.ntmps27
   go_wp2_with fail
   refine HTR.out.mono ?_
   rintro e w1 ⟨rfl, rfl⟩
   go_upto_region 9 with fail
   clear hz4 hUz
   generalize T.extract 1 T.size = U at *
   go_wp2_with fail
   refine HC.out.mono ?_
   rintro e w5 ⟨rfl, rfl⟩
   go_wp2_with fail
   go_ret2
   exact ⟨by rw [HR2.out]; rfl, HB3.out⟩
  ·have h0' : ¬ (n : Int) = 0 := by omega
   rcases Nat.lt_or_ge n ((T.extract 1 T.size)).size with h1 | h1
   ·have HR2 : Hid (r = (0, 13)) := HR1.trans (if_pos (Or.inr h1))
    have h1' : ¬ (n : Int) = ((T.extract 1 T.size)).size := by omega
    clear HR1
    go_enter Tryz.func27, Tryz.ntmps27
    go_wp2_with fail
    refine HTR.out.mono ?_
    rintro e w1 ⟨rfl, rfl⟩
    go_upto_region 9 with fail
    clear hz4 hUz
    generalize T.extract 1 T.size = U at *
    go_wp2_with fail
    refine HC.out.mono ?_
    rintro e w5 ⟨rfl, rfl⟩
    go_wp2_with fail
    go_ret2
    exact ⟨by rw [HR2.out]; rfl, HB3.out⟩
   ·have h1' : (n : Int) = ((T.extract 1 T.size)).size := by omega
    have h2' : ¬ (((T.extract 1 T.size)).size : Int) = 0 := by omega
    have hif : ¬ (n = 0 ∨ n < ((T.extract 1 T.size)).size) := by omega
    cases o
    ·have HR2 : Hid (r = (wrap64 (-x), 0)) := HR1.trans ((if_neg hif).trans (if_neg (by decide)))
     clear HR1 hif
     go_enter Tryz.func27, Tryz.ntmps27
     go_wp2_with fail
     refine HTR.out.mono ?_
     rintro e w1 ⟨rfl, rfl⟩
     go_upto_region 9 with fail
     clear hz4 hUz
     generalize T.extract 1 T.size = U at *
     go_wp2_with fail
     refine HC.out.mono ?_
     rintro e w5 ⟨rfl, rfl⟩
     go_wp2_with fail
     go_ret2
     exact ⟨by rw [HR2.out]; rfl, HB3.out⟩
    ·have HR2 : Hid (r = (0, 6)) := HR1.trans ((if_neg hif).trans (if_pos rfl))
     clear HR1 hif
     go_enter Tryz.func27, Tryz.ntmps27
     go_wp2_with fail
     refine HTR.out.mono ?_
     rintro e w1 ⟨rfl, rfl⟩
     go_upto_region 9 with fail
     clear hz4 hUz
     generalize T.extract 1 T.size = U at *
     go_wp2_with fail
     refine HC.out.mono ?_
     rintro e w5 ⟨rfl, rfl⟩
     go_wp2_with fail
     go_ret2
     exact ⟨by rw [HR2.out]; rfl, HB3.out⟩
 have hz4 : ((T[0].toNat : Int) == 45) = false := by simpa using h45
 have hq := pre_no (T := T) 45 (fun _ => h45)
 by_cases h43 : (T[0].toNat : Int) = 43
 ·have hp := pre_yes 43 h00 h43
  have HR : Hid (r = numR false (bys (T.extract 1 T.size))) := HR0.out.trans (by unfold unsS unsN; rw [hq.1, if_neg (by decide), hp.2])
  have hz5 : ((T[0].toNat : Int) == 43) = true := by simpa using h43
  clear HR0 hp hq
  obtain ⟨cap, W1, hconv, hrow, hbel⟩ := conv_sl w (T.extract 1 T.size) (by omega)
  have HC := Lib.hid (refConst_any _ (bys (T.extract 1 T.size)) W1 hrow)
  have HB3 := Lib.hid hbel
  have hle := cN_le (bys (T.extract 1 T.size))
  rw [bys_length] at hle
  have HR1 : r = (if cN (bys (T.extract 1 T.size)) = 0 ∨ cN (bys (T.extract 1 T.size)) < ((T.extract 1 T.size)).size then ((0 : Int), 13) else if cO (bys (T.extract 1 T.size)) = true then (0, 6) else (cV (bys (T.extract 1 T.size)), 0)) := HR.out.trans (by unfold numR; rw [bys_length]; rfl)
  clear HR hrow hbel
  generalize cN (bys (T.extract 1 T.size)) = n at HR1 HC hle
  generalize cV (bys (T.extract 1 T.size)) = x at HR1 HC
  generalize cO (bys (T.extract 1 T.size)) = o at HR1 HC
  rcases Nat.eq_zero_or_pos n with rfl | h0
  ·have HR2 : Hid (r = (0, 13)) := HR1.trans (if_pos (Or.inl rfl))
   clear HR1
   go_enter Tryz.func27, Tryz.ntmps27
   go_wp2_with fail
   refine HTR.out.mono ?_
   rintro e w1 ⟨rfl, rfl⟩
   go_upto_region 9 with fail
   clear hz4 hUz
   generalize T.extract 1 T.size = U at *
   go_wp2_with fail
   refine HC.out.mono ?_
   rintro e w5 ⟨rfl, rfl⟩
   go_wp2_with fail
   go_ret2
   exact ⟨by rw [HR2.out]; rfl, HB3.out⟩
  ·have h0' : ¬ (n : Int) = 0 := by omega
   rcases Nat.lt_or_ge n ((T.extract 1 T.size)).size with h1 | h1
   ·have HR2 : Hid (r = (0, 13)) := HR1.trans (if_pos (Or.inr h1))
    have h1' : ¬ (n : Int) = ((T.extract 1 T.size)).size := by omega
    clear HR1
    go_enter Tryz.func27, Tryz.ntmps27
    go_wp2_with fail
    refine HTR.out.mono ?_
    rintro e w1 ⟨rfl, rfl⟩
    go_upto_region 9 with fail
    clear hz4 hUz
    generalize T.extract 1 T.size = U at *
    go_wp2_with fail
    refine HC.out.mono ?_
    rintro e w5 ⟨rfl, rfl⟩
    go_wp2_with fail
    go_ret2
    exact ⟨by rw [HR2.out]; rfl, HB3.out⟩
   ·have h1' : (n : Int) = ((T.extract 1 T.size)).size := by omega
    have h2' : ¬ (((T.extract 1 T.size)).size : Int) = 0 := by omega
    have hif : ¬ (n = 0 ∨ n < ((T.extract 1 T.size)).size) := by omega
    cases o
    ·have HR2 : Hid (r = (x, 0)) := HR1.trans ((if_neg hif).trans (if_neg (by decide)))
     clear HR1 hif
     go_enter Tryz.func27, Tryz.ntmps27
     go_wp2_with fail
     refine HTR.out.mono ?_
     rintro e w1 ⟨rfl, rfl⟩
     go_upto_region 9 with fail
     clear hz4 hUz
     generalize T.extract 1 T.size = U at *
     go_wp2_with fail
     refine HC.out.mono ?_
     rintro e w5 ⟨rfl, rfl⟩
     go_wp2_with fail
     go_ret2
     exact ⟨by rw [HR2.out]; rfl, HB3.out⟩
    ·have HR2 : Hid (r = (0, 6)) := HR1.trans ((if_neg hif).trans (if_pos rfl))
     clear HR1 hif
     go_enter Tryz.func27, Tryz.ntmps27
     go_wp2_with fail
     refine HTR.out.mono ?_
     rintro e w1 ⟨rfl, rfl⟩
     go_upto_region 9 with fail
     clear hz4 hUz
     generalize T.extract 1 T.size = U at *
     go_wp2_with fail
     refine HC.out.mono ?_
     rintro e w5 ⟨rfl, rfl⟩
     go_wp2_with fail
     go_ret2
     exact ⟨by rw [HR2.out]; rfl, HB3.out⟩
 ·have hp := pre_no (T := T) 43 (fun _ => h43)
  have HR : Hid (r = numR false (bys T)) := HR0.out.trans (by unfold unsS unsN; rw [hq.1, if_neg (by decide), hp.2])
  have hz5 : ((T[0].toNat : Int) == 43) = false := by simpa using h43
  clear HR0 hp hq
  obtain ⟨cap, W1, hconv, hrow, hbel⟩ := conv_sl w T (by omega)
  have HC := Lib.hid (refConst_any _ (bys T) W1 hrow)
  have HB3 := Lib.hid hbel
  have hle := cN_le (bys T)
  rw [bys_length] at hle
  have HR1 : r = (if cN (bys T) = 0 ∨ cN (bys T) < (T).size then ((0 : Int), 13) else if cO (bys T) = true then (0, 6) else (cV (bys T), 0)) := HR.out.trans (by unfold numR; rw [bys_length]; rfl)
  clear HR hrow hbel
  generalize cN (bys T) = n at HR1 HC hle
  generalize cV (bys T) = x at HR1 HC
  generalize cO (bys T) = o at HR1 HC
  rcases Nat.eq_zero_or_pos n with rfl | h0
  ·have HR2 : Hid (r = (0, 13)) := HR1.trans (if_pos (Or.inl rfl))
   clear HR1
   go_enter Tryz.func27, Tryz.ntmps27
   go_wp2_with fail
   refine HTR.out.mono ?_
   rintro e w1 ⟨rfl, rfl⟩
   go_upto_region 9 with fail
   go_wp2_with fail
   refine HC.out.mono ?_
   rintro e w5 ⟨rfl, rfl⟩
   go_wp2_with fail
   go_ret2
   exact ⟨by rw [HR2.out]; rfl, HB3.out⟩
  ·have h0' : ¬ (n : Int) = 0 := by omega
   rcases Nat.lt_or_ge n (T).size with h1 | h1
   ·have HR2 : Hid (r = (0, 13)) := HR1.trans (if_pos (Or.inr h1))
    have h1' : ¬ (n : Int) = (T).size := by omega
    clear HR1
    go_enter Tryz.func27, Tryz.ntmps27
    go_wp2_with fail
    refine HTR.out.mono ?_
    rintro e w1 ⟨rfl, rfl⟩
    go_upto_region 9 with fail
    go_wp2_with fail
    refine HC.out.mono ?_
    rintro e w5 ⟨rfl, rfl⟩
    go_wp2_with fail
    go_ret2
    exact ⟨by rw [HR2.out]; rfl, HB3.out⟩
   ·have h1' : (n : Int) = (T).size := by omega
    have h2' : ¬ ((T).size : Int) = 0 := by omega
    have hif : ¬ (n = 0 ∨ n < (T).size) := by omega
    cases o
    ·have HR2 : Hid (r = (x, 0)) := HR1.trans ((if_neg hif).trans (if_neg (by decide)))
     clear HR1 hif
     go_enter Tryz.func27, Tryz.ntmps27
     go_wp2_with fail
     refine HTR.out.mono ?_
     rintro e w1 ⟨rfl, rfl⟩
     go_upto_region 9 with fail
     go_wp2_with fail
     refine HC.out.mono ?_
     rintro e w5 ⟨rfl, rfl⟩
     go_wp2_with fail
     go_ret2
     exact ⟨by rw [HR2.out]; rfl, HB3.out⟩
    ·have HR2 : Hid (r = (0, 6)) := HR1.trans ((if_neg hif).trans (if_pos rfl))
     clear HR1 hif
     go_enter Tryz.func27, Tryz.ntmps27
     go_wp2_with fail
     refine HTR.out.mono ?_
     rintro e w1 ⟨rfl, rfl⟩
     go_upto_region 9 with fail
     go_wp2_with fail
     refine HC.out.mono ?_
     rintro e w5 ⟨rfl, rfl⟩
     go_wp2_with fail
     go_ret2
     exact ⟨by rw [HR2.out]; rfl, HB3.out⟩
end Go.Proofs.YtkakhfkkeoceiaaGreatDoor
