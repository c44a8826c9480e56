import Derived.Test.YtkakhfkkeoceiaaGreatDoorArTok
import Derived.Lib.SlTrimSet
import Derived.LoopTactic
import Derived.Deep.QuietTactic
namespace Go.Proofs.YtkakhfkkeoceiaaGreatDoor
open Go.RowKit
def whS : List UInt8 := [32, 9, 10]
theorem whS_has (c : UInt8) : whS.contains c = whiteB (c.toNat : Int) := by
 rw [Bool.eq_iff_iff]
 simp only [whS, List.contains_cons, List.contains_nil, Bool.or_eq_true, beq_iff_eq, Bool.or_false, whiteB]
 constructor
 ·rintro (rfl | rfl | rfl) <;> decide
 ·intro h
  have h3 : c.toNat = 32 ∨ c.toNat = 9 ∨ c.toNat = 10 := by omega
  rcases h3 with h3 | h3 | h3
  ·exact Or.inl (UInt8.toNat_inj.1 h3)
  ·exact Or.inr (Or.inl (UInt8.toNat_inj.1 h3))
  ·exact Or.inr (Or.inr (UInt8.toNat_inj.1 h3))
theorem trimRight_cons {α : Type} (p : α → Bool) (a : α) (l : List α) : (((a :: l).reverse.dropWhile p).reverse) = if (l.reverse.dropWhile p).isEmpty ∧ p a = true then [] else a :: (l.reverse.dropWhile p).reverse := by
 rw [List.reverse_cons, List.dropWhile_append]
 by_cases h : (l.reverse.dropWhile p).isEmpty = true
 ·rw [if_pos h]
  have h0 : l.reverse.dropWhile p = [] := by simpa using h
  by_cases ha : p a = true
  ·rw [if_pos ⟨h, ha⟩]; simp [ha]
  ·rw [if_neg (fun hh => ha hh.2)]; simp [ha, h0]
 ·rw [if_neg h, if_neg (fun hh => h hh.1)]
  simp
theorem trim_comm {α : Type} (p : α → Bool) : ∀ l : List α, (((l.dropWhile p).reverse.dropWhile p).reverse) = ((l.reverse.dropWhile p).reverse).dropWhile p
 | [] => by simp
 | a :: l => by
  have ih := trim_comm p l
  rw [trimRight_cons]
  by_cases ha : p a = true
  ·rw [List.dropWhile_cons, if_pos ha, ih]
   by_cases h : (l.reverse.dropWhile p).isEmpty = true
   ·rw [if_pos ⟨h, ha⟩]
    have h0 : l.reverse.dropWhile p = [] := by simpa using h
    rw [h0]; simp
   ·rw [if_neg (fun hh => h hh.1), List.dropWhile_cons, if_pos ha]
  ·rw [List.dropWhile_cons, if_neg ha, trimRight_cons, if_neg (fun hh => ha hh.2), List.dropWhile_cons, if_neg ha]
theorem whiteR_any (c : Int) (w : World) : Calls Tryz.prog 87 #[.int .u8 c] w fun e w' => e = .returned (.bool (whiteB c)) ∧ w = w' := by
 have hd : ∃ x, x = whiteB c := ⟨_, rfl⟩
 obtain ⟨x, hx⟩ := hd
 rw [← hx]
 have HX := Lib.hid hx
 clear hx
 go_enter Tryz.func87, Tryz.ntmps87
 go_wp2
 all_goals
  go_ret
  exact ⟨ret_bool (by rw [HX.out]; unfold whiteB; rw [Bool.eq_iff_iff]; simp; try omega), rfl⟩
def lwS (x : ByteArray) : List UInt8 := x.data.toList.dropWhile (whS.contains ·)
def rwS (x : ByteArray) : List UInt8 := x.data.toList.reverse.dropWhile (whS.contains ·)
theorem ext_list (s : ByteArray) (a b : Nat) : (s.extract a b).data.toList = (s.data.toList.drop a).take (b - a) := by
 rw [ByteArray.data_extract, Array.toList_extract]
theorem lw_step {x : ByteArray} (h0 : 0 < x.size) (hw : whiteB (x[0].toNat : Int) = true) : lwS (x.extract 1 x.size) = lwS x := by
 unfold lwS
 rw [ext_list]
 have hl : x.data.toList.length = x.size := by rw [Array.length_toList]; rfl
 have ha : x.data.toList[0]? = some x[0] := by rw [List.getElem?_eq_getElem (by omega)]; rfl
 cases hx : x.data.toList with
 | nil => rw [hx] at hl; simp at hl; omega
 | cons a t =>
  rw [hx] at ha hl
  have ha' : a = x[0] := by simpa using ha
  rw [← whS_has, ← ha'] at hw
  rw [List.drop_succ_cons, List.drop_zero, List.take_of_length_le (by simp at hl; omega), List.dropWhile_cons, if_pos hw]
theorem lw_stop {x : ByteArray} (h0 : 0 < x.size) (hw : whiteB (x[0].toNat : Int) = false) : lwS x = x.data.toList := by
 unfold lwS
 have hl : x.data.toList.length = x.size := by rw [Array.length_toList]; rfl
 have ha : x.data.toList[0]? = some x[0] := by rw [List.getElem?_eq_getElem (by omega)]; rfl
 cases hx : x.data.toList with
 | nil => rfl
 | cons a t =>
  rw [hx] at ha
  have ha' : a = x[0] := by simpa using ha
  rw [← whS_has, ← ha'] at hw
  rw [List.dropWhile_cons, if_neg (by rw [hw]; decide)]
theorem last_of {y : ByteArray} (h0 : 0 < y.size) : ∃ l, y.data.toList = l ++ [y[y.size - 1]'(by omega)] ∧ (y.extract 0 (y.size - 1)).data.toList = l := by
 have hl : y.data.toList.length = y.size := by rw [Array.length_toList]; rfl
 rcases List.eq_nil_or_concat y.data.toList with h | ⟨l, b, h⟩
 ·rw [h] at hl; simp at hl; omega
 ·refine ⟨l, ?_, ?_⟩
  ·have hb : y.data.toList[y.size - 1]? = some (y[y.size - 1]'(by omega)) := by rw [List.getElem?_eq_getElem (by omega)]; rfl
   have hll : l.length = y.size - 1 := by rw [← hl, h]; simp
   have hb2 : (l.concat b)[l.length]? = some b := by simp
   rw [← h, hll, hb] at hb2
   exact h.trans ((List.concat_eq_append ..).trans (congrArg (fun c => l ++ [c]) (Option.some.inj hb2).symm))
  ·rw [ext_list, h]
   have hll : l.length = y.size - 1 := by rw [← hl, h]; simp
   simp [← hll]
theorem rw_step {y : ByteArray} (h0 : 0 < y.size) (hw : whiteB ((y[y.size - 1]'(by omega)).toNat : Int) = true) : rwS (y.extract 0 (y.size - 1)) = rwS y := by
 obtain ⟨l, h1, h2⟩ := last_of h0
 unfold rwS
 rw [h2, h1, List.reverse_append, List.reverse_singleton, List.singleton_append, List.dropWhile_cons, if_pos (by rw [whS_has]; exact hw)]
theorem rw_stop {y : ByteArray} (h0 : 0 < y.size) (hw : whiteB ((y[y.size - 1]'(by omega)).toNat : Int) = false) : rwS y = y.data.toList.reverse := by
 obtain ⟨l, h1, h2⟩ := last_of h0
 unfold rwS
 rw [h1, List.reverse_append, List.reverse_singleton, List.singleton_append, List.dropWhile_cons, if_neg (by rw [whS_has, hw]; decide)]
theorem trim_fin {s x y : ByteArray} (hx : lwS s = x.data.toList) (hy : rwS x = y.data.toList.reverse) : (⟨(Lib.trimS s.data.toList whS).toArray⟩ : ByteArray) = y := by
 have h : Lib.trimS s.data.toList whS = y.data.toList := by
  unfold Lib.trimS Lib.trimLeftS Lib.trimRightS
  rw [← trim_comm, show s.data.toList.dropWhile (whS.contains ·) = x.data.toList from hx, show x.data.toList.reverse.dropWhile (whS.contains ·) = y.data.toList.reverse from hy, List.reverse_reverse]
 rw [h]
def strZ : Value → Nat
 | .string b => b.size
 | _ => 0
set_option maxRecDepth 100000 in
set_option maxHeartbeats 4000000 in
theorem refTrim_any (s : ByteArray) (w : World) (hs : s.size ≤ 9223372036854775807) : Calls Tryz.prog 52 #[.string s] w fun e w' => e = .returned (.string ⟨(Lib.trimS s.data.toList whS).toArray⟩) ∧ w = w' := by
 go_enter Tryz.func52, Tryz.ntmps52
 go_wp2_with fail
 go_loop [0] (fun v => ∃ x : ByteArray, v = .string x ∧ x.size ≤ s.size ∧ Hid (lwS x = lwS s)) strZ
 case atStart => exact ⟨s, rfl, Nat.le_refl _, rfl⟩
 case round =>
  obtain ⟨x, rfl, hz, HX⟩ := hrel
  by_cases hE : x = ⟨#[]⟩
  ·subst hE
   have HL : Hid (lwS s = (⟨#[]⟩ : ByteArray).data.toList) := HX.out.symm
   go_wp2_with fail
   go_loop [0] (fun v => ∃ y : ByteArray, v = .string y ∧ y.size ≤ s.size ∧ Hid (rwS y = rwS ⟨#[]⟩)) strZ
   case atStart => exact ⟨_, rfl, hz, rfl⟩
   case round =>
    obtain ⟨y, rfl, hy, HY⟩ := hrel
    by_cases hE : y = ⟨#[]⟩
    ·subst hE
     have HR : Hid (rwS ⟨#[]⟩ = (⟨#[]⟩ : ByteArray).data.toList.reverse) := HY.out.symm
     go_wp2_with fail
     go_ret
     exact ⟨ret_str (trim_fin HL.out HR.out).symm, rfl⟩
    ·have tn := tl_no (l := []) hE
     have h0 : 0 < y.size := Nat.pos_of_ne_zero fun h => hE (by obtain ⟨a⟩ := y; exact congrArg ByteArray.mk (Array.eq_empty_of_size_eq_zero h))
     have h0' : (0 : Int) < y.size := by omega
     have HW := Lib.hid (whiteR_any ((y[y.size - 1]'(by omega)).toNat : Int) w)
     have HST := Lib.hid (fun h => rw_step (y := y) h0 h)
     have HSP := Lib.hid (fun h => rw_stop (y := y) h0 h)
     cases hw : whiteB ((y[y.size - 1]'(by omega)).toNat : Int)
     ·rw [hw] at HW
      have HR : Hid (rwS ⟨#[]⟩ = y.data.toList.reverse) := HY.out.symm.trans (HSP.out hw)
      clear HSP HST hw
      go_wp2_with fail
      refine HW.out.mono ?_
      rintro e w1 ⟨rfl, rfl⟩
      go_wp2_with fail
      go_ret
      exact ⟨ret_str (trim_fin HL.out HR.out).symm, rfl⟩
     ·rw [hw] at HW
      have HR : Hid (rwS (y.extract 0 (y.size - 1)) = rwS ⟨#[]⟩) := (HST.out hw).trans HY.out
      clear HSP HST hw
      go_wp2_with fail
      refine HW.out.mono ?_
      rintro e w1 ⟨rfl, rfl⟩
      go_wp2_with fail
      have hzz : (y.extract 0 (y.size - 1)).size = y.size - 1 := by rw [ByteArray.size_extract]; omega
      exact ⟨⟨_, rfl, by omega, HR⟩, by show (y.extract 0 (y.size - 1)).size < y.size; omega⟩
  ·have tn := tl_no (l := []) hE
   have h0 : 0 < x.size := Nat.pos_of_ne_zero fun h => hE (by obtain ⟨a⟩ := x; exact congrArg ByteArray.mk (Array.eq_empty_of_size_eq_zero h))
   have h0' : (0 : Int) < x.size := by omega
   have HW := Lib.hid (whiteR_any (x[0].toNat : Int) w)
   have HST := Lib.hid (fun h => lw_step (x := x) h0 h)
   have HSP := Lib.hid (fun h => lw_stop (x := x) h0 h)
   cases hw : whiteB (x[0].toNat : Int)
   ·rw [hw] at HW
    have HL : Hid (lwS s = x.data.toList) := HX.out.symm.trans (HSP.out hw)
    clear HSP HST hw
    go_wp2_with fail
    refine HW.out.mono ?_
    rintro e w1 ⟨rfl, rfl⟩
    go_wp2_with fail
    clear HW tn
    go_loop [0] (fun v => ∃ y : ByteArray, v = .string y ∧ y.size ≤ s.size ∧ Hid (rwS y = rwS x)) strZ
    case atStart => exact ⟨_, rfl, hz, rfl⟩
    case round =>
     obtain ⟨y, rfl, hy, HY⟩ := hrel
     by_cases hE : y = ⟨#[]⟩
     ·subst hE
      have HR : Hid (rwS x = (⟨#[]⟩ : ByteArray).data.toList.reverse) := HY.out.symm
      go_wp2_with fail
      go_ret
      exact ⟨ret_str (trim_fin HL.out HR.out).symm, rfl⟩
     ·have tn := tl_no (l := []) hE
      have h0 : 0 < y.size := Nat.pos_of_ne_zero fun h => hE (by obtain ⟨a⟩ := y; exact congrArg ByteArray.mk (Array.eq_empty_of_size_eq_zero h))
      have h0' : (0 : Int) < y.size := by omega
      have HW := Lib.hid (whiteR_any ((y[y.size - 1]'(by omega)).toNat : Int) w)
      have HST := Lib.hid (fun h => rw_step (y := y) h0 h)
      have HSP := Lib.hid (fun h => rw_stop (y := y) h0 h)
      cases hw : whiteB ((y[y.size - 1]'(by omega)).toNat : Int)
      ·rw [hw] at HW
       have HR : Hid (rwS x = y.data.toList.reverse) := HY.out.symm.trans (HSP.out hw)
       clear HSP HST hw
       go_wp2_with fail
       refine HW.out.mono ?_
       rintro e w1 ⟨rfl, rfl⟩
       go_wp2_with fail
       go_ret
       exact ⟨ret_str (trim_fin HL.out HR.out).symm, rfl⟩
      ·rw [hw] at HW
       have HR : Hid (rwS (y.extract 0 (y.size - 1)) = rwS x) := (HST.out hw).trans HY.out
       clear HSP HST hw
       go_wp2_with fail
       refine HW.out.mono ?_
       rintro e w1 ⟨rfl, rfl⟩
       go_wp2_with fail
       have hzz : (y.extract 0 (y.size - 1)).size = y.size - 1 := by rw [ByteArray.size_extract]; omega
       exact ⟨⟨_, rfl, by omega, HR⟩, by show (y.extract 0 (y.size - 1)).size < y.size; omega⟩
   ·rw [hw] at HW
    have HL : Hid (lwS (x.extract 1 x.size) = lwS s) := (HST.out hw).trans HX.out
    clear HSP HST hw
    go_wp2_with fail
    refine HW.out.mono ?_
    rintro e w1 ⟨rfl, rfl⟩
    go_wp2_with fail
    have hzz : (x.extract 1 x.size).size = x.size - 1 := by rw [ByteArray.size_extract]; omega
    exact ⟨⟨_, rfl, by omega, HL⟩, by show (x.extract 1 x.size).size < x.size; omega⟩
end Go.Proofs.YtkakhfkkeoceiaaGreatDoor
