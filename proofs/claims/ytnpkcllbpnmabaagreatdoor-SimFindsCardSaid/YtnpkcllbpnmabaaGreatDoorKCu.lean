import Derived.Test.YtnpkcllbpnmabaaGreatDoorScDigits
import Derived.Lib.SlBytesConst
import Derived.Deep.RegionWith
import Derived.Deep.RegionHeld3
import Derived.Below
import Derived.ChangeSlices
import Derived.ProofKit
import Derived.Deep.Slices
import Derived.SizedLaws
import Derived.Test.YtnpkcllbpnmabaaGreatDoorScConv
import Derived.LoopTactic
import Derived.ChangeMaps5
import Derived.Deep.QuietTactic
import Derived.BigQuiet
import Derived.Laws.BytesArg
namespace Go.Proofs.YtnpkcllbpnmabaaGreatDoor
open Go.RowKit
def wD (l : List Int) : List Int := if l.getD 0 0 = 45 then l.drop 1 else l
def wM (l : List Int) : Int := if l.getD 0 0 = 45 then 9223372036854775808 else 9223372036854775807
def wOk (l : List Int) : Bool := decide (0 < (wD l).length ∧ rN 10 (wD l) = (wD l).length ∧ valK 10 (wD l) (wD l).length ≤ wM l)
def wV (l : List Int) : Int := if wOk l = true then (if l.getD 0 0 = 45 then - valK 10 (wD l) (wD l).length else valK 10 (wD l) (wD l).length) else 0
theorem first_bytes (s : ByteArray) : ((s.extract 0 1).toList == [45]) = decide ((bys s).getD 0 0 = 45) := by
 rw [ByteArray.toList_eq, ByteArray.data_extract, Array.toList_extract]
 unfold bys
 generalize s.data.toList = l
 cases l with
 | nil => simp
 | cons c l =>
  rw [Bool.eq_iff_iff]
  simp
  constructor
  ·intro h; rw [h]; rfl
  ·intro h
   apply UInt8.toNat_inj.1
   have : ((45 : UInt8).toNat : Int) = 45 := rfl
   omega
theorem minus_pos (s : ByteArray) (h : (bys s).getD 0 0 = 45) : 0 < s.size := by
 rcases Nat.eq_zero_or_pos s.size with h0 | h0
 ·have : bys s = [] := List.length_eq_zero_iff.1 (by rw [bys_length]; exact h0)
  rw [this] at h
  simp at h
 ·exact h0
set_option maxHeartbeats 4000000 in
theorem cutMinus_yes (s : ByteArray) (w : World) (h : (bys s).getD 0 0 = 45) :
  Calls Tryz.prog 100 #[.string s, .string { data := #[45] }] w fun e w' => e = .returned (.tuple #[.string (s.extract 1 s.size), .bool true]) ∧ w = w' := by
 have hp := minus_pos s h
 have hf := first_bytes s
 rw [decide_eq_true h] at hf
 clear h
 have hp' : (1 : Int) ≤ s.size := by omega
 go_enter Tryz.func100, Tryz.ntmps100
 go_wp2
 all_goals first | (exfalso; simp_all; done) | (go_ret2; exact ⟨rfl, rfl⟩)
set_option maxHeartbeats 4000000 in
theorem cutMinus_no (s : ByteArray) (w : World) (h : ¬ (bys s).getD 0 0 = 45) :
  Calls Tryz.prog 100 #[.string s, .string { data := #[45] }] w fun e w' => e = .returned (.tuple #[.string s, .bool false]) ∧ w = w' := by
 have hf := first_bytes s
 rw [decide_eq_false h] at hf
 clear h
 go_enter Tryz.func100, Tryz.ntmps100
 go_wp2
 all_goals first | (exfalso; simp_all; done) | (go_ret2; exact ⟨rfl, rfl⟩)
theorem bys_minus (s : ByteArray) : bys (s.extract 1 s.size) = (bys s).drop 1 := by
 rw [bys_extract, List.take_of_length_le (by rw [List.length_drop, bys_length]; exact Nat.le_refl _)]
theorem wrap_neg (x : Int) (h0 : 0 ≤ x) (h1 : x ≤ 9223372036854775808) : wrap64 (IntKind.u64.wrap (-x)) = -x := by
 unfold wrap64 IntKind.wrap
 simp [IntKind.signed, IntKind.bits]
 omega
theorem wOk_read (l : List Int) : wOk l = (!rO 10 (wM l) (wD l) && decide (0 < rN 10 (wD l)) && decide (rN 10 (wD l) = (wD l).length)) := by
 unfold wOk rO ovr
 rw [Bool.eq_iff_iff]
 simp
 constructor
 ·rintro ⟨h1, h2, h3⟩
  rw [h2]
  exact ⟨⟨h3, h1⟩, rfl⟩
 ·rintro ⟨⟨h1, h2⟩, h3⟩
  rw [h3] at h1 h2
  exact ⟨h2, h3, h1⟩
theorem wV_read (l : List Int) : wV l = if wOk l = true then (if l.getD 0 0 = 45 then - rV 10 (wM l) (wD l) else rV 10 (wM l) (wD l)) else 0 := by
 unfold wV
 by_cases h : wOk l = true
 ·rw [if_pos h, if_pos h]
  unfold wOk at h
  simp only [decide_eq_true_eq] at h
  have e : rV 10 (wM l) (wD l) = valK 10 (wD l) (wD l).length := by
   unfold rV cut
   rw [h.2.1, if_pos h.2.2]
  rw [e]
 ·rw [if_neg h, if_neg h]
set_option maxHeartbeats 4000000 in
theorem whole_yes (s : ByteArray) (w : World) (hs : s.size ≤ 9223372036854775807) (h : (bys s).getD 0 0 = 45) :
  Calls Tryz.prog 92 #[.string s] w fun e w' => e = .returned (.tuple #[.int .i64 (wV (bys s)), .bool (wOk (bys s))]) ∧ w = w' := by
 have HC := Lib.hid (cutMinus_yes s w h)
 have hp := minus_pos s h
 have hz : (s.extract 1 s.size).size = s.size - 1 := by simp
 have HR := Lib.hid (readS_any (s.extract 1 s.size) 10 9223372036854775808 w (by omega) (by omega) (by omega) (by omega) (by omega))
 have hwd : wD (bys s) = bys (s.extract 1 s.size) := by unfold wD; rw [if_pos h, bys_minus]
 have hwm : wM (bys s) = 9223372036854775808 := by unfold wM; rw [if_pos h]
 have HV := Lib.hid (wV_read (bys s))
 have HO := Lib.hid (wOk_read (bys s))
 rw [if_pos h, hwm, hwd] at HV
 rw [hwm, hwd, bys_length, hz] at HO
 obtain ⟨x0, x1⟩ := rV_bd 10 9223372036854775808 (bys (s.extract 1 s.size)) (by omega) (by omega)
 have HZ : Hid (rN 10 (bys (s.extract 1 s.size)) ≤ s.size - 1) := by have := pre_le (dig? 10) (bys (s.extract 1 s.size)); rw [bys_length, hz] at this; exact this
 generalize rV 10 9223372036854775808 (bys (s.extract 1 s.size)) = x at *
 generalize rO 10 9223372036854775808 (bys (s.extract 1 s.size)) = y at *
 generalize rN 10 (bys (s.extract 1 s.size)) = z at *
 generalize wV (bys s) = a at *
 generalize wOk (bys s) = b at *
 clear hwd hwm hz h
 by_cases hgood : y = false ∧ 0 < z ∧ z = s.size - 1
 ·obtain ⟨rfl, hz0, rfl⟩ := hgood
  have HA : Hid (-x = a ∧ true = b) := by
   have hb : b = true := by rw [HO.out]; simp; omega
   exact ⟨by rw [HV.out, if_pos hb], hb.symm⟩
  clear HO HV
  have hz1 : ((s.size - 1 : Nat) : Int) ≠ 0 := by omega
  go_enter Tryz.func92, Tryz.ntmps92
  go_wp2_with (first | (go_at_call 100; refine HC.out.mono ?_; rintro e w' ⟨rfl, rfl⟩) | (go_at_call 101; refine HR.out.mono ?_; rintro e w' ⟨rfl, rfl⟩))
  all_goals first | (exfalso; omega) | (go_ret2; exact ⟨ret_vb (by rw [wrap_neg _ x0 x1]; exact HA.out.1) HA.out.2, rfl⟩)
 ·have HA : Hid (0 = a ∧ false = b) := by
   have hb : b = false := by rw [HO.out]; simp; intro h1 h2 h3; exact hgood ⟨h1, h2, h3⟩
   exact ⟨by rw [HV.out, hb]; rfl, hb.symm⟩
  have hg : y = true ∨ (y = false ∧ (z = 0 ∨ (z ≠ 0 ∧ z < s.size - 1))) := by
   cases y with
   | true => exact Or.inl rfl
   | false => exact Or.inr ⟨rfl, by
     by_cases h0 : z = 0
     ·exact Or.inl h0
     ·exact Or.inr ⟨h0, by
       have hle := HZ.out
       by_cases h1 : z = s.size - 1
       ·exact absurd ⟨rfl, by omega, h1⟩ hgood
       ·omega⟩⟩
  clear HO HV hgood
  rcases hg with rfl | ⟨rfl, rfl | ⟨hz0, hz1⟩⟩
  all_goals
   go_enter Tryz.func92, Tryz.ntmps92
   go_wp2_with (first | (go_at_call 100; refine HC.out.mono ?_; rintro e w' ⟨rfl, rfl⟩) | (go_at_call 101; refine HR.out.mono ?_; rintro e w' ⟨rfl, rfl⟩))
   all_goals first | (exfalso; omega) | (go_ret2; exact ⟨ret_vb HA.out.1 HA.out.2, rfl⟩)
set_option maxHeartbeats 4000000 in
theorem whole_no (s : ByteArray) (w : World) (hs : s.size ≤ 9223372036854775807) (h : ¬ (bys s).getD 0 0 = 45) :
  Calls Tryz.prog 92 #[.string s] w fun e w' => e = .returned (.tuple #[.int .i64 (wV (bys s)), .bool (wOk (bys s))]) ∧ w = w' := by
 have HC := Lib.hid (cutMinus_no s w h)
 have HR := Lib.hid (readS_any s 10 9223372036854775807 w (by omega) (by omega) (by omega) (by omega) (by omega))
 have hwd : wD (bys s) = bys (s) := by unfold wD; rw [if_neg h]
 have hwm : wM (bys s) = 9223372036854775807 := by unfold wM; rw [if_neg h]
 have HV := Lib.hid (wV_read (bys s))
 have HO := Lib.hid (wOk_read (bys s))
 rw [if_neg h, hwm, hwd] at HV
 rw [hwm, hwd, bys_length] at HO
 obtain ⟨x0, x1⟩ := rV_bd 10 9223372036854775807 (bys s) (by omega) (by omega)
 have HZ : Hid (rN 10 (bys s) ≤ s.size) := by have := pre_le (dig? 10) (bys s); rw [bys_length] at this; exact this
 generalize rV 10 9223372036854775807 (bys s) = x at *
 generalize rO 10 9223372036854775807 (bys s) = y at *
 generalize rN 10 (bys s) = z at *
 generalize wV (bys s) = a at *
 generalize wOk (bys s) = b at *
 clear hwd hwm h
 by_cases hgood : y = false ∧ 0 < z ∧ z = s.size
 ·obtain ⟨rfl, hz0, rfl⟩ := hgood
  have HA : Hid (x = a ∧ true = b) := by
   have hb : b = true := by rw [HO.out]; simp; omega
   exact ⟨by rw [HV.out, if_pos hb], hb.symm⟩
  clear HO HV
  have hz1 : ((s.size : Nat) : Int) ≠ 0 := by omega
  go_enter Tryz.func92, Tryz.ntmps92
  go_wp2_with (first | (go_at_call 100; refine HC.out.mono ?_; rintro e w' ⟨rfl, rfl⟩) | (go_at_call 101; refine HR.out.mono ?_; rintro e w' ⟨rfl, rfl⟩))
  all_goals first | (exfalso; omega) | (go_ret2; exact ⟨ret_vb HA.out.1 HA.out.2, rfl⟩)
 ·have HA : Hid (0 = a ∧ false = b) := by
   have hb : b = false := by rw [HO.out]; simp; intro h1 h2 h3; exact hgood ⟨h1, h2, h3⟩
   exact ⟨by rw [HV.out, hb]; rfl, hb.symm⟩
  have hg : y = true ∨ (y = false ∧ (z = 0 ∨ (z ≠ 0 ∧ z < s.size))) := by
   cases y with
   | true => exact Or.inl rfl
   | false => exact Or.inr ⟨rfl, by
     by_cases h0 : z = 0
     ·exact Or.inl h0
     ·exact Or.inr ⟨h0, by
       have hle := HZ.out
       by_cases h1 : z = s.size
       ·exact absurd ⟨rfl, by omega, h1⟩ hgood
       ·omega⟩⟩
  clear HO HV hgood
  rcases hg with rfl | ⟨rfl, rfl | ⟨hz0, hz1⟩⟩
  all_goals
   go_enter Tryz.func92, Tryz.ntmps92
   go_wp2_with (first | (go_at_call 100; refine HC.out.mono ?_; rintro e w' ⟨rfl, rfl⟩) | (go_at_call 101; refine HR.out.mono ?_; rintro e w' ⟨rfl, rfl⟩))
   all_goals first | (exfalso; omega) | (go_ret2; exact ⟨ret_vb HA.out.1 HA.out.2, rfl⟩)
theorem whole_any (s : ByteArray) (w : World) (hs : s.size ≤ 9223372036854775807) :
  Calls Tryz.prog 92 #[.string s] w fun e w' => e = .returned (.tuple #[.int .i64 (wV (bys s)), .bool (wOk (bys s))]) ∧ w = w' := by
 by_cases h : (bys s).getD 0 0 = 45
 ·exact whole_yes s w hs h
 ·exact whole_no s w hs h
def Cur (w : World) (b : Nat) (s : ByteArray) (k : Nat) : Prop := w.heap[b]? = some (.cells #[.string s, .int .i64 k] 159) ∧ k ≤ s.size ∧ s.size ≤ 9223372036854775807
def Mv (b : Nat) (s : ByteArray) (k : Nat) (w w' : World) : Prop := Below b w w' ∧ Cur w' b s k ∧ ∀ i, i < w.heap.size → i ≠ b → w'.heap[i]? = w.heap[i]?
theorem Cur.facts {w : World} {b k : Nat} {s : ByteArray} (h : Cur w b s k) : w.cell? ⟨b, 0, none⟩ = some (.string s) ∧ w.cell? ⟨b, 1, none⟩ = some (.int .i64 k) ∧ w.frozen? ⟨b, 0, none⟩ = false ∧ w.frozen? ⟨b, 1, none⟩ = false ∧ b < w.heap.size := by
 obtain ⟨h, _, _⟩ := h
 refine ⟨by simp [World.cell?, h], by simp [World.cell?, h], by simp [World.frozen?, h], by simp [World.frozen?, h], ?_⟩
 rcases Nat.lt_or_ge b w.heap.size with h' | h'
 ·exact h'
 ·rw [Array.getElem?_eq_none h'] at h; cases h
theorem Mv.refl {w : World} {b k : Nat} {s : ByteArray} (h : Cur w b s k) : Mv b s k w w := ⟨Below.refl _ _, h, fun _ _ _ => rfl⟩
theorem Mv.drewN {w : World} {b k : Nat} {s : ByteArray} (h : Cur w b s k) (n : Nat) : Mv b s k w (w.drewN n) := ⟨⟨rfl, rfl, rfl, Nat.le_refl _, fun _ _ => rfl⟩, h, fun _ _ _ => rfl⟩
theorem Mv.trans {w w1 w2 : World} {b k k' : Nat} {s : ByteArray} (h : Mv b s k w w1) (h' : Mv b s k' w1 w2) : Mv b s k' w w2 :=
 ⟨h.1.trans h'.1, h'.2.1, fun i hi hb => (h'.2.2 i (Nat.lt_of_lt_of_le hi h.1.size) hb).trans (h.2.2 i hi hb)⟩
theorem Mv.set {w : World} {b k : Nat} {s : ByteArray} (h : Cur w b s k) (k' : Nat) (hk : k' ≤ s.size) : Mv b s k' w (w.setCell ⟨b, 1, none⟩ (.int .i64 k')) := by
 refine ⟨(Below.refl b w).setCell (p := ⟨b, 1, none⟩) (Nat.le_refl b) _, ⟨?_, hk, h.2.2⟩, fun i _ hb => Below.heap_setCell _ _ _ _ hb⟩
 show (w.heap.modify b _)[b]? = _
 rw [Array.getElem?_modify, if_pos rfl, h.1]
 rfl
theorem Sl.mv {w w' : World} {b k : Nat} {s : ByteArray} {v : Value} {l : List Int} (h : Sl w v l) (hm : Mv b s k w w') (ho : ∀ x o n cap, v = .slice (some ⟨x, o, none⟩) n cap → x ≠ b) : Sl w' v l := by
 obtain ⟨hy, hl, ⟨rfl, a, cap, rfl⟩ | ⟨x, o, cap, rfl, hcl, hcm, hr⟩⟩ := h
 ·exact ⟨hy, hl, Or.inl ⟨rfl, a, cap, rfl⟩⟩
 ·refine ⟨hy, hl, Or.inr ⟨x, o, cap, rfl, hcl, hcm, fun i hi => ?_⟩⟩
  have hc := hr i hi
  have hlt : x < w.heap.size := by
   rcases Nat.lt_or_ge x w.heap.size with h' | h'
   ·exact h'
   ·simp [World.cell?, Array.getElem?_eq_none h'] at hc
  rw [World.cell?_of_block (w := w) (hm.2.2 x hlt (ho _ _ _ _ rfl))]
  exact hc
set_option maxHeartbeats 2000000 in
theorem cnew_any (v : Value) (l : List Int) (w : World) (hs : Sl w v l) :
  Calls Tryz.prog 49 #[v] w fun e w' => e = .returned (.pointer (some ⟨w.heap.size, 0, none⟩)) ∧ w' = w.alloc (.cells #[.string (ofBys l), .int .i64 0] 159) := by
 have hc := conv_string hs
 clear hs
 go_enter Tryz.func49, Tryz.ntmps49
 go_wp2
 go_ret
 exact ⟨rfl, rfl⟩
set_option maxHeartbeats 2000000 in
theorem pos_any (b k : Nat) (s : ByteArray) (w : World) (h : Cur w b s k) :
  Calls Tryz.prog 51 #[.pointer (some ⟨b, 0, none⟩)] w fun e w' => e = .returned (.int .i64 k) ∧ w = w' := by
 obtain ⟨c0, c1, f0, f1, hb⟩ := h.facts
 clear h
 go_enter Tryz.func51, Tryz.ntmps51
 go_wp2
 go_ret
 exact ⟨rfl, rfl⟩
set_option maxHeartbeats 2000000 in
theorem rest_any (b k : Nat) (s : ByteArray) (w : World) (h : Cur w b s k) :
  Calls Tryz.prog 94 #[.pointer (some ⟨b, 0, none⟩)] w fun e w' => e = .returned (.string (s.extract k s.size)) ∧ Mv b s k w w' := by
 obtain ⟨c0, c1, f0, f1, hb⟩ := h.facts
 have HC := Lib.hid h
 obtain ⟨_, hk, hsz⟩ := h
 have hk' : (0 : Int) ≤ k := by omega
 have hk2 : (k : Int) ≤ s.size := by omega
 go_enter Tryz.func94, Tryz.ntmps94
 go_wp2
 go_quiet (fail)
 go_wp2
 go_ret
 exact ⟨rfl, Mv.drewN HC.out _⟩
theorem ext_empty (s : ByteArray) (k : Nat) (h : k < s.size) : (s.extract k s.size).toList.isEmpty = false := by
 rw [ByteArray.toList_eq, ByteArray.data_extract, Array.toList_extract]
 cases hl : (s.data.toList.extract k s.size) with
 | nil =>
  have := congrArg List.length hl
  simp at this
  have : s.data.size = s.size := rfl
  omega
 | cons => rfl
theorem ext_head (s : ByteArray) (k : Nat) (h : k < s.size) (h' : 0 < (s.extract k s.size).size) : (((s.extract k s.size)[0]'h').toNat : Int) = (bys s).getD k 0 := by
 rw [bys_getD s k h]
 congr 2
 show (s.extract k s.size).data[0] = s.data[k]
 simp [ByteArray.data_extract]
def atB (s : ByteArray) (k : Nat) : Int := (bys s).getD k 0
set_option maxHeartbeats 2000000 in
theorem peek_any (b k : Nat) (s : ByteArray) (w : World) (h : Cur w b s k) :
  Calls Tryz.prog 84 #[.pointer (some ⟨b, 0, none⟩)] w fun e w' => e = .returned (.tuple #[.int .u8 (atB s k), .bool (decide (k < s.size))]) ∧ Mv b s k w w' := by
 have HR := Lib.hid (rest_any b k s w h)
 have hle := h.2.1
 clear h
 by_cases hk : k < s.size
 ·have hg : Hid (atB s k = (s[k].toNat : Int)) := bys_getD s k hk
  have he := ext_empty s k hk
  have hx : Hid (∀ h', (((s.extract k s.size)[0]'h').toNat : Int) = atB s k) := fun h' => ext_head s k hk h'
  have hp : 0 < s.size - k := by omega
  have hd : Hid (true = decide (k < s.size)) := (decide_eq_true hk).symm
  go_enter Tryz.func84, Tryz.ntmps84
  go_wp2_with fail
  refine HR.out.mono ?_
  rintro e w1 ⟨rfl, hm⟩
  have HM := Lib.hid hm
  clear hm
  go_wp2
  go_ret2
  exact ⟨ret_vb (hx.out _) hd.out, HM.out⟩
 ·obtain rfl : k = s.size := by omega
  have hg : Hid (atB s s.size = 0) := by unfold atB; rw [List.getD, List.getElem?_eq_none (by rw [bys_length]; exact Nat.le_refl _)]; rfl
  have hd : Hid (false = decide (s.size < s.size)) := Lib.hid (by simp)
  go_enter Tryz.func84, Tryz.ntmps84
  go_wp2_with fail
  refine HR.out.mono ?_
  rintro e w1 ⟨rfl, hm⟩
  have HM := Lib.hid hm
  clear hm
  go_wp2
  go_ret2
  exact ⟨ret_vb hg.out.symm hd.out, HM.out⟩
theorem Mv.cur {w w' : World} {b k : Nat} {s : ByteArray} (h : Mv b s k w w') : Cur w' b s k := h.2.1
theorem Mv.setAt {w w' : World} {b k : Nat} {s : ByteArray} (h : Mv b s k w w') (k' : Nat) (hk : k' ≤ s.size) : Mv b s k' w (w'.setCell ⟨b, 1, none⟩ (.int .i64 k')) := h.trans (Mv.set h.2.1 k' hk)
set_option maxHeartbeats 2000000 in
theorem next_any (b k : Nat) (s : ByteArray) (w : World) (h : Cur w b s k) :
  Calls Tryz.prog 71 #[.pointer (some ⟨b, 0, none⟩)] w fun e w' => e = .returned (.tuple #[.int .u8 (atB s k), .bool (decide (k < s.size))]) ∧ Mv b s (if k < s.size then k + 1 else k) w w' := by
 have HR := Lib.hid (peek_any b k s w h)
 have hle := h.2.1
 have hs2 := h.2.2
 clear h
 generalize atB s k = c at *
 by_cases hk : k < s.size
 ·rw [if_pos hk]
  rw [decide_eq_true hk] at HR ⊢
  go_enter Tryz.func71, Tryz.ntmps71
  go_wp2_with fail
  refine HR.out.mono ?_
  rintro e w1 ⟨rfl, hm⟩
  obtain ⟨c0, c1, f0, f1, hb⟩ := hm.cur.facts
  have HM := Lib.hid hm
  clear hm
  go_wp2
  go_ret2
  exact ⟨rfl, HM.out.setAt (k + 1) (by omega)⟩
 ·rw [if_neg hk]
  rw [decide_eq_false hk] at HR ⊢
  go_enter Tryz.func71, Tryz.ntmps71
  go_wp2_with fail
  refine HR.out.mono ?_
  rintro e w1 ⟨rfl, hm⟩
  have HM := Lib.hid hm
  clear hm
  go_wp2
  go_ret2
  exact ⟨rfl, HM.out⟩
set_option maxHeartbeats 2000000 in
theorem back_yes (b k n : Nat) (s : ByteArray) (w : World) (h : Cur w b s k) (hn : n ≤ k) :
  Calls Tryz.prog 72 #[.pointer (some ⟨b, 0, none⟩), .int .i64 n] w fun e w' => e = .returned (.bool true) ∧ Mv b s (k - n) w w' := by
 obtain ⟨c0, c1, f0, f1, hb⟩ := h.facts
 have HC := Lib.hid h
 obtain ⟨_, hle, hs2⟩ := h
 have h1 : (0 : Int) ≤ n := by omega
 have h2 : (n : Int) ≤ k := by omega
 have h3 : ((k - n : Nat) : Int) = (k : Int) - n := by omega
 have H3 := Lib.hid h3
 clear h3
 go_enter Tryz.func72, Tryz.ntmps72
 go_wp2
 go_ret
 exact ⟨rfl, by rw [← H3.out]; exact Mv.set HC.out (k - n) (by omega)⟩
def begB (s t : ByteArray) : Bool := decide (t.size ≤ s.size ∧ s.extract 0 t.size = t)
theorem toList_beq (s t : ByteArray) : (s.toList == t.toList) = decide (s = t) := by
 rw [Bool.eq_iff_iff]
 simp only [beq_iff_eq, decide_eq_true_eq, ByteArray.toList_eq]
 exact ⟨fun h => WideShapes.bytes_inj h, fun h => by rw [h]⟩
set_option maxHeartbeats 2000000 in
theorem hasPrefix_any (s t : ByteArray) (w : World) :
  Calls Tryz.prog 93 #[.string s, .string t] w fun e w' => e = .returned (.bool (begB s t)) ∧ w = w' := by
 obtain ⟨x, hx⟩ : ∃ x, x = begB s t := ⟨_, rfl⟩
 rw [← hx]
 unfold begB at hx
 by_cases h : t.size ≤ s.size
 ·have hb := toList_beq (s.extract 0 t.size) t
  have hxx : x = decide (s.extract 0 t.size = t) := by rw [hx]; simp [h]
  rw [← hxx] at hb
  clear hx hxx
  have h' : (t.size : Int) ≤ s.size := by omega
  go_enter Tryz.func93, Tryz.ntmps93
  go_wp2
  go_ret
  exact ⟨rfl, rfl⟩
 ·have hxx : x = false := by rw [hx]; simp; omega
  subst hxx
  clear hx
  have h' : (s.size : Int) < t.size := by omega
  go_enter Tryz.func93, Tryz.ntmps93
  go_wp2
  all_goals first | (exfalso; omega) | (go_ret; exact ⟨rfl, rfl⟩)
theorem begB_size {s t : ByteArray} {k : Nat} (hk : k ≤ s.size) (h : begB (s.extract k s.size) t = true) : k + t.size ≤ s.size := by
 unfold begB at h
 simp at h
 omega
set_option maxHeartbeats 2000000 in
theorem take_any (b k : Nat) (s t : ByteArray) (w : World) (h : Cur w b s k) (ht : t.size ≤ 9223372036854775807) :
  Calls Tryz.prog 77 #[.pointer (some ⟨b, 0, none⟩), .string t] w fun e w' => e = .returned (.bool (begB (s.extract k s.size) t)) ∧ Mv b s (if begB (s.extract k s.size) t = true then k + t.size else k) w w' := by
 have HR := Lib.hid (rest_any b k s w h)
 have hle := h.2.1
 have hs2 := h.2.2
 have HP := Lib.hid (fun w => hasPrefix_any (s.extract k s.size) t w)
 have HZ := Lib.hid (begB_size (s := s) (t := t) hle)
 clear h
 cases hx : begB (s.extract k s.size) t with
 | true =>
  have hz := HZ.out hx
  rw [hx] at HP
  clear hx HZ
  rw [if_pos rfl]
  go_enter Tryz.func77, Tryz.ntmps77
  go_wp2_with fail
  refine HR.out.mono ?_
  rintro e w1 ⟨rfl, hm⟩
  obtain ⟨c0, c1, f0, f1, hb⟩ := hm.cur.facts
  have HM := Lib.hid hm
  clear hm
  go_wp2_with fail
  refine (HP.out _).mono ?_
  rintro e w2 ⟨rfl, rfl⟩
  go_wp2
  go_ret
  exact ⟨rfl, HM.out.setAt (k + t.size) (by omega)⟩
 | false =>
  rw [hx] at HP
  clear hx HZ
  rw [if_neg (by simp)]
  go_enter Tryz.func77, Tryz.ntmps77
  go_wp2_with fail
  refine HR.out.mono ?_
  rintro e w1 ⟨rfl, hm⟩
  have HM := Lib.hid hm
  clear hm
  go_wp2_with fail
  refine (HP.out _).mono ?_
  rintro e w2 ⟨rfl, rfl⟩
  go_wp2
  go_ret
  exact ⟨rfl, HM.out⟩
end Go.Proofs.YtnpkcllbpnmabaaGreatDoor
