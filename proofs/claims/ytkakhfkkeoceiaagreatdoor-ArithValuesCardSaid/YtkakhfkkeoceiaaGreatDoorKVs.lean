import Derived.Test.YtkakhfkkeoceiaaGreatDoorKNu
import Derived.Test.YtkakhfkkeoceiaaGreatDoorAcHf
namespace Go.Proofs.YtkakhfkkeoceiaaGreatDoor
set_option maxRecDepth 100000
open Go.RowKit Go.WideMaps Go.Maps
set_option maxHeartbeats 4000000 in
theorem isNameA_any (s : ByteArray) (w : World) (hl : s.size ≤ 9223372036854775807) : Calls Tryz.prog 47 #[.string s] w fun e w' => e = .returned (.bool (nmB s)) ∧ Below w.heap.size w w' := by
 by_cases hE : s = sEmpty
 ·obtain rfl : s = ⟨#[]⟩ := hE
  have HF : nmB ⟨#[]⟩ = false := rfl
  rw [HF]
  go_enter Tryz.func47, Tryz.ntmps47
  go_wp2_with fail
  go_ret
  exact ⟨rfl, Below.refl _ _⟩
 ·obtain ⟨cap, W1, hconv, hrow, hbel⟩ := conv_sl w s hl
  have HN : Hid (Calls Tryz.prog 80 #[.slice (some ⟨w.heap.size, 0, none⟩) s.size cap] W1 fun e w' => e = .returned (.int .i64 (nmN (bys s))) ∧ W1 = w') := Lib.hid (nm_any _ (bys s) W1 hrow)
  have tn := tl_no (l := []) hE
  have HE : nmB s = decide (nmN (bys s) = s.size) := by unfold nmB; rw [decide_eq_true hE, Bool.true_and]
  rw [HE]
  have HB := Lib.hid hbel
  clear hrow hbel
  go_enter Tryz.func47, Tryz.ntmps47
  go_wp2_with fail
  refine HN.out.mono ?_
  rintro e w2 ⟨rfl, rfl⟩
  go_wp2_with fail
  go_ret
  exact ⟨ret_bool (by rw [Bool.eq_iff_iff, beq_iff_eq, decide_eq_true_iff]; omega), HB.out⟩
def dV (a b : ByteArray) : DataW Unit := .agg [.lit (.string a.data.toList), .lit (.string b.data.toList)]
theorem dV_inj {a b c d : ByteArray} (h : dV a b = dV c d) : a = c ∧ b = d := by
 simp only [dV, DataW.agg.injEq, List.cons.injEq, DataW.lit.injEq, Lit.string.injEq, and_true] at h
 exact ⟨by obtain ⟨a⟩ := a; obtain ⟨c⟩ := c; simpa using h.1, by obtain ⟨b⟩ := b; obtain ⟨d⟩ := d; simpa using h.2⟩
open Classical in
noncomputable def rdV (v : Value) : Option (DataW Unit × List MemPlace) :=
 if h : ∃ p : ByteArray × ByteArray, v = .agg #[.string p.1, .string p.2] then some (dV (Classical.choose h).1 (Classical.choose h).2, []) else none
theorem rdV_mk (a b : ByteArray) : rdV (.agg #[.string a, .string b]) = some (dV a b, []) := by
 unfold rdV
 have h : ∃ p : ByteArray × ByteArray, Value.agg #[.string a, .string b] = .agg #[.string p.1, .string p.2] := ⟨(a, b), rfl⟩
 rw [dif_pos h]
 have hs := Classical.choose_spec h
 generalize Classical.choose h = p at hs ⊢
 simp only [Value.agg.injEq, Array.mk.injEq, List.cons.injEq, Value.string.injEq, and_true] at hs
 rw [← hs.1, ← hs.2]
theorem rdV_inv {v : Value} {a b : ByteArray} {ps : List MemPlace} (h : rdV v = some (dV a b, ps)) : v = .agg #[.string a, .string b] := by
 unfold rdV at h
 split at h
 ·rename_i hh
  have hs := Classical.choose_spec hh
  simp only [Option.some.injEq, Prod.mk.injEq] at h
  obtain ⟨h1, h2⟩ := dV_inj h.1
  rw [hs, h1, h2]
 ·cases h
def OneAt (w : World) (vb mb : Nat) (nm val : ByteArray) : Prop :=
 w.heap[vb]? = some (.cells #[.map (some mb)] 84 (0, 0)) ∧ w.ownsMap Tryz.prog 9 rdV mb 1 ((DataW.map []).put (KL nm) (dV nm val))
theorem OneAt.below {w w' : World} {vb mb : Nat} {nm val : ByteArray} (h : OneAt w vb mb nm val) (hb : Below w.heap.size w w') : OneAt w' vb mb nm val := by
 obtain ⟨h0, es, clock, h1, h2⟩ := h
 exact ⟨blk_belowA h0 hb, es, clock, (hb.block mb (lt_blkA h1)).trans h1, h2⟩
set_option maxHeartbeats 4000000 in
theorem get_one (vb mb : Nat) (nm val : ByteArray) (w : World) (hv : OneAt w vb mb nm val) (hn : nm.size ≤ maxLen) : Calls Tryz.prog 19 #[.pointer (some ⟨vb, 0, none⟩), .string nm] w fun e w' => e = .returned (.tuple #[.string val, .bool true]) ∧ Below w.heap.size w w' := by
 obtain ⟨h0, hown⟩ := hv
 obtain ⟨c0, _, hz⟩ := cells1A h0
 obtain ⟨v, ps, hlk, hr⟩ := hown.look_ok lawS Tryz.underlying82 (zeroVar w) (rdV_mk _ _) (KL.key hn)
 rw [atKey_put_same ⟨[], rfl⟩ (show WideAt.IsKeyLit (KL nm) from trivial)] at hr
 rw [has_put_same ⟨[], rfl⟩ (show WideAt.IsKeyLit (KL nm) from trivial)] at hlk
 obtain rfl := rdV_inv hr
 clear h0 hown hr
 go_enter Tryz.func19, Tryz.ntmps19
 go_wp2_with fail
 go_ret2
 exact ⟨rfl, (Below.refl _ _).alloc (Nat.le_refl _) _⟩
set_option maxHeartbeats 4000000 in
theorem set_first (vb : Nat) (nm val : ByteArray) (w : World) (hv : w.heap[vb]? = some (.cells #[.map none] 84 (0, 0))) (hn : nm.size ≤ 1000) (hnm : nmB nm = true) : Calls Tryz.prog 16 #[.pointer (some ⟨vb, 0, none⟩), .string nm, .string val] w fun e w' => e = .returned (.bool true) ∧ (∃ mb, OneAt w' vb mb nm val) ∧ w.heap.size ≤ w'.heap.size ∧ Below vb w w' := by
 have HIN := Lib.hid (isNameA_any nm w (by omega))
 rw [hnm] at HIN
 have HV := Lib.hid hv
 clear hv hnm
 go_enter Tryz.func16, Tryz.ntmps16
 go_wp2_with fail
 refine HIN.out.mono ?_
 rintro e w1 ⟨rfl, hb1⟩
 have hv1 := blk_belowA HV.out hb1
 obtain ⟨c0, _, hz⟩ := cells1A hv1
 have hmm := @run_makeMap Tryz.prog
 have heq : ∀ X : World, (Go.binOp BinOp.eql 82 (.map none) (.map none)).run Tryz.prog X = .ok (.bool true) X := fun _ => by kernel_rfl
 have hown : ((w1.setCell ⟨vb, 0, none⟩ (.map (some w1.heap.size))).alloc (.map #[] 0)).ownsMap Tryz.prog 9 rdV w1.heap.size 0 (DataW.map []) := by
  have h := World.ownsMap_made (H := Unit) (w1.setCell ⟨vb, 0, none⟩ (.map (some w1.heap.size))) Tryz.prog 9 rdV
  simpa using h
 have HB1 := Lib.hid hb1
 have HO := Lib.hid hown
 have HHV := Lib.hid hv1
 clear hown hb1 hv1
 go_wp2_with (at_mapUpdate; go_must (refine wpList_mapUpdate_own _ rfl _ _ _ 82 rfl 9 77 lawS Tryz.underlying82 rdV w1.heap.size 0 (DataW.map []) rfl HO.out (by decide) _ _ (KL nm) rfl rfl (KL.key (by unfold maxLen; omega)) (dV nm val) [] (rdV_mk nm val) ?_); intro w2 hown2 hgr2; have HO2 := Lib.hid hown2; have HG2 := Lib.hid hgr2; clear hown2 hgr2)
 go_ret
 have hlt0 := lt_blkA HV.out
 have hb1 : Below vb w w1 := HB1.out.mono (Nat.le_of_lt hlt0)
 have hb2 : Below vb w ((w1.setCell ⟨vb, 0, none⟩ (.map (some w1.heap.size))).alloc (.map #[] 0)) := (hb1.setCell (p := ⟨vb, 0, none⟩) (Nat.le_refl _) _).alloc (by simp; omega) _
 have hb3 : Below vb w w2 := hb2.grown HG2.out (by simp; omega) (fun k e => by have := Option.some.inj e; omega)
 refine ⟨rfl, ⟨w1.heap.size, ?_, by simpa using HO2.out⟩, hb3.size, hb3⟩
 exact (HG2.out.block vb (by simp; omega) (fun e => by have := Option.some.inj e; omega)).trans ((Below.heap_alloc _ _ vb (by simp; omega)).trans (blk_setA HHV.out))
end Go.Proofs.YtkakhfkkeoceiaaGreatDoor
namespace Go.Proofs.YtkakhfkkeoceiaaGreatDoor
set_option maxRecDepth 100000
open Go.RowKit Go.WideMaps Go.Maps
theorem numR_fit (neg : Bool) (l : List Int) : I64 (numR neg l).1 ∧ (numR neg l).2 ≤ 21 := by
 have h := cV_bd l
 unfold numR
 split
 ·exact ⟨by unfold I64; omega, by omega⟩
 ·split
  ·exact ⟨by unfold I64; omega, by omega⟩
  ·cases neg
   ·exact ⟨by unfold I64; simp; omega, by omega⟩
   ·have hw : wrap64 (-cV l) = -cV l := by unfold wrap64; omega
    exact ⟨by unfold I64; simp only [if_true]; rw [hw]; omega, by omega⟩
theorem numOf_fit (s : ByteArray) : I64 (numOf s).1 ∧ (numOf s).2 ≤ 21 := by
 unfold numOf
 split
 ·exact ⟨by unfold I64; omega, by omega⟩
 ·unfold numT
  split
  ·exact ⟨by unfold I64; omega, by omega⟩
  ·exact numR_fit _ _
set_option maxHeartbeats 4000000 in
theorem get_other (vb mb : Nat) (nm val n : ByteArray) (w : World) (hv : OneAt w vb mb nm val) (hn : n.size ≤ maxLen) (hne : ¬ n = nm) : Calls Tryz.prog 19 #[.pointer (some ⟨vb, 0, none⟩), .string n] w fun e w' => e = .returned (.tuple #[.string ⟨#[]⟩, .bool false]) ∧ Below w.heap.size w w' := by
 obtain ⟨h0, hown⟩ := hv
 obtain ⟨c0, _, hz⟩ := cells1A h0
 have hk : ¬ KL n = KL nm := fun h => hne (KL.inj h)
 obtain ⟨v, ps, hlk, hr⟩ := hown.look_ok lawS Tryz.underlying82 (zeroVar w) (rdV_mk _ _) (KL.key hn)
 rw [atKey_put_other hk] at hr
 rw [has_put_other hk] at hlk
 have hh : Maps.has (DataW.map [] : DataW Unit) (KL n) = false := rfl
 rw [hh] at hlk
 obtain rfl := rdV_inv (a := ⟨#[]⟩) (b := ⟨#[]⟩) (ps := ps) hr
 clear h0 hown hr
 go_enter Tryz.func19, Tryz.ntmps19
 go_wp2_with fail
 go_ret2
 exact ⟨rfl, (Below.refl _ _).alloc (Nat.le_refl _) _⟩
def oneV (nm val : ByteArray) : ByteArray → ByteArray := fun n => if n = nm then val else ⟨#[]⟩
def oneNum (nm val : ByteArray) : ByteArray → Int × Nat := fun n => numOf (oneV nm val n)
theorem env_one (vb mb : Nat) (nm val : ByteArray) (w : World) (hv : OneAt w vb mb nm val) (hz : val.size ≤ 9223372036854775807) (hT : TP w) : EnvC w.heap.size (some ⟨vb, 0, none⟩) w (oneV nm val) (oneNum nm val) where
 get n X hn hX := by
  by_cases h : n = nm
  ·subst h
   refine (get_one vb mb n val X (hv.below hX) hn).mono ?_
   rintro e w' ⟨rfl, hb⟩
   exact ⟨⟨_, by rw [show oneV n val n = val from if_pos rfl]⟩, hb⟩
  ·refine (get_other vb mb nm val n X (hv.below hX) hn h).mono ?_
   rintro e w' ⟨rfl, hb⟩
   exact ⟨⟨_, by rw [show oneV nm val n = ⟨#[]⟩ from if_neg h]⟩, hb⟩
 num n X hX := numberOf_any (oneV nm val n) X (by unfold oneV; split; exact hz; decide) (hT.below hX)
 fit n := numOf_fit _
end Go.Proofs.YtkakhfkkeoceiaaGreatDoor
