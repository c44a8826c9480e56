import Derived.Test.YtkakhfkkeoceiaaGreatDoorArTok
import Derived.LoopTactic
import Derived.Laws.Rows
import Derived.Deep.WholeRow
import Derived.Great.BuildSlice
namespace Go.Proofs.YtkakhfkkeoceiaaGreatDoor
set_option maxRecDepth 100000
open Go.RowKit
def opVals : Array Value := (opList.map Value.string).toArray
theorem opVals_one : opVals.all (·.oneCell') = true := by kernel_rfl
theorem run_index_one {P : Program} {t e : TypeId} {n : Nat} {cs : Array Value} {k : Nat} {v : Value} {w : World} (hu : P.underlying t = some (.array n e)) (ha : (isAgg e).run P w = .ok false w) (hs : (sizeOf e).run P w = .ok 1 w)
  (hk : k < n) (hv : cs[k]? = some v) : (Instr.index t (.agg cs) (.int .i64 (k : Int))).run P w = .ok v w := by
 simp [Instr.index, run_underlying hu, asIntOf, go_sem, part, ha, hs, hv]
 intro h
 omega
theorem opVals_at (k : Nat) (h : k < 35) (w : World) : (Instr.index 224 (.agg opVals) (.int .i64 (k : Int))).run Tryz.prog w = .ok (.string (opList.getD k sEmpty)) w := by
 refine run_index_one Tryz.underlying224 (by kernel_rfl) (by kernel_rfl) h ?_
 have h' : k < opList.length := h
 simp [opVals, List.getD, List.getElem?_eq_getElem h']
theorem opFrom_hit (l : List Int) (k : Nat) (h : k < opList.length) (hb : begins l (opList.getD k sEmpty) = true) : opFrom l (opList.drop k) = opList.getD k sEmpty := by
 rw [List.drop_eq_getElem_cons h]
 have e : opList.getD k sEmpty = opList[k] := by rw [List.getD, List.getElem?_eq_getElem h]; rfl
 rw [e] at hb ⊢
 unfold opFrom
 rw [if_pos hb]
theorem opFrom_miss (l : List Int) (k : Nat) (h : k < opList.length) (hb : ¬ begins l (opList.getD k sEmpty) = true) : opFrom l (opList.drop k) = opFrom l (opList.drop (k + 1)) := by
 have e : opList.getD k sEmpty = opList[k] := by rw [List.getD, List.getElem?_eq_getElem h]; rfl
 rw [e] at hb
 rw [List.drop_eq_getElem_cons h]
 conv => lhs; unfold opFrom
 rw [if_neg hb]
theorem opList_small : ∀ s ∈ opList, 1 ≤ s.size ∧ s.size ≤ 3 := by decide
theorem opList_sz (k : Nat) : (opList.getD k sEmpty).size ≤ 3 := by
 by_cases h : k < opList.length
 ·rw [List.getD, List.getElem?_eq_getElem h]; exact (opList_small _ (List.getElem_mem h)).2
 ·rw [List.getD, List.getElem?_eq_none (by omega)]; decide
theorem Sl.take {w : World} {b o cap : Nat} {l : List Int} (hy : Byt l) (_hl : l.length ≤ 9223372036854775807) (hcl : l.length ≤ cap) (hcm : cap ≤ 9223372036854775807) (hr : Row w b o l) (k : Nat) (hk : k ≤ l.length) :
  Sl w (.slice (some ⟨b, o, none⟩) k cap) (l.take k) := by
 have hlen : (l.take k).length = k := by rw [List.length_take]; omega
 refine ⟨fun i => ?_, by omega, Or.inr ⟨b, o, cap, by rw [hlen], by omega, by omega, fun i hi => ?_⟩⟩
 ·by_cases h : i < k
  ·have := hy i
   simpa [List.getD, List.getElem?_take, h] using this
  ·simp [List.getD, List.getElem?_take, h]
 ·rw [hr i (by omega)]
  have : i < k := by omega
  simp [List.getD, this]
set_option maxHeartbeats 4000000 in
theorem operatorAt_cells (b o cap : Nat) (l : List Int) (w : World) (hl : l.length ≤ 9223372036854775807) (hcl : l.length ≤ cap) (hcm : cap ≤ 9223372036854775807) (hy : Byt l) (hc : Row w b o l) :
  Calls Tryz.prog 123 #[.slice (some ⟨b, o, none⟩) l.length cap] w fun e w' => e = .returned (.string (opB l)) ∧ Below w.heap.size w w' := by
 have HC := Lib.hid hc
 have HY := Lib.hid hy
 clear hc hy
 obtain ⟨n, hn⟩ : ∃ n, n = l.length := ⟨_, rfl⟩
 rw [← hn] at hl hcl ⊢
 have HN := Lib.hid hn
 clear hn
 go_enter Tryz.func123, Tryz.ntmps123
 go_wp2_with (first | (refine wpList_buildTo rfl 224 _ rfl (some 6) rfl opVals (by kernel_rfl) ?_) | (refine wpList_store_rowTo rfl 224 _ _ rfl rfl w.heap.size opVals rfl rfl 224 _ (heap_alloc_last w _) (by kernel_rfl) (by simp; rfl) opVals_one ?_; rw [World.setRow_alloc_new]) | (refine wpList_load_row rfl 224 _ rfl w.heap.size rfl 224 opVals (0, 0) _ (heap_alloc_last w _) Tryz.underlying224 rfl (by kernel_rfl) ?_))
 obtain ⟨wo, hwo⟩ : ∃ wo : World, wo = w.alloc (.cells opVals 224) := ⟨_, rfl⟩
 rw [← hwo]
 have HB : Hid (Below w.heap.size w wo) := Lib.hid (by rw [hwo]; exact (Below.refl _ _).alloc (Nat.le_refl _) _)
 have HR : Hid (Row wo b o l) := Lib.hid (HC.out.below HB.out)
 clear hwo
 go_loop [5, 8] (fun _ i => ∃ k : Nat, k ≤ 35 ∧ opB l = opFrom l (opList.drop k) ∧ i = .int .i64 k) (fun _ i => 35 - (intOf i).toNat)
 case atStart => exact ⟨0, by omega, rfl, rfl⟩
 case round =>
  obtain ⟨k, hk, hd, rfl⟩ := hrel
  have HD := Lib.hid hd
  clear hd
  by_cases hlt : k < 35
  ·have hat := opVals_at k hlt wo
   have hsz := opList_sz k
   by_cases hb : begins l (opList.getD k sEmpty) = true
   ·have HH : Hid (opB l = opList.getD k sEmpty) := Lib.hid (HD.out.trans (opFrom_hit l k hlt hb))
    generalize opList.getD k sEmpty = s at *
    unfold begins at hb
    simp only [Bool.and_eq_true, decide_eq_true_eq] at hb
    obtain ⟨hb1, hb2⟩ := hb
    rw [← HN.out] at hb1
    have HT := Lib.hid (conv_string (Sl.take HY.out (by rw [← HN.out]; exact hl) (by rw [← HN.out]; exact hcl) hcm HR.out s.size (by rw [← HN.out]; exact hb1)))
    rw [hb2] at HT
    have hconv := HT.out
    clear hb2
    go_wp2
    go_ret
    exact ⟨ret_str HH.out.symm, HB.out⟩
   ·have HH : Hid (opB l = opFrom l (opList.drop (k + 1))) := Lib.hid (HD.out.trans (opFrom_miss l k hlt hb))
    generalize opList.getD k sEmpty = s at *
    by_cases hb1 : s.size ≤ n
    ·have hb2 : ofBys (l.take s.size) ≠ s := fun e => hb (by unfold begins; rw [← HN.out]; simp [hb1, e])
     have HT := Lib.hid (conv_string (Sl.take HY.out (by rw [← HN.out]; exact hl) (by rw [← HN.out]; exact hcl) hcm HR.out s.size (by rw [← HN.out]; exact hb1)))
     generalize ofBys (l.take s.size) = u at *
     have hq : (u.toList == s.toList) = false := by rw [toList_beq]; simpa using hb2
     have hconv := HT.out
     clear hb hb2
     go_wp2
     go_round
     case rel => exact ⟨k + 1, by omega, HH.out, by go_num⟩
     case measure => simp [intOf]; omega
    ·clear hb
     go_wp2
     go_round
     case rel => exact ⟨k + 1, by omega, HH.out, by go_num⟩
     case measure => simp [intOf]; omega
  ·obtain rfl : k = 35 := by omega
   go_wp2
   go_ret
   exact ⟨ret_str (HD.out.symm), HB.out⟩
theorem operatorAt_any (v : Value) (l : List Int) (w : World) (hs : Sl w v l) (hn : 0 < l.length) :
  Calls Tryz.prog 123 #[v] w fun e w' => e = .returned (.string (opB l)) ∧ Below w.heap.size w w' := by
 obtain ⟨hy, hl, ⟨rfl, a, cap, rfl⟩ | ⟨b, o, cap, rfl, hcl, hcm, hr⟩⟩ := hs
 ·simp at hn
 ·exact operatorAt_cells b o cap l w hl hcl hcm hy hr
def Tk.v (t : Tk) : Value := .agg #[.int .i64 t.kind, .int .i64 t.start, .int .i64 t.stop, .string t.text, .int .i64 t.num, .bool t.over]
theorem skipN_le (l : List Int) (p : Nat) (h : p ≤ l.length) : skipN l p ≤ l.length := by
 have := pre_le whiteB (l.drop p)
 rw [List.length_drop] at this
 unfold skipN
 omega
theorem tok_of {l : List Int} {p k : Nat} (hk : p + k ≤ l.length) (h1 : ∀ j, j < k → whiteB (l.getD (p + j) 0) = true) (h2 : p + k < l.length → whiteB (l.getD (p + k) 0) = false) :
  tok l p = tokL (l.drop (p + k)) (p + k) := by
 have : pre whiteB (l.drop p) = k := pre_of _ _ k (by simp; omega) (fun j hj => by have := h1 j hj; simpa [List.getD, List.getElem?_drop] using this) (fun h => by have := h2 (by simp at h; omega); simpa [List.getD, List.getElem?_drop] using this)
 unfold tok skipN
 rw [this]
theorem new_block (w : World) (o : Obj) {w1 : World} (hb : Below (w.alloc o).heap.size (w.alloc o) w1) : w1.heap[w.heap.size]? = some o :=
 (hb.block _ (by simp)).trans (heap_alloc_last w o)
theorem setRow_self {w : World} {g : Nat} {old : Array Value} {t : TypeId} (h : w.heap[g]? = some (.cells old t (0, 0))) (c : Array Value) : (w.setRow g c).heap[g]? = some (.cells c t (0, 0)) := by
 show (w.heap.modify g _)[g]? = _
 rw [Array.getElem?_modify, if_pos rfl, h]
 rfl
theorem below_setRow {B : Nat} {w w' : World} (h : Below B w w') {g : Nat} (hg : B ≤ g) (c : Array Value) : Below B w (w'.setRow g c) :=
 ⟨h.os, h.tape, h.output, by simpa [World.setRow] using h.size, fun k hk => by
  show (w'.heap.modify g _)[k]? = _
  rw [Array.getElem?_modify, if_neg (by omega)]
  exact h.block k hk⟩
theorem tk_info : (Tryz.prog.info? 150).map (·.size) = some 6 := by kernel_rfl
theorem wpList_store_tk {ops : Array Oper} {rest : List Oper} {o : Oper} {a : Act} {w : World} {Q : Exit → Act → World → Prop} (hgd : o.guard = none) (x y : Operand) (ho : o.op = .store 150 x y)
  (hd : o.dst = none) (g : Nat) (kd st en : Int) (tx : ByteArray) (nm : Int) (ov : Bool) (hx : a.eval x = .pointer (some ⟨g, 0, none⟩)) (hy : a.eval y = .agg #[.int .i64 kd, .int .i64 st, .int .i64 en, .string tx, .int .i64 nm, .bool ov])
  (old : Array Value) (hg : w.heap[g]? = some (.cells old 150 (0, 0))) (hold : old.size = 6)
  (h : wpList Tryz.prog ops Q rest a (w.setRow g #[.int .i64 kd, .int .i64 st, .int .i64 en, .string tx, .int .i64 nm, .bool ov])) : wpList Tryz.prog ops Q (o :: rest) a w :=
 wpList_store_rowTo hgd _ x y ho hd g _ hx hy _ old hg tk_info hold (by simp [Value.oneCell']) h
theorem cN_le (l : List Int) : cN l ≤ l.length := by
 unfold cN
 split
 ·have := gN_le 16 (l.drop 2)
  rename_i h
  unfold hexB at h
  simp at h this
  omega
 ·exact gN_le _ _
theorem opFrom_mem (l : List Int) : ∀ (L : List ByteArray), opFrom l L = sEmpty ∨ (opFrom l L ∈ L ∧ begins l (opFrom l L) = true)
 | [] => Or.inl rfl
 | s :: L => by
  unfold opFrom
  by_cases h : begins l s = true
  ·rw [if_pos h]; exact Or.inr ⟨by simp, h⟩
  ·rw [if_neg h]
   rcases opFrom_mem l L with h | ⟨h1, h2⟩
   ·exact Or.inl h
   ·exact Or.inr ⟨by simp [h1], h2⟩
theorem opB_sz (l : List Int) : (opB l).size ≤ l.length := by
 rcases opFrom_mem l opList with h | ⟨_, h2⟩
 ·show (opFrom l opList).size ≤ _
  rw [h]; simp [sEmpty, ByteArray.size]
 ·unfold begins at h2
  simp only [Bool.and_eq_true, decide_eq_true_eq] at h2
  exact h2.1
theorem nmN_le (l : List Int) : nmN l ≤ l.length := (stopN_is _ _).1
theorem tk_nm {r : List Int} {q : Nat} (h0 : 0 < r.length) (h : 0 < nmN r) : tokL r q = ⟨3, q, q + nmN r, ofBys (r.take (nmN r)), 0, false⟩ := by
 unfold tokL; rw [if_neg (by omega), if_pos h]
theorem tk_cn {r : List Int} {q : Nat} (h0 : 0 < r.length) (h : ¬ 0 < nmN r) (hc : 0 < cN r) : tokL r q = ⟨2, q, q + cN r, sEmpty, cV r, cO r⟩ := by
 unfold tokL; rw [if_neg (by omega), if_neg h, if_pos hc]
theorem tk_op {r : List Int} {q : Nat} (h0 : 0 < r.length) (h : ¬ 0 < nmN r) (hc : ¬ 0 < cN r) (ho : ¬ opB r = sEmpty) : tokL r q = ⟨4, q, q + (opB r).size, opB r, 0, false⟩ := by
 unfold tokL; rw [if_neg (by omega), if_neg h, if_neg hc, if_pos ho]
theorem tk_no {r : List Int} {q : Nat} (h0 : 0 < r.length) (h : ¬ 0 < nmN r) (hc : ¬ 0 < cN r) (ho : opB r = sEmpty) : tokL r q = ⟨1, q, q, sEmpty, 0, false⟩ := by
 unfold tokL; rw [if_neg (by omega), if_neg h, if_neg hc, if_neg (by simpa using ho)]
set_option maxHeartbeats 4000000 in
theorem tokenAt_none (a : Option Addr) (cap : Nat) (w : World) :
  Calls Tryz.prog 93 #[.slice a 0 cap, .int .i64 0] w fun e w' => e = .returned (tok [] 0).v ∧ Below w.heap.size w w' := by
 have HT : Hid ((tok [] 0).v = .agg #[.int .i64 0, .int .i64 0, .int .i64 0, .string ⟨#[]⟩, .int .i64 0, .bool false]) := Lib.hid rfl
 go_enter Tryz.func93, Tryz.ntmps93
 go_wp2
 go_loop [1] (fun i => i = .int .i64 0) (fun _ => 0)
 case atStart => rfl
 case round =>
  obtain rfl := hrel
  cases a with
  | none =>
   go_wp2
   all_goals exact bodyPost_ret (v := .agg #[.int .i64 0, .int .i64 0, .int .i64 0, .string ⟨#[]⟩, .int .i64 0, .bool false]) (by simp [results, Tryz.results93, go_sem]) rfl ⟨by rw [HT.out], (Below.refl _ _).alloc (Nat.le_refl _) _⟩
  | some a =>
   go_wp2
   all_goals exact bodyPost_ret (v := .agg #[.int .i64 0, .int .i64 0, .int .i64 0, .string ⟨#[]⟩, .int .i64 0, .bool false]) (by simp [results, Tryz.results93, go_sem]) rfl ⟨by rw [HT.out], (Below.refl _ _).alloc (Nat.le_refl _) _⟩
set_option maxHeartbeats 4000000 in
theorem tokenAt_cells (b o cap : Nat) (l : List Int) (p : Nat) (w : World) (hl : l.length ≤ 9223372036854775807) (hcl : l.length ≤ cap) (hcm : cap ≤ 9223372036854775807) (hy : Byt l) (hc : Row w b o l) (hp : p ≤ l.length) :
  Calls Tryz.prog 93 #[.slice (some ⟨b, o, none⟩) l.length cap, .int .i64 p] w fun e w' => e = .returned (tok l p).v ∧ Below w.heap.size w w' := by
 have HC := Lib.hid hc
 have HY := Lib.hid hy
 clear hc hy
 obtain ⟨n, hn⟩ : ∃ n, n = l.length := ⟨_, rfl⟩
 rw [← hn] at hl hcl hp ⊢
 have HN := Lib.hid hn
 clear hn
 go_enter Tryz.func93, Tryz.ntmps93
 go_wp2
 have HR : Hid (∀ k, p + k < n → (w.alloc (.cells #[.int .i64 0, .int .i64 0, .int .i64 0, .string ⟨#[]⟩, .int .i64 0, .bool false] 150)).cell? ⟨b, o + (p + k), none⟩ = some (.int .u8 (l.getD (p + k) 0))) :=
  Lib.hid (fun k hk => (HC.out.below ((Below.refl _ _).alloc (Nat.le_refl _) _)) (p + k) (by rw [← HN.out]; exact hk))
 go_loop [1] (fun i => ∃ k : Nat, p + k ≤ n ∧ (∀ j, j < k → whiteB (l.getD (p + j) 0) = true) ∧ i = .int .i64 (↑(p + k) : Int)) (fun i => n - (intOf i).toNat)
 case atStart => exact ⟨0, by omega, fun j hj => absurd hj (by omega), rfl⟩
 case round =>
  obtain ⟨k, hk, hd, rfl⟩ := hrel
  have HD := Lib.hid hd
  clear hd
  by_cases hlt : p + k < n
  ·have hcell := HR.out k hlt
   have hw := isWhite_any (l.getD (p + k) 0)
   obtain ⟨x, hx⟩ : ∃ x, x = whiteB (l.getD (p + k) 0) := ⟨_, rfl⟩
   rw [← hx] at hw
   have HX := Lib.hid hx
   clear hx
   have HW := Lib.hid hw
   clear hw
   cases x with
   | true =>
    go_wp2_with (go_at_call 121; refine (HW.out _).mono ?_; rintro e w' ⟨rfl, rfl⟩)
    go_round
    case rel =>
     refine ⟨k + 1, by omega, fun j hj => ?_, by go_num⟩
     by_cases hjk : j = k
     ·rw [hjk]; exact HX.out.symm
     ·exact HD.out j (by omega)
    case measure => simp [intOf]; omega
   | false =>
    have hT0 : tok l p = tokL (l.drop (p + k)) (p + k) := tok_of (k := k) (by rw [← HN.out]; omega) HD.out (fun _ => HX.out.symm)
    have HT0 := Lib.hid hT0
    clear hT0
    have HSl : Hid (∀ W : World, Below w.heap.size w W → Sl W (.slice (some ⟨b, o + (p + k), none⟩) (n - (p + k)) (cap - (p + k))) (l.drop (p + k))) := Lib.hid (fun W hW => by
     have := Sl.drop HY.out (by rw [← HN.out]; exact hl) (by rw [← HN.out]; exact hcl) hcm (HC.out.below hW) (p + k) (by rw [← HN.out]; exact hk)
     rw [← HN.out] at this
     exact this)
    have hrl : (l.drop (p + k)).length = n - (p + k) := by rw [List.length_drop, ← HN.out]
    have HRL := Lib.hid hrl
    have HRow : Hid (∀ (W : World) (x : Nat), Below w.heap.size w W → x ≤ n - (p + k) → (convert 39 9 (.slice (some ⟨b, o + (p + k), none⟩) x (cap - (p + k)))).run Tryz.prog W = .ok (.string (ofBys ((l.drop (p + k)).take x))) W) := Lib.hid (fun W x hW hx => by
     obtain ⟨hy', hl', ⟨h0, _⟩ | ⟨b', o', cap', hv, hcl', hcm', hr'⟩⟩ := HSl.out W hW
     ·rw [h0] at hrl; simp at hrl; omega
     ·simp only [Value.slice.injEq, Option.some.injEq, Addr.mk.injEq, and_true] at hv
      obtain ⟨⟨rfl, rfl⟩, _, rfl⟩ := hv
      exact conv_string (Sl.take hy' hl' hcl' hcm' hr' x (by omega)))
    clear hrl
    have HB0 : Hid (∀ o, Below w.heap.size w (w.alloc o)) := Lib.hid (fun o => (Below.refl _ _).alloc (Nat.le_refl _) o)
    generalize l.drop (p + k) = r at *
    have hx := nmN_le r
    rw [HRL.out] at hx
    by_cases h1 : 0 < nmN r
    ·have HT : Hid (tokL r (p + k) = ⟨3, p + k, p + k + nmN r, ofBys (r.take (nmN r)), 0, false⟩) := Lib.hid (tk_nm (by rw [HRL.out]; omega) h1)
     have HN2 : Hid (∀ W v, Sl W v r → Calls Tryz.prog 80 #[v] W (fun e w' => e = .returned (.int .i64 (nmN r)) ∧ W = w')) := Lib.hid (fun W v h => nm_any v r W h)
     generalize nmN r = x at *
     have hxi : (0 : Int) < x := by omega
     have hcv := HRow.out (w.alloc (.cells #[.int .i64 0, .int .i64 0, .int .i64 0, .string ⟨#[]⟩, .int .i64 0, .bool false] 150)) x (HB0.out _) hx
     generalize ofBys (r.take x) = u at *
     go_wp2_with (first | (go_at_call 121; refine (HW.out _).mono ?_; rintro e w' ⟨rfl, rfl⟩) | (go_at_call 80; refine (HN2.out _ _ (HSl.out _ (HB0.out _))).mono ?_; rintro e w' ⟨rfl, rfl⟩))
     all_goals exact bodyPost_ret (v := .agg #[.int .i64 3, .int .i64 (↑p + ↑k), .int .i64 (↑p + ↑k + ↑x), .string u, .int .i64 0, .bool false]) (by simp [results, Tryz.results93, go_sem]) rfl ⟨by rw [HT0.out, HT.out]; simp [Tk.v], (Below.refl _ _).alloc (Nat.le_refl _) _⟩
    ·have hx0 : nmN r = 0 := by omega
     have HN2 : Hid (∀ W v, Sl W v r → Calls Tryz.prog 80 #[v] W (fun e w' => e = .returned (.int .i64 0) ∧ W = w')) := Lib.hid (fun W v h => by
      have := nm_any v r W h
      have e : stopN (nameB r) r.length = 0 := hx0
      rw [e] at this
      exact this)
     have HC2 : Hid (∀ W v, Sl W v r → Calls Tryz.prog 122 #[v] W (fun e w' => e = .returned (.tuple #[.int .i64 (cV r), .int .i64 (cN r), .bool (cO r)]) ∧ W = w')) := Lib.hid (fun W v h => const_any v r W h)
     have hcn := cN_le r
     rw [HRL.out] at hcn
     clear hx
     by_cases h2 : 0 < cN r
     ·have HT : Hid (tokL r (p + k) = ⟨2, p + k, p + k + cN r, sEmpty, cV r, cO r⟩) := Lib.hid (tk_cn (by rw [HRL.out]; omega) h1 h2)
      generalize cN r = x at *
      generalize cV r = y at *
      generalize cO r = z at *
      have hxi : (0 : Int) < x := by omega
      clear hx0 h1
      go_wp2_with (first | (go_at_call 121; refine (HW.out _).mono ?_; rintro e w' ⟨rfl, rfl⟩) | (go_at_call 80; refine (HN2.out _ _ (HSl.out _ (HB0.out _))).mono ?_; rintro e w' ⟨rfl, rfl⟩) | (go_at_call 122; refine (HC2.out _ _ (HSl.out _ (HB0.out _))).mono ?_; rintro e w' ⟨rfl, rfl⟩))
      all_goals exact bodyPost_ret (v := .agg #[.int .i64 2, .int .i64 (↑p + ↑k), .int .i64 (↑p + ↑k + ↑x), .string ⟨#[]⟩, .int .i64 y, .bool z]) (by simp [results, Tryz.results93, go_sem]) rfl ⟨by rw [HT0.out, HT.out]; simp [Tk.v, sEmpty], (Below.refl _ _).alloc (Nat.le_refl _) _⟩
     ·have hc0 : cN r = 0 := by omega
      have HO2 : Hid (∀ W v, Sl W v r → Calls Tryz.prog 123 #[v] W (fun e w' => e = .returned (.string (opB r)) ∧ Below W.heap.size W w')) := Lib.hid (fun W v h => operatorAt_any v r W h (by rw [HRL.out]; omega))
      have hos := opB_sz r
      rw [HRL.out] at hos
      by_cases h3 : opB r = sEmpty
      ·have HT : Hid (tokL r (p + k) = ⟨1, p + k, p + k, sEmpty, 0, false⟩) := Lib.hid (tk_no (by rw [HRL.out]; omega) h1 h2 h3)
       have h3' : opB r = ⟨#[]⟩ := h3
       rw [h3'] at HO2
       clear h3'
       rw [hc0] at HC2
       generalize cV r = y at *
       generalize cO r = z at *
       clear hx0 h1 h2 hc0 h3 hcn hos
       go_wp2_with (first | (go_at_call 121; refine (HW.out _).mono ?_; rintro e w' ⟨rfl, rfl⟩) | (go_at_call 80; refine (HN2.out _ _ (HSl.out _ (HB0.out _))).mono ?_; rintro e w' ⟨rfl, rfl⟩) | (go_at_call 122; refine (HC2.out _ _ (HSl.out _ (HB0.out _))).mono ?_; rintro e w' ⟨rfl, rfl⟩))
       refine (HO2.out _ _ (HSl.out _ (HB0.out _))).mono ?_
       rintro e w1 ⟨rfl, hb⟩
       have hblk := new_block w _ hb
       have HBW : Hid (Below w.heap.size w w1) := Lib.hid ((HB0.out _).trans (hb.mono (by simp)))
       clear hb
       have HBlk := Lib.hid hblk
       clear hblk
       go_wp2_with (refine wpList_store_tk rfl _ _ rfl rfl w.heap.size 1 (↑p + ↑k) (↑p + ↑k) ⟨#[]⟩ 0 false rfl rfl _ HBlk.out rfl ?_)
       exact bodyPost_ret (results_cell_row rfl _ _ w.heap.size 150 #[.int .i64 1, .int .i64 (↑p + ↑k), .int .i64 (↑p + ↑k), .string ⟨#[]⟩, .int .i64 0, .bool false] (0, 0) _ rfl (setRow_self HBlk.out _) Tryz.underlying150 rfl (by kernel_rfl)) rfl ⟨by rw [HT0.out, HT.out]; simp [Tk.v, sEmpty], below_setRow HBW.out (Nat.le_refl _) _⟩
      ·have HT : Hid (tokL r (p + k) = ⟨4, p + k, p + k + (opB r).size, opB r, 0, false⟩) := Lib.hid (tk_op (by rw [HRL.out]; omega) h1 h2 h3)
       rw [hc0] at HC2
       generalize opB r = u at *
       generalize cV r = y at *
       generalize cO r = z at *
       have hes : u.toList.isEmpty = false := by have := tl_no (l := []) h3; simpa using this
       clear hx0 h1 h2 hc0 h3 hcn
       go_wp2_with (first | (go_at_call 121; refine (HW.out _).mono ?_; rintro e w' ⟨rfl, rfl⟩) | (go_at_call 80; refine (HN2.out _ _ (HSl.out _ (HB0.out _))).mono ?_; rintro e w' ⟨rfl, rfl⟩) | (go_at_call 122; refine (HC2.out _ _ (HSl.out _ (HB0.out _))).mono ?_; rintro e w' ⟨rfl, rfl⟩))
       refine (HO2.out _ _ (HSl.out _ (HB0.out _))).mono ?_
       rintro e w1 ⟨rfl, hb⟩
       have hblk := new_block w _ hb
       have HBW : Hid (Below w.heap.size w w1) := Lib.hid ((HB0.out _).trans (hb.mono (by simp)))
       clear hb
       have HBlk := Lib.hid hblk
       clear hblk
       go_wp2_with (refine wpList_store_tk rfl _ _ rfl rfl w.heap.size 4 (↑p + ↑k) (↑p + ↑k + ↑u.size) u 0 false rfl rfl _ HBlk.out rfl ?_)
       exact bodyPost_ret (results_cell_row rfl _ _ w.heap.size 150 #[.int .i64 4, .int .i64 (↑p + ↑k), .int .i64 (↑p + ↑k + ↑u.size), .string u, .int .i64 0, .bool false] (0, 0) _ rfl (setRow_self HBlk.out _) Tryz.underlying150 rfl (by kernel_rfl)) rfl ⟨by rw [HT0.out, HT.out]; simp [Tk.v], below_setRow HBW.out (Nat.le_refl _) _⟩
  ·obtain rfl : n = p + k := by omega
   have HT : Hid ((tok l p).v = .agg #[.int .i64 0, .int .i64 (↑p + ↑k), .int .i64 (↑p + ↑k), .string ⟨#[]⟩, .int .i64 0, .bool false]) := Lib.hid (by
    rw [tok_of (k := k) (by rw [← HN.out]; omega) HD.out (fun h => absurd h (by rw [← HN.out]; omega))]
    unfold tokL
    rw [if_pos (by simp [← HN.out])]
    simp [Tk.v, sEmpty])
   go_wp2
   all_goals exact bodyPost_ret (v := .agg #[.int .i64 0, .int .i64 (↑p + ↑k), .int .i64 (↑p + ↑k), .string ⟨#[]⟩, .int .i64 0, .bool false]) (by simp [results, Tryz.results93, go_sem]) rfl ⟨by rw [HT.out], (Below.refl _ _).alloc (Nat.le_refl _) _⟩
theorem tokenAt_any (v : Value) (l : List Int) (p : Nat) (w : World) (hs : Sl w v l) (hp : p ≤ l.length) :
  Calls Tryz.prog 93 #[v, .int .i64 p] w fun e w' => e = .returned (tok l p).v ∧ Below w.heap.size w w' := by
 obtain ⟨hy, hl, ⟨rfl, a, cap, rfl⟩ | ⟨b, o, cap, rfl, hcl, hcm, hr⟩⟩ := hs
 ·obtain rfl : p = 0 := by simpa using hp
  exact tokenAt_none a cap w
 ·exact tokenAt_cells b o cap l p w hl hcl hcm hy hr hp
theorem tokenAt_ex (v : Value) (l : List Int) (p : Nat) (t : Tk) (ht : tok l p = t) (w : World) (hs : Sl w v l) (hp : p ≤ l.length) :
  Calls Tryz.prog 93 #[v, .int .i64 p] w fun e w' => e = .returned (.agg #[.int .i64 t.kind, .int .i64 t.start, .int .i64 t.stop, .string t.text, .int .i64 t.num, .bool t.over]) ∧ Below w.heap.size w w' := by
 subst ht
 exact tokenAt_any v l p w hs hp
theorem goes_end {l : List Int} {p : Nat} (h : ¬ p < l.length) : goesB l p = false := by unfold goesB; simp [h]
theorem goes_num {l : List Int} {p : Nat} (h : p < l.length) (hn : 48 ≤ l.getD p 0 ∧ l.getD p 0 ≤ 57) : goesB l p = true := by unfold goesB numB; rw [decide_eq_true hn]; simp [h]
theorem goes_nm {l : List Int} {p : Nat} (h : p < l.length) (hn : ¬ (48 ≤ l.getD p 0 ∧ l.getD p 0 ≤ 57)) : goesB l p = decide (0 < nmN (l.drop p)) := by unfold goesB numB; rw [decide_eq_false hn]; simp [h]
set_option maxHeartbeats 4000000 in
theorem goesOn_any (v : Value) (l : List Int) (p : Nat) (w : World) (hs : Sl w v l) (hp : p ≤ l.length) :
  Calls Tryz.prog 208 #[v, .int .i64 p] w fun e w' => e = .returned (.bool (goesB l p)) ∧ w = w' := by
 by_cases hlt : p < l.length
 ·obtain ⟨hy, hl, ⟨rfl, a, cap, rfl⟩ | ⟨b, o, cap, rfl, hcl, hcm, hr⟩⟩ := hs
  ·simp at hlt
  ·have hcell := hr p hlt
   have hby := hy p
   have HSl := Lib.hid (Sl.drop hy hl hcl hcm hr p hp)
   have HN2 := Lib.hid (nm_any _ _ w HSl.out)
   by_cases hn : 48 ≤ l.getD p 0 ∧ l.getD p 0 ≤ 57
   ·have HG := Lib.hid (goes_num hlt hn)
    generalize l.getD p 0 = c at *
    obtain ⟨n1, n2⟩ := hn
    clear hy hr
    generalize l.length = n at *
    go_enter Tryz.func208, Tryz.ntmps208
    go_wp2
    go_ret
    exact ⟨ret_bool HG.out.symm, rfl⟩
   ·have HG := Lib.hid (goes_nm hlt hn)
    have HN3 : Hid (Calls Tryz.prog 80 #[.slice (some ⟨b, o + p, none⟩) (l.length - p) (cap - p)] w (fun e w' => e = .returned (.int .i64 (nmN (l.drop p))) ∧ w = w')) := HN2
    clear HN2
    generalize nmN (l.drop p) = x at *
    generalize l.getD p 0 = c at *
    clear hy hr HSl
    generalize l.length = n at *
    have hp2 : p < cap := by omega
    rcases (by omega : c < 48 ∨ 57 < c) with n1 | n1
    all_goals
     try have h48 : (48 : Int) ≤ c := by omega
     rcases Nat.eq_zero_or_pos x with rfl | hx
     ·clear hn
      go_enter Tryz.func208, Tryz.ntmps208
      go_wp2_with fail
      refine HN3.out.mono ?_
      rintro e w' ⟨rfl, rfl⟩
      go_wp2
      go_ret
      exact ⟨ret_bool (by rw [HG.out]; rfl), rfl⟩
     ·have hxi : (0 : Int) < x := by omega
      clear hn
      go_enter Tryz.func208, Tryz.ntmps208
      go_wp2_with fail
      refine HN3.out.mono ?_
      rintro e w' ⟨rfl, rfl⟩
      go_wp2
      go_ret
      exact ⟨ret_bool (by rw [HG.out]; simpa using hx), rfl⟩
 ·have HG := Lib.hid (goes_end hlt)
  obtain ⟨hy, hl, ⟨rfl, a, cap, rfl⟩ | ⟨b, o, cap, rfl, hcl, hcm, hr⟩⟩ := hs
  ·obtain rfl : p = 0 := by simpa using hp
   go_enter Tryz.func208, Tryz.ntmps208
   go_wp2
   go_ret
   exact ⟨ret_bool HG.out.symm, rfl⟩
  ·obtain rfl : p = l.length := by omega
   clear hy hr
   generalize l.length = n at *
   go_enter Tryz.func208, Tryz.ntmps208
   go_wp2
   go_ret
   exact ⟨ret_bool HG.out.symm, rfl⟩
end Go.Proofs.YtkakhfkkeoceiaaGreatDoor
