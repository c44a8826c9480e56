import Derived.Test.YtkakhfkkeoceiaaGreatDoorAcAw
import Derived.RangeFuncFrom
import Derived.RangeFuncNested
import Derived.RangeFuncBound
import Derived.RangeFuncCalls
import Derived.RangeFuncLeaves
import Derived.Laws.IdiomRangeMap
import Derived.Shelf.Abstract
import Derived.Shelf.RegionOpen
import Derived.WalkKit
import Derived.OwnWalkIn
import Derived.TacticsInMore
import Derived.LoopNIn
import Derived.LoopIn
import Derived.Test.YtkakhfkkeoceiaaGreatDoorKHm
import Derived.Test.YtkakhfkkeoceiaaGreatDoorAcRn
namespace Go.Proofs.YtkakhfkkeoceiaaGreatDoor
set_option maxRecDepth 100000
open Go.RowKit Go.WideMaps Go.Maps Go.Shelf
set_option maxHeartbeats 2000000 in
theorem len64_zero (w : World) : Calls Tryz.prog 156 #[.int .u64 0] w fun e w' => e = .returned (.int .i64 0) ∧ w = w' := by
 go_enter Tryz.func156, Tryz.ntmps156
 go_wp2_with fail
 go_ret
 exact ⟨congrArg (fun x => Ending.returned (.int .i64 x)) (show wrap64 (wrap64 (Lib.len8 0)) = 0 by kernel_rfl), rfl⟩
set_option maxHeartbeats 2000000 in
theorem len_zero (w : World) : Calls Tryz.prog 112 #[.int .u64 0] w fun e w' => e = .returned (.int .i64 0) ∧ w = w' := by
 go_enter Tryz.func112, Tryz.ntmps112
 go_wp2_with (go_at_call 156; refine (len64_zero _).mono ?_; rintro e w' ⟨rfl, rfl⟩)
 go_ret
 exact ⟨rfl, rfl⟩
set_option maxHeartbeats 2000000 in
theorem ins_nil (c : Value) (w : World) : Calls Tryz.prog 147 #[.slice none 0 0, .int .i64 0, .int .i64 0, c] w fun e w' => e = .returned (.tuple #[]) ∧ w = w' := by
 go_enter Tryz.func147, Tryz.ntmps147
 go_wp2_with fail
 refine wp_loop_rounds 1 ?_
 rw [rounds_succ]
 go_wp2_with fail
 go_end0
 exact ⟨rfl, rfl⟩
set_option maxHeartbeats 2000000 in
theorem pdq_nil (c : Value) (w : World) : Calls Tryz.prog 111 #[.slice none 0 0, .int .i64 0, .int .i64 0, .int .i64 0, c] w fun e w' => e = .returned (.tuple #[]) ∧ w = w' := by
 have HI := Lib.hid ins_nil
 go_enter Tryz.func111, Tryz.ntmps111
 go_wp2_with fail
 refine wp_loop_rounds 1 ?_
 rw [rounds_succ]
 go_wp2_with fail
 refine (HI.out _ _).mono ?_
 rintro e w1 ⟨rfl, rfl⟩
 go_wp2_with fail
 refine bodyPost_ret (results_none rfl _ _ _) rfl ?_
 exact ⟨rfl, rfl⟩
set_option maxHeartbeats 2000000 in
theorem sort_nil (c : Value) (w : World) : Calls Tryz.prog 76 #[.slice none 0 0, c] w fun e w' => e = .returned (.tuple #[]) ∧ w = w' := by
 have HL := Lib.hid len_zero
 have HP := Lib.hid pdq_nil
 go_enter Tryz.func76, Tryz.ntmps76
 go_wp2_with fail
 refine (HL.out _).mono ?_
 rintro e w1 ⟨rfl, rfl⟩
 go_wp2_with fail
 refine (HP.out _ _).mono ?_
 rintro e w1 ⟨rfl, rfl⟩
 go_wp2_with fail
 go_end0
 exact ⟨rfl, rfl⟩
set_option maxHeartbeats 2000000 in
theorem values_any (m : Option Nat) (w : World) : Calls Tryz.prog 43 #[.map m] w fun e w' => e = .returned (.func (.func 77) #[] #[.pointer (some ⟨w.heap.size, 0, none⟩)]) ∧ w' = w.alloc (.cells #[.map m] 82) := by
 go_enter Tryz.func43, Tryz.ntmps43
 go_wp2_with fail
 go_ret
 exact ⟨rfl, rfl⟩
set_option maxHeartbeats 2000000 in
theorem values1_nil_in (F : Fence) (n : Nat) (hf : F.fn 77) (hro : F.round = none) (l Bm : Nat) (J : List Empty → World → Prop) (W : World) (hJ : AbidesFrom W.heap.size J)
  (hm : W.cell? ⟨Bm, 0, none⟩ = some (.map none)) (h0 : J [] W) :
  CallsIn F n Tryz.prog 77 #[.func (.yield l) #[] #[], .pointer (some ⟨Bm, 0, none⟩)] W fun e W' => (∃ v, e = .returned v) ∧ J [] W' := by
 refine callsIn_of_wp Tryz.func77 rfl hf ?_ hro
 simp only [Tryz.ntmps77, List.size_toArray, List.length_cons, List.length_nil, Nat.reduceAdd, Nat.reduceSub, Array.replicate_succ, Array.replicate_zero, List.push_toArray, List.append_toArray, List.nil_append, List.cons_append]
 have hrg := run_range_nilMap (P := Tryz.prog) W 82 9 77 Tryz.underlying82
 have hnx : ∀ ty, (Instr.next (.pointer (some ⟨W.heap.size, 0, none⟩)) false ty).run Tryz.prog (W.alloc (.mapIter none 0 #[] 0)) = _ := fun ty => run_next_nilMap _ ty 0 0 #[]
 gi_wp2
 refine wpIn_loop_rounds 1 ?_
 rw [roundsIn_succ]
 gi_wp2
 go_end0
 exact ⟨⟨_, rfl⟩, hJ [] W _ none h0 (World.grownBy_alloc W _ none) (fun r e => by cases e)⟩
theorem values_stops_nil (F : Fence) (n : Nat) (hf : F.fn 77) (hro : F.round = none) (Bm : Nat) (w : World) (hBm : Bm < w.heap.size) (hm : w.cell? ⟨Bm, 0, none⟩ = some (.map none)) :
  SeqStopsA F n Tryz.prog 77 #[.pointer (some ⟨Bm, 0, none⟩)] (fun x : Empty => x.elim) (fun _ => True) (fun _ => False) 0 w := fun l J _ W hW hJ _ _ h0 =>
 (values1_nil_in F n hf hro l Bm J W hJ ((hW.cell (p := ⟨Bm, 0, none⟩) hBm).trans hm) h0).mono fun _ _ ⟨he, hj⟩ => ⟨he, .inl ⟨[], trivial, hj⟩⟩
attribute [local go_sem] Oper.semAt_some in
set_option maxHeartbeats 2000000 in
theorem appendSeq_nil (Bm : Nat) (w : World) (hBm : Bm < w.heap.size) (hm : w.cell? ⟨Bm, 0, none⟩ = some (.map none)) : Calls Tryz.prog 110 #[.slice none 0 0, .func (.func 77) #[] #[.pointer (some ⟨Bm, 0, none⟩)]] w fun e W' => e = .returned (.slice none 0 0) ∧ Below w.heap.size w W' := by
 refine (callsIn_wide (n := 3)).1 ?_
 refine callsIn_of_wp_marks Tryz.func110 rfl trivial ?_ rfl
 simp only [Tryz.ntmps110, List.size_toArray, List.length_cons, List.length_nil, Nat.reduceAdd, Nat.reduceSub, Array.replicate_succ, Array.replicate_zero, List.push_toArray, List.append_toArray, List.nil_append, List.cons_append]
 gi_wp2
 obtain ⟨W0, hW0⟩ : ∃ W0, w.alloc (.cells #[.slice none 0 0] 22) = W0 := ⟨_, rfl⟩
 have hs0 : W0.heap.size = w.heap.size + 1 := by rw [← hW0]; simp
 have hB0 : W0.heap[w.heap.size]? = some (.cells #[.slice none 0 0] 22 (0, 0)) := by rw [← hW0]; exact World.alloc_heap_new w _
 have hBW : Below w.heap.size w W0 := by rw [← hW0]; exact (Below.refl _ w).alloc (Nat.le_refl _) _
 have hm0 : W0.cell? ⟨Bm, 0, none⟩ = some (.map none) := (hBW.cell (p := ⟨Bm, 0, none⟩) hBm).trans hm
 rw [hW0]
 refine wpIn_rangeFunc_ownF (α := Empty) rfl (by decide) (gf := 77) (lb := #[.pointer (some ⟨Bm, 0, none⟩)]) rfl trivial (enters_of Tryz.func77 (by kernel_rfl) rfl)
  (values_stops_nil Fence.wide _ trivial rfl Bm W0 (by omega) hm0) walksK_t walksK_b (Below.refl _ _) (fun x => x.elim)
  (fun _ W => W.cell? ⟨w.heap.size, 0, none⟩ = some (.slice none 0 0) ∧ Below w.heap.size w W)
  (fun _ _ _ => False)
  (OwnFrom.and (I := fun (_ : List Empty) (W : World) => W.cell? ⟨w.heap.size, 0, none⟩ = some (.slice none 0 0)) (I' := fun (_ : List Empty) W => Below w.heap.size w W) (Own.from (I := fun (_ : List Empty) (W : World) => W.cell? ⟨w.heap.size, 0, none⟩ = some (.slice none 0 0)) (fun _ A _ _ hs hg hr => _root_.Go.cell_kept (show A.cell? ⟨w.heap.size, 0, none⟩ = some (.slice none 0 0) from hs) hg hr) _) (ownFrom_below (Nat.le_refl _) (by omega)))
  (fun _ _ _ _ _ hs _ _ => hs)
  ⟨(cells1A hB0).1, hBW⟩
  (fun x => x.elim) ?assign ?body ?done ?stop
 case assign => intro l x; exact x.elim
 case body => intro l pre x; exact x.elim
 case done =>
  rintro D xs W hD _ ⟨hc, hB⟩ hK
  gi_wp2
  refine ⟨by simp, .inl ⟨_, _, rfl, run_takeDeferred hK, ?_⟩⟩
  refine ⟨.slice none 0 0, ?_, rfl, hB.trans (belowK_b (w := w) (Nat.le_refl _) _ D _ _ (by omega) hK rfl rfl)⟩
  simp [results, Tryz.f110, go_sem]
 case stop =>
  rintro D c pre W _ hF _ _
  exact hF.elim
set_option maxHeartbeats 2000000 in
theorem collect_nil (Bm : Nat) (w : World) (hBm : Bm < w.heap.size) (hm : w.cell? ⟨Bm, 0, none⟩ = some (.map none)) : Calls Tryz.prog 75 #[.func (.func 77) #[] #[.pointer (some ⟨Bm, 0, none⟩)]] w fun e W' => e = .returned (.slice none 0 0) ∧ Below w.heap.size w W' := by
 have HA := Lib.hid (appendSeq_nil Bm w hBm hm)
 clear hBm hm
 go_enter Tryz.func75, Tryz.ntmps75
 go_wp2_with fail
 refine HA.out.mono ?_
 rintro e w1 ⟨rfl, hb1⟩
 have HB1 := Lib.hid hb1
 clear hb1
 go_wp2_with fail
 go_ret
 exact ⟨rfl, HB1.out⟩
set_option maxHeartbeats 2000000 in
theorem sorted_nil (Bm : Nat) (c : Value) (w : World) (hBm : Bm < w.heap.size) (hm : w.cell? ⟨Bm, 0, none⟩ = some (.map none)) : Calls Tryz.prog 42 #[.func (.func 77) #[] #[.pointer (some ⟨Bm, 0, none⟩)], c] w fun e W' => e = .returned (.slice none 0 0) ∧ Below w.heap.size w W' := by
 have HA := Lib.hid (collect_nil Bm w hBm hm)
 have HS := Lib.hid sort_nil
 clear hBm hm
 go_enter Tryz.func42, Tryz.ntmps42
 go_wp2_with fail
 refine HA.out.mono ?_
 rintro e w1 ⟨rfl, hb1⟩
 have HB1 := Lib.hid hb1
 clear hb1
 go_wp2_with fail
 refine (HS.out _ _).mono ?_
 rintro e w2 ⟨rfl, rfl⟩
 go_wp2_with fail
 go_ret
 exact ⟨rfl, HB1.out⟩
set_option maxHeartbeats 2000000 in
theorem list_new (vb : Nat) (w : World) (hv : w.heap[vb]? = some (.cells #[.map none] 84 (0, 0))) : Calls Tryz.prog 14 #[.pointer (some ⟨vb, 0, none⟩)] w fun e w' => e = .returned (.slice none 0 0) ∧ Below w.heap.size w w' := by
 have HV := Lib.hid values_any
 have HS : Hid (∀ (c : Value), Calls Tryz.prog 42 #[.func (.func 77) #[] #[.pointer (some ⟨w.heap.size, 0, none⟩)], c] (w.alloc (.cells #[.map none] 82)) fun e W' => e = .returned (.slice none 0 0) ∧ Below (w.heap.size + 1) (w.alloc (.cells #[.map none] 82)) W') :=
  Lib.hid (fun c => by
   have h := sorted_nil w.heap.size c (w.alloc (.cells #[.map none] 82)) (by simp) (cells1A (World.alloc_heap_new w _)).1
   simpa using h)
 obtain ⟨c0, _, hz⟩ := cells1A hv
 clear hv
 go_enter Tryz.func14, Tryz.ntmps14
 go_wp2_with fail
 refine (HV.out _ _).mono ?_
 rintro e w1 ⟨rfl, rfl⟩
 go_wp2_with fail
 refine (HS.out _).mono ?_
 rintro e w2 ⟨rfl, hb2⟩
 have HB2 := Lib.hid hb2
 clear hb2
 go_wp2_with fail
 go_ret
 exact ⟨rfl, ((Below.refl _ w).alloc (Nat.le_refl _) _).trans (HB2.out.mono (by omega))⟩
end Go.Proofs.YtkakhfkkeoceiaaGreatDoor
namespace Go.Proofs.YtkakhfkkeoceiaaGreatDoor
set_option maxRecDepth 100000
open Go.RowKit
def nmB (s : ByteArray) : Bool := decide (¬ s = sEmpty) && decide (nmN (bys s) = s.size)
theorem nmB_ok {s : ByteArray} (h : nmB s = true) : NmOk s := by
 show _ ∧ _
 simpa [nmB] using h
set_option maxHeartbeats 4000000 in
theorem isName_any (s : ByteArray) (w : World) (hl : s.size ≤ 9223372036854775807) : Calls Tryz.prog 17 #[.string s] w fun e w' => e = .returned (.bool (nmB s)) ∧ Below w.heap.size w w' := by
 by_cases hE : s = sEmpty
 ·obtain rfl : s = ⟨#[]⟩ := hE
  have HF : nmB ⟨#[]⟩ = false := rfl
  rw [HF]
  go_enter Tryz.func17, Tryz.ntmps17
  go_wp2_with fail
  go_ret
  exact ⟨rfl, Below.refl _ _⟩
 ·obtain ⟨cap, W1, hconv, hrow, hbel⟩ := conv_sl w s hl
  have HN := Lib.hid (refName_any _ (bys s) W1 hrow)
  have tn := tl_no (l := []) hE
  have HE : nmB s = decide (nmN (bys s) = s.size) := by unfold nmB; rw [decide_eq_true hE, Bool.true_and]
  rw [HE]
  have HB := Lib.hid hbel
  clear hrow hbel
  go_enter Tryz.func17, Tryz.ntmps17
  go_wp2_with fail
  refine HN.out.mono ?_
  rintro e w2 ⟨rfl, rfl⟩
  go_wp2_with fail
  go_ret
  exact ⟨ret_bool (by rw [Bool.eq_iff_iff, beq_iff_eq, decide_eq_true_iff]; omega), HB.out⟩
set_option maxHeartbeats 4000000 in
theorem in4_any (v : Value) (l : List Int) (w : World) (hs : Sl w v l) (hl : l.length ≤ 1000) : Calls Tryz.prog 38 #[v] w fun e w' => e = .returned (.string (⟨#[40]⟩ ++ ofBys l ++ ⟨#[41]⟩)) ∧ w = w' := by
 have hconv := conv_string hs
 have hsz := ofBys_size l
 have hs2 : (⟨#[40]⟩ ++ ofBys l : ByteArray).size = 1 + l.length := by rw [ByteArray.size_append, hsz]; rfl
 clear hs
 generalize ofBys l = x at *
 go_enter Tryz.func38, Tryz.ntmps38
 go_wp2_with fail
 all_goals first
  | (exfalso; omega)
  | (go_ret; exact ⟨rfl, rfl⟩)
end Go.Proofs.YtkakhfkkeoceiaaGreatDoor
namespace Go.Proofs.YtkakhfkkeoceiaaGreatDoor
set_option maxRecDepth 100000
open Go.RowKit Go.WideMaps Go.Maps
theorem bys_app (x y : ByteArray) : bys (x ++ y) = bys x ++ bys y := by
 unfold bys
 rw [ByteArray.data_append, Array.toList_append, List.map_append]
theorem half_eval (str : ByteArray) (L : List Int) (n : Nat) (t : Tr) (k : Tk) (x : Int) (vb : Nat) (s : Nat → Addr) (w : World) (hL : bys str = L) (hsz : str.size ≤ 2000) (hp : parseP L n = some (.ok t k)) (hev : ev NV0 t [] = .ok x []) (hs : Er w s) (hT : TP w) (hv : w.heap[vb]? = some (.cells #[.map none] 84 (0, 0))) :
  ∃ z cap W2, (convert 9 39 (.string str)).run Tryz.prog w = .ok (.slice (some ⟨w.heap.size, 0, none⟩) z cap) W2 ∧ Calls Tryz.prog 23 #[.slice (some ⟨w.heap.size, 0, none⟩) z cap, .pointer (some ⟨vb, 0, none⟩)] W2 fun e w' => e = .returned (.tuple #[.int .i64 x, .nilIface]) ∧ Below w.heap.size w w' := by
 obtain ⟨cap, W2, hconv, hrow, hbel⟩ := conv_sl w str (by omega)
 rw [hL] at hrow
 refine ⟨_, cap, W2, hconv, ?_⟩
 refine (eval_ok _ L n t k _ W2 (fun _ => ⟨#[]⟩) NV0 s hp (hL ▸ bys_byt str) hrow (hs.below hbel) (hT.below hbel) (fun W hW => env_new vb W (blk_belowA (blk_belowA hv hbel) hW)) _ hev (by simp) (Or.inr fun x e h => by cases h; rfl)).mono ?_
 rintro e w' ⟨he, hb⟩
 exact ⟨he, hbel.trans (hb.mono hbel.size)⟩
set_option maxHeartbeats 4000000 in
theorem half_noname (v : Value) (l : List Int) (nm : ByteArray) (s : Nat → Addr) (w : World) (hl : Sl w v l) (hnl : nm.size ≤ 9223372036854775807) (hs : Er w s) (hT : TP w) (hno : nmB nm = false) :
  Calls Tryz.prog 10 #[v, .string nm] w fun e w' => e = .returned (.bool true) ∧ Below w.heap.size w w' := by
 have HIN := Lib.hid (isName_any nm w hnl)
 rw [hno] at HIN
 obtain ⟨oa, cap, rfl⟩ := esl_parts hl
 have HS := Lib.hid hs
 have HT := Lib.hid hT
 clear hl hs hT hno
 go_enter Tryz.func10, Tryz.ntmps10
 go_wp2_with fail
 refine HIN.out.mono ?_
 rintro e w1 ⟨rfl, hb1⟩
 have HB1 := Lib.hid hb1
 clear hb1
 go_wp2_with fail
 refine (awake4_any s w1 (HS.out.below HB1.out) (HT.out.below HB1.out)).mono ?_
 rintro e w2 ⟨rfl, hb2⟩
 have HB2 := Lib.hid (HB1.out.trans (hb2.mono HB1.out.size))
 clear hb2
 go_wp2_with fail
 go_ret
 exact ⟨rfl, HB2.out⟩
set_option maxHeartbeats 4000000 in
theorem half_long (v : Value) (l : List Int) (nm : ByteArray) (s : Nat → Addr) (w : World) (hl : Sl w v l) (hnl : nm.size ≤ 9223372036854775807) (hs : Er w s) (hT : TP w) (hno : nmB nm = true) (hlong : 100 < nm.size ∨ (nm.size ≤ 100 ∧ 300 < l.length)) :
  Calls Tryz.prog 10 #[v, .string nm] w fun e w' => e = .returned (.bool true) ∧ Below w.heap.size w w' := by
 have HIN := Lib.hid (isName_any nm w hnl)
 rw [hno] at HIN
 obtain ⟨oa, cap, rfl⟩ := esl_parts hl
 have HS := Lib.hid hs
 have HT := Lib.hid hT
 clear hl hs hT hno
 generalize l.length = y at *
 rcases hlong with h1 | ⟨h1, h2⟩
 ·have h1' : (100 : Int) < nm.size := by omega
  clear h1
  go_enter Tryz.func10, Tryz.ntmps10
  go_wp2_with fail
  refine HIN.out.mono ?_
  rintro e w1 ⟨rfl, hb1⟩
  have HB1 := Lib.hid hb1
  clear hb1
  go_wp2_with fail
  refine (awake4_any s w1 (HS.out.below HB1.out) (HT.out.below HB1.out)).mono ?_
  rintro e w2 ⟨rfl, hb2⟩
  have HB2 := Lib.hid (HB1.out.trans (hb2.mono HB1.out.size))
  clear hb2
  go_wp2_with fail
  go_ret
  exact ⟨rfl, HB2.out⟩
 ·have h1' : ¬ (100 : Int) < nm.size := by omega
  have h2' : (300 : Int) < y := by omega
  clear h1 h2
  go_enter Tryz.func10, Tryz.ntmps10
  go_wp2_with fail
  refine HIN.out.mono ?_
  rintro e w1 ⟨rfl, hb1⟩
  have HB1 := Lib.hid hb1
  clear hb1
  go_wp2_with fail
  refine (awake4_any s w1 (HS.out.below HB1.out) (HT.out.below HB1.out)).mono ?_
  rintro e w2 ⟨rfl, hb2⟩
  have HB2 := Lib.hid (HB1.out.trans (hb2.mono HB1.out.size))
  clear hb2
  go_wp2_with fail
  go_ret
  exact ⟨rfl, HB2.out⟩
set_option maxHeartbeats 4000000 in
theorem half_bad (v : Value) (l : List Int) (nm : ByteArray) (s : Nat → Addr) (w : World) (hl : Sl w v l) (hnl : nm.size ≤ 100) (hll : l.length ≤ 300) (hs : Er w s) (hT : TP w) (hno : nmB nm = true) (n c p : Nat) (hp : parseP l n = some (.bad c p)) :
  Calls Tryz.prog 10 #[v, .string nm] w fun e w' => e = .returned (.bool true) ∧ Below w.heap.size w w' := by
 have HIN := Lib.hid (isName_any nm w (by omega))
 rw [hno] at HIN
 have HPA : Hid (∀ X, Below w.heap.size w X → Calls Tryz.prog 28 #[v] X fun x w' => (∃ pv, x = .returned (.tuple #[.pointer none, .iface 96 pv]) ∧ ErrAt w' s c p (.iface 96 pv)) ∧ Below X.heap.size X w') := Lib.hid (fun X hX => eparse_bad v l n c p s X hp (hl.below hX) (hs.below hX))
 obtain ⟨oa, cap, rfl⟩ := esl_parts hl
 have HS := Lib.hid hs
 have HT := Lib.hid hT
 clear hl hs hT hno hp
 generalize l.length = y at *
 have h1' : ¬ (100 : Int) < nm.size := by omega
 have h2' : ¬ (300 : Int) < y := by omega
 clear hnl hll
 go_enter Tryz.func10, Tryz.ntmps10
 go_wp2_with fail
 refine HIN.out.mono ?_
 rintro e w1 ⟨rfl, hb1⟩
 have HB1 := Lib.hid hb1
 clear hb1
 go_wp2_with fail
 refine (HPA.out w1 HB1.out).mono ?_
 rintro e w2 ⟨⟨pv, rfl, _⟩, hb2⟩
 have HB2 := Lib.hid (HB1.out.trans (hb2.mono HB1.out.size))
 clear hb2
 go_wp2_with fail
 refine (awake4_any s w2 (HS.out.below HB2.out) (HT.out.below HB2.out)).mono ?_
 rintro e w3 ⟨rfl, hb3⟩
 have HB3 := Lib.hid (HB2.out.trans (hb3.mono HB2.out.size))
 clear hb3
 go_wp2_with fail
 go_ret
 exact ⟨rfl, HB3.out⟩
end Go.Proofs.YtkakhfkkeoceiaaGreatDoor
namespace Go.Proofs.YtkakhfkkeoceiaaGreatDoor
set_option maxRecDepth 100000
open Go.RowKit Go.WideMaps Go.Maps
def inS (l : List Int) : ByteArray := ⟨#[40]⟩ ++ ofBys l ++ ⟨#[41]⟩
def pS (nm : ByteArray) (l : List Int) : ByteArray := ⟨#[40, 49, 47, 48, 43, 40]⟩ ++ nm ++ ⟨#[61, 53, 41, 43]⟩ ++ inS l ++ ⟨#[41]⟩
theorem inS_size (l : List Int) : (inS l).size = l.length + 2 := by
 unfold inS
 rw [ByteArray.size_append, ByteArray.size_append, ofBys_size]
 show 1 + l.length + 1 = _
 omega
theorem pS_size (nm : ByteArray) (l : List Int) : (pS nm l).size = nm.size + l.length + 13 := by
 unfold pS
 rw [ByteArray.size_append, ByteArray.size_append, ByteArray.size_append, ByteArray.size_append, inS_size]
 show 6 + nm.size + 4 + (l.length + 2) + 1 = _
 omega
theorem pS_bys (nm : ByteArray) {l : List Int} (h : Byt l) : bys (pS nm l) = hP nm l := by
 unfold pS inS
 simp only [bys_app, bys_ofBys h]
 simp [hP, hM, bys]
set_option maxHeartbeats 16000000 in
theorem half_ok (v : Value) (l : List Int) (nm : ByteArray) (s : Nat → Addr) (w : World) (hl : Sl w v l) (hnl : nm.size ≤ 100) (hll : l.length ≤ 300) (hs : Er w s) (hT : TP w) (hno : nmB nm = true) (n : Nat) (t : Tr) (tk : Tk) (hp : parseP l n = some (.ok t tk)) :
  Calls Tryz.prog 10 #[v, .string nm] w fun e w' => e = .returned (.bool true) ∧ Below w.heap.size w w' := by
 have hn := nmB_ok hno
 have HIN := Lib.hid (isName_any nm w (by omega))
 rw [hno] at HIN
 have HPA : Hid (∀ X, Below w.heap.size w X → Calls Tryz.prog 28 #[v] X fun x w' => (∃ E, x = .returned (.tuple #[.pointer (some ⟨E, 0, none⟩), .nilIface]) ∧ ExAt w' E t) ∧ Below X.heap.size X w') := Lib.hid (fun X hX => eparse_ok v l n t tk s X hp (hl.below hX) (hs.below hX))
 have HII : Hid (∀ X, Below w.heap.size w X → Calls Tryz.prog 38 #[v] X fun e w' => e = .returned (.string (inS l)) ∧ X = w') := Lib.hid (fun X hX => in4_any v l X (hl.below hX) (by omega))
 have HEV : Hid (∀ (str : ByteArray) (L : List Int) (n : Nat) (t : Tr) (k : Tk) (x : Int) (vb : Nat) (X : World), Below w.heap.size w X → bys str = L → str.size ≤ 2000 → parseP L n = some (.ok t k) → ev NV0 t [] = .ok x [] → X.heap[vb]? = some (.cells #[.map none] 84 (0, 0)) →
   ∃ z cap W2, (convert 9 39 (.string str)).run Tryz.prog X = .ok (.slice (some ⟨X.heap.size, 0, none⟩) z cap) W2 ∧ Calls Tryz.prog 23 #[.slice (some ⟨X.heap.size, 0, none⟩) z cap, .pointer (some ⟨vb, 0, none⟩)] W2 fun e w' => e = .returned (.tuple #[.int .i64 x, .nilIface]) ∧ Below X.heap.size X w') :=
  Lib.hid (fun str L n t k x vb X hX hL hz hp' hev hv => half_eval str L n t k x vb s X hL hz hp' hev (hs.below hX) (hT.below hX) hv)
 have hsp := pS_size nm l
 have hbp := pS_bys nm hl.1
 obtain ⟨kA, XA, qA, pA, tA, hA⟩ := half_two hn hp (by omega) 0 38 ⟨#[38, 38]⟩ (by omega) (mem_ex (by decide)) (by decide) rfl
 obtain ⟨kB, XB, qB, pB, tB, hB⟩ := half_two hn hp (by omega) 1 124 ⟨#[124, 124]⟩ (by omega) (mem_ex (by decide)) (by decide) rfl
 obtain ⟨kC, XC, qC, pC, p2C, tC, hC⟩ := half_c hn hp (by omega)
 obtain ⟨kD, XD, qD, pD, p2D, tD, hD⟩ := half_d hn hp (by omega)
 have HEA : Hid (∀ vb X, Below w.heap.size w X → X.heap[vb]? = some (.cells #[.map none] 84 (0, 0)) → ∃ z cap W2, (convert 9 39 (.string (⟨#[48, 32, 38, 38, 32]⟩ ++ pS nm l))).run Tryz.prog X = .ok (.slice (some ⟨X.heap.size, 0, none⟩) z cap) W2 ∧ Calls Tryz.prog 23 #[.slice (some ⟨X.heap.size, 0, none⟩) z cap, .pointer (some ⟨vb, 0, none⟩)] W2 fun e w' => e = .returned (.tuple #[.int .i64 0, .nilIface]) ∧ Below X.heap.size X w') :=
  Lib.hid (fun vb X hX hv => HEV.out _ _ kA _ tA 0 vb X hX (by rw [bys_app, hbp]; rfl) (by rw [ByteArray.size_append, hsp]; show 5 + _ ≤ _; omega) hA (by simp [ev, Rv.then, sAnd2]) hv)
 have HEB : Hid (∀ vb X, Below w.heap.size w X → X.heap[vb]? = some (.cells #[.map none] 84 (0, 0)) → ∃ z cap W2, (convert 9 39 (.string (⟨#[49, 32, 124, 124, 32]⟩ ++ pS nm l))).run Tryz.prog X = .ok (.slice (some ⟨X.heap.size, 0, none⟩) z cap) W2 ∧ Calls Tryz.prog 23 #[.slice (some ⟨X.heap.size, 0, none⟩) z cap, .pointer (some ⟨vb, 0, none⟩)] W2 fun e w' => e = .returned (.tuple #[.int .i64 1, .nilIface]) ∧ Below X.heap.size X w') :=
  Lib.hid (fun vb X hX hv => HEV.out _ _ kB _ tB 1 vb X hX (by rw [bys_app, hbp]; rfl) (by rw [ByteArray.size_append, hsp]; show 5 + _ ≤ _; omega) hB (by simp [ev, Rv.then, sAnd2, sOr2]) hv)
 have HEC : Hid (∀ vb X, Below w.heap.size w X → X.heap[vb]? = some (.cells #[.map none] 84 (0, 0)) → ∃ z cap W2, (convert 9 39 (.string (⟨#[49, 32, 63, 32, 55, 32, 58, 32]⟩ ++ pS nm l))).run Tryz.prog X = .ok (.slice (some ⟨X.heap.size, 0, none⟩) z cap) W2 ∧ Calls Tryz.prog 23 #[.slice (some ⟨X.heap.size, 0, none⟩) z cap, .pointer (some ⟨vb, 0, none⟩)] W2 fun e w' => e = .returned (.tuple #[.int .i64 7, .nilIface]) ∧ Below X.heap.size X w') :=
  Lib.hid (fun vb X hX hv => HEV.out _ _ kC _ tC 7 vb X hX (by rw [bys_app, hbp]; rfl) (by rw [ByteArray.size_append, hsp]; show 8 + _ ≤ _; omega) hC (by simp [ev, Rv.then]) hv)
 have HED : Hid (∀ vb X, Below w.heap.size w X → X.heap[vb]? = some (.cells #[.map none] 84 (0, 0)) → ∃ z cap W2, (convert 9 39 (.string (⟨#[48, 32, 63, 32]⟩ ++ pS nm l ++ ⟨#[32, 58, 32, 56]⟩))).run Tryz.prog X = .ok (.slice (some ⟨X.heap.size, 0, none⟩) z cap) W2 ∧ Calls Tryz.prog 23 #[.slice (some ⟨X.heap.size, 0, none⟩) z cap, .pointer (some ⟨vb, 0, none⟩)] W2 fun e w' => e = .returned (.tuple #[.int .i64 8, .nilIface]) ∧ Below X.heap.size X w') :=
  Lib.hid (fun vb X hX hv => HEV.out _ _ kD _ tD 8 vb X hX (by rw [bys_app, bys_app, hbp, List.append_assoc]; rfl) (by rw [ByteArray.size_append, ByteArray.size_append, hsp]; show 4 + _ + 4 ≤ _; omega) hD (by simp [ev, Rv.then]) hv)
 have s1 : (⟨#[40, 49, 47, 48, 43, 40]⟩ ++ nm : ByteArray).size = 6 + nm.size := by rw [ByteArray.size_append]; rfl
 have s2 : (⟨#[40, 49, 47, 48, 43, 40]⟩ ++ nm ++ ⟨#[61, 53, 41, 43]⟩ : ByteArray).size = 10 + nm.size := by rw [ByteArray.size_append, s1]; show 6 + nm.size + 4 = _; omega
 have s3 : (⟨#[40, 49, 47, 48, 43, 40]⟩ ++ nm ++ ⟨#[61, 53, 41, 43]⟩ ++ inS l : ByteArray).size = 12 + nm.size + l.length := by rw [ByteArray.size_append, s2, inS_size]; omega
 have s4 : (⟨#[48, 32, 63, 32]⟩ ++ pS nm l : ByteArray).size = nm.size + l.length + 17 := by rw [ByteArray.size_append, hsp]; show 4 + _ = _; omega
 have si := inS_size l
 have HPS : Hid (⟨#[40, 49, 47, 48, 43, 40]⟩ ++ nm ++ ⟨#[61, 53, 41, 43]⟩ ++ inS l ++ ⟨#[41]⟩ = pS nm l) := rfl
 have HNW := Lib.hid new_var
 have HLI := Lib.hid list_new
 obtain ⟨oa, cap, rfl⟩ := esl_parts hl
 have HS := Lib.hid hs
 have HT := Lib.hid hT
 clear hl hs hT hno hp hn hA hB hC hD hbp HEV
 generalize pS nm l = pp at *
 generalize inS l = ii at *
 generalize l.length = y at *
 have h1' : ¬ (100 : Int) < nm.size := by omega
 have h2' : ¬ (300 : Int) < y := by omega
 go_enter Tryz.func10, Tryz.ntmps10
 go_wp2_with fail
 refine HIN.out.mono ?_
 rintro e w1 ⟨rfl, hb1⟩
 have HB1 := Lib.hid hb1
 clear hb1
 go_wp2_with fail
 refine (HPA.out w1 HB1.out).mono ?_
 rintro e w2 ⟨⟨E, rfl, _⟩, hb2⟩
 have HB2 := Lib.hid (HB1.out.trans (hb2.mono HB1.out.size))
 clear hb2
 go_wp2_with fail
 refine (HNW.out w2).mono ?_
 rintro e w3 ⟨rfl, hv, hb3⟩
 have HB3 := Lib.hid (HB2.out.trans (hb3.mono HB2.out.size))
 generalize w2.heap.size = vb at *
 have HV3 := Lib.hid hv
 clear hb3 hv
 go_wp2_with fail
 all_goals try (exfalso; omega)
 refine (HII.out w3 HB3.out).mono ?_
 rintro e w4 ⟨rfl, rfl⟩
 go_upto_region 8 with fail
 all_goals try (exfalso; omega)
 rw [HPS.out]
 obtain ⟨z1, c1, X1, hcv, hcall⟩ := HEA.out vb w3 HB3.out HV3.out
 have HC1 := Lib.hid hcall
 clear hcall
 go_wp2_with fail
 all_goals try (exfalso; omega)
 refine HC1.out.mono ?_
 rintro e w4 ⟨rfl, hb4⟩
 have HB4 := Lib.hid (HB3.out.trans (hb4.mono HB3.out.size))
 have HV4 := Lib.hid (blk_belowA HV3.out hb4)
 clear hb4 hcv HC1
 obtain ⟨z2, c2, X2, hcv, hcall⟩ := HEB.out vb w4 HB4.out HV4.out
 have HC1 := Lib.hid hcall
 clear hcall
 go_wp2_with fail
 all_goals try (exfalso; omega)
 refine HC1.out.mono ?_
 rintro e w5 ⟨rfl, hb5⟩
 have HB5 := Lib.hid (HB4.out.trans (hb5.mono HB4.out.size))
 have HV5 := Lib.hid (blk_belowA HV4.out hb5)
 clear hb5 hcv HC1
 obtain ⟨z3, c3, X3, hcv, hcall⟩ := HEC.out vb w5 HB5.out HV5.out
 have HC1 := Lib.hid hcall
 clear hcall
 go_wp2_with fail
 all_goals try (exfalso; omega)
 refine HC1.out.mono ?_
 rintro e w6 ⟨rfl, hb6⟩
 have HB6 := Lib.hid (HB5.out.trans (hb6.mono HB5.out.size))
 have HV6 := Lib.hid (blk_belowA HV5.out hb6)
 clear hb6 hcv HC1
 obtain ⟨z4, c4, X4, hcv, hcall⟩ := HED.out vb w6 HB6.out HV6.out
 have HC1 := Lib.hid hcall
 clear hcall
 go_wp2_with fail
 all_goals try (exfalso; omega)
 refine HC1.out.mono ?_
 rintro e w7 ⟨rfl, hb7⟩
 have HB7 := Lib.hid (HB6.out.trans (hb7.mono HB6.out.size))
 have HV7 := Lib.hid (blk_belowA HV6.out hb7)
 clear hb7 hcv HC1
 go_wp2_with fail
 refine (HLI.out vb w7 HV7.out).mono ?_
 rintro e w8 ⟨rfl, hb8⟩
 have HB8 := Lib.hid (HB7.out.trans (hb8.mono HB7.out.size))
 clear hb8
 go_wp2_with fail
 refine (awake4_any s w8 (HS.out.below HB8.out) (HT.out.below HB8.out)).mono ?_
 rintro e w9 ⟨rfl, hb9⟩
 have HB9 := Lib.hid (HB8.out.trans (hb9.mono HB8.out.size))
 clear hb9
 go_wp2_with fail
 go_ret
 exact ⟨rfl, HB9.out⟩
theorem arithHalf_any (v : Value) (l : List Int) (nm : ByteArray) (s : Nat → Addr) (w : World) (hl : Sl w v l) (hnl : nm.size ≤ 9223372036854775807) (hs : Er w s) (hT : TP w) :
  Calls Tryz.prog 10 #[v, .string nm] w fun e w' => e = .returned (.bool true) ∧ Below w.heap.size w w' := by
 cases hno : nmB nm
 ·exact half_noname v l nm s w hl hnl hs hT hno
 by_cases h1 : 100 < nm.size
 ·exact half_long v l nm s w hl hnl hs hT hno (Or.inl h1)
 by_cases h2 : 300 < l.length
 ·exact half_long v l nm s w hl hnl hs hT hno (Or.inr ⟨by omega, h2⟩)
 obtain ⟨r, hr⟩ := parseP_some l
 cases r with
 | ok t k => exact half_ok v l nm s w hl (by omega) (by omega) hs hT hno _ t k hr
 | bad c p => exact half_bad v l nm s w hl (by omega) (by omega) hs hT hno _ c p hr
end Go.Proofs.YtkakhfkkeoceiaaGreatDoor
