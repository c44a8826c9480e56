/- KRe: several texts in one (kmerge.py). -/
import Derived.Test.YtacfglopionkfaaGreatDoorRaD
/- The reference's reader of arithmetic: cond (gen_rae.py). -/
namespace Go.Proofs.YtacfglopionkfaaGreatDoor
open Go.RowKit

theorem Kp.blk2 {rb : Nat} {w W : World} {g h : Nat} {o o' : Obj} {L : List (Nat × Obj)} (k : Kp rb w W ((g, o) :: (h, o') :: L)) : W.heap[h]? = some o' := k.at (List.mem_cons_of_mem _ (List.mem_cons_self ..))
theorem Kp.blk3 {rb : Nat} {w W : World} {g h i : Nat} {o o' o2 : Obj} {L : List (Nat × Obj)} (k : Kp rb w W ((g, o) :: (h, o') :: (i, o2) :: L)) : W.heap[i]? = some o2 := k.at (List.mem_cons_of_mem _ (List.mem_cons_of_mem _ (List.mem_cons_self ..)))
theorem Kp.blk4 {rb : Nat} {w W : World} {g h i j : Nat} {o o' o2 o3 : Obj} {L : List (Nat × Obj)} (k : Kp rb w W ((g, o) :: (h, o') :: (i, o2) :: (j, o3) :: L)) : W.heap[j]? = some o3 := k.at (List.mem_cons_of_mem _ (List.mem_cons_of_mem _ (List.mem_cons_of_mem _ (List.mem_cons_self ..))))
theorem que_op : sQue ∈ opList := mem_ex (by decide)
theorem col_op : sCol ∈ opList := mem_ex (by decide)
theorem open_op : sOpen ∈ opList := mem_ex (by decide)
theorem shut_op : sShut ∈ opList := mem_ex (by decide)
/-- A token that is a sign ends behind it. -/
theorem sg_next (l : List Int) (k : Nat) (h : ¬ sgB l k = sEmpty) : (tok l k).stop = skipN l k + (sgB l k).size ∧ (tok l k).start = skipN l k := by
  rcases tok_cases l k with ⟨_, e, s⟩ | ⟨_, _, e, s⟩ | ⟨_, _, e, s⟩ | ⟨_, _, s, e⟩ | ⟨_, _, s, _, e⟩
  · exact absurd s h
  · exact absurd s h
  · exact absurd s h
  · rw [e]; exact ⟨rfl, rfl⟩
  · exact absurd s h
theorem RaS.rowN {l : List Int} {bv : Value} {rb k c q : Nat} {w w' : World} (h : RaS l bv rb k c q w') (hs : Sl w bv l) (hc : Ch rb w w') (hr : rb < w.heap.size) {g : Nat} (hg : w.heap.size ≤ g) (x : Array Value) : RaS l bv rb k c q (w'.setRow g x) := h.rowNew (fun _ => hs) hc hr hg x
theorem Tr.In.rowN {w : World} {lo lo0 : Nat} {t : Tr} {kv : Value} (h : t.In w lo kv) {g : Nat} (hg : g < lo) (hlo : lo0 ≤ lo) (x : Array Value) : t.In (w.setRow g x) lo0 kv := (h.setRow hg x).mono hlo _ _

set_option maxRecDepth 100000 in
set_option maxHeartbeats 8000000 in
theorem ra_cond_bad {l : List Int} {bv : Value} {rb n k : Nat} {w : World} (ih : RaC l bv rb n) {c q : Nat} (hb1 : rd l n (.bin 1) (tok l k) = some (.bad c q)) (h : RaS l bv rb k 0 0 w) (hk : k ≤ l.length) :
    Calls Tryz.prog 77 #[.pointer (some ⟨rb, 0, none⟩)] w fun e w' => RaO l bv rb (n + 1) w.heap.size (.bad c q) e w' ∧ Ch rb w w' := by

  have hrw := h.lt
  have hll := h.len
  have HS := Lib.hid h.sl
  have HAP := Lib.hid h.ap
  obtain ⟨W, hW⟩ : ∃ W, W = w.alloc zrO := ⟨_, rfl⟩
  have HB0 : Hid (Below w.heap.size w W) := Lib.hid (by rw [hW]; exact (Below.refl _ _).alloc (Nat.le_refl _) _)
  have HK0 : Hid (Kp rb w W [(w.heap.size, zrO)]) := Lib.hid (by rw [hW]; exact Kp.start rb w hrw zrO)
  have hW0 : w.heap.size < W.heap.size := by rw [hW]; simp
  have HBN := Lib.hid (ih.bin 1 k _ W hb1 (Nat.le_refl _) (by omega) (h.next HB0.out) hk)
  have HWE := Lib.hid hW
  clear hW h hb1
  unfold zrO at HWE
  go_enter Tryz.func77, Tryz.ntmps77
  go_upto_region 1 with fail
  rw [← HWE.out]
  go_wp2_with fail
  refine HBN.out.mono ?_
  rintro x w1 ⟨⟨ya, oa, na, rfl, hq1⟩, hc1⟩
  have K1 := Lib.hid (HK0.out.next hrw hc1)
  have HQ1 := Lib.hid hq1
  have H1S := Lib.hid (lt_of_heap K1.out.blk1)
  have K1a := Lib.hid (K1.out.add hrw (arO ya (.slice oa na na)))
  clear hq1 hc1 HBN
  go_wp2_with fail
  have HRB : Hid (∃ kk, RaS l bv rb kk c q (w1.alloc (arO ya (.slice oa na na))) ∧ kk ≤ l.length + n ∧ 0 < c) := Lib.hid (by
    obtain ⟨hc, kk, hr, hkl⟩ := HQ1.out
    exact ⟨kk, hr.next ((Below.refl _ _).alloc (Nat.le_refl _) _), hkl, hc⟩)
  obtain ⟨kk, hr, hkl, hc0⟩ := HRB.out
  have HSG := Lib.hid (ra_sign hr)
  have HCC : Hid (∃ c1, c = c1 + 1) := Lib.hid ⟨c - 1, by omega⟩
  clear hr HRB HQ1
  refine HSG.out.mono ?_
  rintro x w2 ⟨rfl, hr2, hc2⟩
  have HR2 := Lib.hid hr2
  have K2 := Lib.hid (K1a.out.next hrw hc2)
  have h1s := H1S.out
  have hsk : skipN l kk ≤ l.length + n := by
    rcases Nat.lt_or_ge kk l.length with h' | h'
    · have := skipN_le l kk (Nat.le_of_lt h'); omega
    · rw [skip_stay (Or.inl h')]; exact hkl
  clear hr2 hc2 HSG K1a K1
  obtain ⟨e0, e1, e2, _, _⟩ := HR2.out.cells
  obtain ⟨c1, rfl⟩ := HCC.out
  have hcc : (((c1 + 1 : Nat) : Int) == 0) = false := by simp; omega
  have hcn : (((c1 + 1 : Nat) : Int) != 0) = true := by simp; omega
  generalize sgB l kk = sg at *
  unfold arO at K2
  have HZQ : Hid (∀ g x, w.heap.size ≤ g → RaS l bv rb (skipN l kk) (c1 + 1) q (w2.setRow g x)) := Lib.hid fun g x hg => HR2.out.rowN HS.out K2.out.ch hrw hg x
  have hdq : (sg.toList == [63]) = true ∨ (sg.toList == [63]) = false := by cases (sg.toList == [63]) <;> simp
  generalize w1.heap.size = A at *
  rcases hdq with hq | hq
  · skip
    obtain ⟨⟨k0, k1, k2, k3, k4, k5⟩, _⟩ := six_facts K2.out.blk1
    have HG9 := Lib.hid K2.out.blk2
    unfold zrO at HG9
    go_wp2_with (first | (refine wpList_store_ar rfl _ _ rfl rfl w.heap.size ya.op ya.val ya.nm ya.pos ya.apos (.slice oa na na) rfl rfl rfl _ HG9.out rfl ?_) | fail)
    exact bodyPost_ret (results_ar rfl _ _ w.heap.size _ rfl (setRow_self HG9.out _) rfl) rfl ⟨⟨ya, oa, na, rfl, ⟨by omega, _, HZQ.out _ _ (Nat.le_refl _), by omega⟩⟩, K2.out.ch.rowNew (Nat.le_refl _) hrw _⟩
  · skip
    obtain ⟨⟨k0, k1, k2, k3, k4, k5⟩, _⟩ := six_facts K2.out.blk1
    have HG9 := Lib.hid K2.out.blk2
    unfold zrO at HG9
    go_wp2_with (first | (refine wpList_store_ar rfl _ _ rfl rfl w.heap.size ya.op ya.val ya.nm ya.pos ya.apos (.slice oa na na) rfl rfl rfl _ HG9.out rfl ?_) | fail)
    exact bodyPost_ret (results_ar rfl _ _ w.heap.size _ rfl (setRow_self HG9.out _) rfl) rfl ⟨⟨ya, oa, na, rfl, ⟨by omega, _, HZQ.out _ _ (Nat.le_refl _), by omega⟩⟩, K2.out.ch.rowNew (Nat.le_refl _) hrw _⟩

set_option maxRecDepth 100000 in
set_option maxHeartbeats 8000000 in
theorem ra_cond_plain {l : List Int} {bv : Value} {rb n k : Nat} {w : World} (ih : RaC l bv rb n) {ya : Tr} {t1 : Tk} (hb1 : rd l n (.bin 1) (tok l k) = some (.ok ya t1)) (hnq : ¬ t1.text = sQue) (h : RaS l bv rb k 0 0 w) (hk : k ≤ l.length) :
    Calls Tryz.prog 77 #[.pointer (some ⟨rb, 0, none⟩)] w fun e w' => RaO l bv rb (n + 1) w.heap.size (.ok ya t1) e w' ∧ Ch rb w w' := by

  have hrw := h.lt
  have hll := h.len
  have HS := Lib.hid h.sl
  have HAP := Lib.hid h.ap
  obtain ⟨W, hW⟩ : ∃ W, W = w.alloc zrO := ⟨_, rfl⟩
  have HB0 : Hid (Below w.heap.size w W) := Lib.hid (by rw [hW]; exact (Below.refl _ _).alloc (Nat.le_refl _) _)
  have HK0 : Hid (Kp rb w W [(w.heap.size, zrO)]) := Lib.hid (by rw [hW]; exact Kp.start rb w hrw zrO)
  have hW0 : w.heap.size < W.heap.size := by rw [hW]; simp
  have HBN := Lib.hid (ih.bin 1 k _ W hb1 (Nat.le_refl _) (by omega) (h.next HB0.out) hk)
  have HWE := Lib.hid hW
  clear hW h hb1
  unfold zrO at HWE
  go_enter Tryz.func77, Tryz.ntmps77
  go_upto_region 1 with fail
  rw [← HWE.out]
  go_wp2_with fail
  refine HBN.out.mono ?_
  rintro x w1 ⟨⟨yb, oa, na, rfl, hq1⟩, hc1⟩
  have K1 := Lib.hid (HK0.out.next hrw hc1)
  have HQ1 := Lib.hid hq1
  have H1S := Lib.hid (lt_of_heap K1.out.blk1)
  have K1a := Lib.hid (K1.out.add hrw (arO yb (.slice oa na na)))
  clear hq1 hc1 HBN
  go_wp2_with fail
  obtain ⟨hya, hia, kp, hr1, hk1, rfl⟩ := HQ1.out
  subst hya
  have HIA : Hid (yb.In (w1.alloc (arO yb (.slice oa na na))) (w.heap.size + 1) (.slice oa na na)) := Lib.hid ((hia.kept (fun k' _ hs => alloc_at_old _ _ k' hs) _ _).mono hW0 _ _)
  have HSG := Lib.hid (ra_sign (hr1.next ((Below.refl _ _).alloc (Nat.le_refl _) (arO yb (.slice oa na na)))))
  have hsk := skipN_le l kp hk1
  have hst := sg_stop l kp hk1
  have HTX := Lib.hid (tx_eq hr1.sl.1 kp que_op)
  have HQE : Hid (¬ sgB l kp = sEmpty → (tok l kp).stop = skipN l kp + (sgB l kp).size ∧ (tok l kp).start = skipN l kp) := Lib.hid (sg_next l kp)
  clear hia hr1 HQ1
  refine HSG.out.mono ?_
  rintro x w2 ⟨rfl, hr2, hc2⟩
  have HR2 := Lib.hid hr2
  have K2 := Lib.hid (K1a.out.next hrw hc2)
  have h1s := H1S.out
  have HIA2 := Lib.hid (HIA.out.ch (by omega) hc2)
  clear hr2 hc2 HSG K1a K1 HIA
  obtain ⟨e0, e1, e2, _, _⟩ := HR2.out.cells
  unfold arO at K2
  have hne : ¬ sgB l kp = sQue := fun e => hnq (HTX.out.2 e)
  have hq : ((sgB l kp).toList == [63]) = false := tl_no hne
  generalize sgB l kp = sg at *
  have HZQ : Hid (∀ g x, w.heap.size ≤ g → RaS l bv rb (skipN l kp) 0 0 (w2.setRow g x)) := Lib.hid fun g x hg => HR2.out.rowN HS.out K2.out.ch hrw hg x
  generalize w1.heap.size = A at *
  obtain ⟨⟨k0, k1, k2, k3, k4, k5⟩, _⟩ := six_facts K2.out.blk1
  have HG9 := Lib.hid K2.out.blk2
  unfold zrO at HG9
  go_wp2_with (first | (refine wpList_store_ar rfl _ _ rfl rfl w.heap.size yb.op yb.val yb.nm yb.pos yb.apos (.slice oa na na) rfl rfl rfl _ HG9.out rfl ?_) | fail)
  exact bodyPost_ret (results_ar rfl _ _ w.heap.size _ rfl (setRow_self HG9.out _) rfl) rfl ⟨⟨yb, oa, na, rfl, ⟨rfl, HIA2.out.rowN (Nat.lt_succ_self _) (Nat.le_succ _) _, _, HZQ.out _ _ (Nat.le_refl _), hsk, tok_skip l kp⟩⟩, K2.out.ch.rowNew (Nat.le_refl _) hrw _⟩

set_option maxRecDepth 100000 in
set_option maxHeartbeats 8000000 in
theorem ra_cond_x {l : List Int} {bv : Value} {rb n k : Nat} {w : World} (ih : RaC l bv rb n) {ya : Tr} {t1 : Tk} {c q : Nat} (hb1 : rd l n (.bin 1) (tok l k) = some (.ok ya t1)) (hq1t : t1.text = sQue) (hx2 : rd l n .expr (tok l t1.stop) = some (.bad c q)) (h : RaS l bv rb k 0 0 w) (hk : k ≤ l.length) :
    Calls Tryz.prog 77 #[.pointer (some ⟨rb, 0, none⟩)] w fun e w' => RaO l bv rb (n + 1) w.heap.size (.bad c q) e w' ∧ Ch rb w w' := by

  have hrw := h.lt
  have hll := h.len
  have HS := Lib.hid h.sl
  have HAP := Lib.hid h.ap
  obtain ⟨W, hW⟩ : ∃ W, W = w.alloc zrO := ⟨_, rfl⟩
  have HB0 : Hid (Below w.heap.size w W) := Lib.hid (by rw [hW]; exact (Below.refl _ _).alloc (Nat.le_refl _) _)
  have HK0 : Hid (Kp rb w W [(w.heap.size, zrO)]) := Lib.hid (by rw [hW]; exact Kp.start rb w hrw zrO)
  have hW0 : w.heap.size < W.heap.size := by rw [hW]; simp
  have HBN := Lib.hid (ih.bin 1 k _ W hb1 (Nat.le_refl _) (by omega) (h.next HB0.out) hk)
  have HWE := Lib.hid hW
  clear hW h hb1
  unfold zrO at HWE
  go_enter Tryz.func77, Tryz.ntmps77
  go_upto_region 1 with fail
  rw [← HWE.out]
  go_wp2_with fail
  refine HBN.out.mono ?_
  rintro x w1 ⟨⟨yb, oa, na, rfl, hq1⟩, hc1⟩
  have K1 := Lib.hid (HK0.out.next hrw hc1)
  have HQ1 := Lib.hid hq1
  have H1S := Lib.hid (lt_of_heap K1.out.blk1)
  have K1a := Lib.hid (K1.out.add hrw (arO yb (.slice oa na na)))
  clear hq1 hc1 HBN
  go_wp2_with fail
  obtain ⟨hya, hia, kp, hr1, hk1, rfl⟩ := HQ1.out
  subst hya
  have HIA : Hid (yb.In (w1.alloc (arO yb (.slice oa na na))) (w.heap.size + 1) (.slice oa na na)) := Lib.hid ((hia.kept (fun k' _ hs => alloc_at_old _ _ k' hs) _ _).mono hW0 _ _)
  have HSG := Lib.hid (ra_sign (hr1.next ((Below.refl _ _).alloc (Nat.le_refl _) (arO yb (.slice oa na na)))))
  have hsk := skipN_le l kp hk1
  have hst := sg_stop l kp hk1
  have HTX := Lib.hid (tx_eq hr1.sl.1 kp que_op)
  have HQE : Hid (¬ sgB l kp = sEmpty → (tok l kp).stop = skipN l kp + (sgB l kp).size ∧ (tok l kp).start = skipN l kp) := Lib.hid (sg_next l kp)
  clear hia hr1 HQ1
  refine HSG.out.mono ?_
  rintro x w2 ⟨rfl, hr2, hc2⟩
  have HR2 := Lib.hid hr2
  have K2 := Lib.hid (K1a.out.next hrw hc2)
  have h1s := H1S.out
  have HIA2 := Lib.hid (HIA.out.ch (by omega) hc2)
  clear hr2 hc2 HSG K1a K1 HIA
  obtain ⟨e0, e1, e2, _, _⟩ := HR2.out.cells
  unfold arO at K2
  have hsq : sgB l kp = sQue := HTX.out.1 hq1t
  obtain ⟨hstop, hstart⟩ := HQE.out (by rw [hsq]; decide)
  have hz1 : sQue.size = 1 := rfl
  rw [hsq, hz1] at hst hstop
  have hqq : ((sgB l kp).toList == [63]) = true := by rw [hsq, tl_beq]; exact decide_eq_true rfl
  rw [hstop] at hx2
  obtain ⟨p1, hp1⟩ : ∃ p1, skipN l kp = p1 := ⟨_, rfl⟩
  rw [hp1] at HR2 hst hsk hx2 hstart
  have HST1 := Lib.hid hstart
  clear e0 e1 e2
  obtain ⟨e0, e1, e2, _, _⟩ := HR2.out.cells
  generalize sgB l kp = sg at *
  clear hp1 hstop hstart HQE HTX hsq
  have f1 := HR2.out.fr 1
  have HR3 : Hid (RaS l bv rb (p1 + 1) 0 0 (w2.setCell ⟨rb, 1, none⟩ (.int .i64 ((p1 : Int) + 1)))) := Lib.hid (HR2.out.setK (p1 + 1) (by omega))
  have K3 := Lib.hid (K2.out.next hrw (Ch.set (rb := rb) w2 1 (.int .i64 ((p1 : Int) + 1))))
  have HIA3 := Lib.hid (HIA2.out.ch (by omega) (Ch.set (rb := rb) w2 1 (.int .i64 ((p1 : Int) + 1))))
  have HEX := Lib.hid (ih.expr (p1 + 1) _ _ hx2 HR3.out hst)
  have hx2s : w.heap.size < w2.heap.size := lt_of_heap K2.out.blk2
  have hzs : (w2.setCell ⟨rb, 1, none⟩ (.int .i64 ((p1 : Int) + 1))).heap.size = w2.heap.size := by simp
  clear HR2 K2 HIA2
  go_wp2_with fail
  refine HEX.out.mono ?_
  rintro x w4 ⟨⟨yy, oy, ny, rfl, hq4⟩, hc4⟩
  have K4 := Lib.hid (K3.out.next hrw hc4)
  have HIA4 := Lib.hid (HIA3.out.ch (by omega) hc4)
  have HQ4 := Lib.hid hq4
  have H4S := Lib.hid (lt_of_heap K4.out.blk1)
  have K5 := Lib.hid (K4.out.add hrw (.cells #[.string yy.op, .int .i64 yy.val, .string yy.nm, .int .i64 yy.pos, .int .i64 yy.apos, .slice oy ny ny] 30))
  have HIA5 := Lib.hid (HIA4.out.kept (fun k' _ hs => alloc_at_old _ (.cells #[.string yy.op, .int .i64 yy.val, .string yy.nm, .int .i64 yy.pos, .int .i64 yy.apos, .slice oy ny ny] 30) k' hs) _ _)
  clear hq4 hc4 HEX HR3 K3 HIA3 e0 e1 e2 f1 hzs
  obtain ⟨hc0, kk, hr4, hkl⟩ := HQ4.out
  obtain ⟨c1, rfl⟩ : ∃ c1, c = c1 + 1 := ⟨c - 1, by omega⟩
  have hr5 := hr4.next ((Below.refl _ _).alloc (Nat.le_refl _) (.cells #[.string yy.op, .int .i64 yy.val, .string yy.nm, .int .i64 yy.pos, .int .i64 yy.apos, .slice oy ny ny] 30))
  have HR5 := Lib.hid hr5
  obtain ⟨e0, e1, e2, _, _⟩ := hr5.cells
  have hcn : (((c1 + 1 : Nat) : Int) != 0) = true := by simp; omega
  have HZQ : Hid (∀ g x, w.heap.size ≤ g → RaS l bv rb kk (c1 + 1) q ((w4.alloc (.cells #[.string yy.op, .int .i64 yy.val, .string yy.nm, .int .i64 yy.pos, .int .i64 yy.apos, .slice oy ny ny] 30)).setRow g x)) := Lib.hid fun g x hg => HR5.out.rowN HS.out K5.out.ch hrw hg x
  clear hr4 hr5 HQ4
  generalize w1.heap.size = A at *
  have h4s := H4S.out
  obtain ⟨⟨k0, k1, k2, k3, k4, k5⟩, _⟩ := six_facts K5.out.blk2
  have HG9 := Lib.hid K5.out.blk3
  unfold zrO at HG9
  go_wp2_with (first | (refine wpList_store_ar rfl _ _ rfl rfl w.heap.size yb.op yb.val yb.nm yb.pos yb.apos (.slice oa na na) rfl rfl rfl _ HG9.out rfl ?_) | fail)
  exact bodyPost_ret (results_ar rfl _ _ w.heap.size _ rfl (setRow_self HG9.out _) rfl) rfl ⟨⟨yb, oa, na, rfl, ⟨by omega, _, HZQ.out _ _ (Nat.le_refl _), by omega⟩⟩, K5.out.ch.rowNew (Nat.le_refl _) hrw _⟩

set_option maxRecDepth 100000 in
set_option maxHeartbeats 8000000 in
theorem ra_cond_c {l : List Int} {bv : Value} {rb n k : Nat} {w : World} (ih : RaC l bv rb n) {ya y2 : Tr} {t1 t2 : Tk} (hb1 : rd l n (.bin 1) (tok l k) = some (.ok ya t1)) (hq1t : t1.text = sQue) (hx2 : rd l n .expr (tok l t1.stop) = some (.ok y2 t2)) (hnc : ¬ t2.text = sCol) (h : RaS l bv rb k 0 0 w) (hk : k ≤ l.length) :
    Calls Tryz.prog 77 #[.pointer (some ⟨rb, 0, none⟩)] w fun e w' => RaO l bv rb (n + 1) w.heap.size (refuse t2) e w' ∧ Ch rb w w' := by

  have hrw := h.lt
  have hll := h.len
  have HS := Lib.hid h.sl
  have HAP := Lib.hid h.ap
  obtain ⟨W, hW⟩ : ∃ W, W = w.alloc zrO := ⟨_, rfl⟩
  have HB0 : Hid (Below w.heap.size w W) := Lib.hid (by rw [hW]; exact (Below.refl _ _).alloc (Nat.le_refl _) _)
  have HK0 : Hid (Kp rb w W [(w.heap.size, zrO)]) := Lib.hid (by rw [hW]; exact Kp.start rb w hrw zrO)
  have hW0 : w.heap.size < W.heap.size := by rw [hW]; simp
  have HBN := Lib.hid (ih.bin 1 k _ W hb1 (Nat.le_refl _) (by omega) (h.next HB0.out) hk)
  have HWE := Lib.hid hW
  clear hW h hb1
  unfold zrO at HWE
  go_enter Tryz.func77, Tryz.ntmps77
  go_upto_region 1 with fail
  rw [← HWE.out]
  go_wp2_with fail
  refine HBN.out.mono ?_
  rintro x w1 ⟨⟨yb, oa, na, rfl, hq1⟩, hc1⟩
  have K1 := Lib.hid (HK0.out.next hrw hc1)
  have HQ1 := Lib.hid hq1
  have H1S := Lib.hid (lt_of_heap K1.out.blk1)
  have K1a := Lib.hid (K1.out.add hrw (arO yb (.slice oa na na)))
  clear hq1 hc1 HBN
  go_wp2_with fail
  obtain ⟨hya, hia, kp, hr1, hk1, rfl⟩ := HQ1.out
  subst hya
  have HIA : Hid (yb.In (w1.alloc (arO yb (.slice oa na na))) (w.heap.size + 1) (.slice oa na na)) := Lib.hid ((hia.kept (fun k' _ hs => alloc_at_old _ _ k' hs) _ _).mono hW0 _ _)
  have HSG := Lib.hid (ra_sign (hr1.next ((Below.refl _ _).alloc (Nat.le_refl _) (arO yb (.slice oa na na)))))
  have hsk := skipN_le l kp hk1
  have hst := sg_stop l kp hk1
  have HTX := Lib.hid (tx_eq hr1.sl.1 kp que_op)
  have HQE : Hid (¬ sgB l kp = sEmpty → (tok l kp).stop = skipN l kp + (sgB l kp).size ∧ (tok l kp).start = skipN l kp) := Lib.hid (sg_next l kp)
  clear hia hr1 HQ1
  refine HSG.out.mono ?_
  rintro x w2 ⟨rfl, hr2, hc2⟩
  have HR2 := Lib.hid hr2
  have K2 := Lib.hid (K1a.out.next hrw hc2)
  have h1s := H1S.out
  have HIA2 := Lib.hid (HIA.out.ch (by omega) hc2)
  clear hr2 hc2 HSG K1a K1 HIA
  obtain ⟨e0, e1, e2, _, _⟩ := HR2.out.cells
  unfold arO at K2
  have hsq : sgB l kp = sQue := HTX.out.1 hq1t
  obtain ⟨hstop, hstart⟩ := HQE.out (by rw [hsq]; decide)
  have hz1 : sQue.size = 1 := rfl
  rw [hsq, hz1] at hst hstop
  have hqq : ((sgB l kp).toList == [63]) = true := by rw [hsq, tl_beq]; exact decide_eq_true rfl
  rw [hstop] at hx2
  obtain ⟨p1, hp1⟩ : ∃ p1, skipN l kp = p1 := ⟨_, rfl⟩
  rw [hp1] at HR2 hst hsk hx2 hstart
  have HST1 := Lib.hid hstart
  clear e0 e1 e2
  obtain ⟨e0, e1, e2, _, _⟩ := HR2.out.cells
  generalize sgB l kp = sg at *
  clear hp1 hstop hstart HQE HTX hsq
  have f1 := HR2.out.fr 1
  have HR3 : Hid (RaS l bv rb (p1 + 1) 0 0 (w2.setCell ⟨rb, 1, none⟩ (.int .i64 ((p1 : Int) + 1)))) := Lib.hid (HR2.out.setK (p1 + 1) (by omega))
  have K3 := Lib.hid (K2.out.next hrw (Ch.set (rb := rb) w2 1 (.int .i64 ((p1 : Int) + 1))))
  have HIA3 := Lib.hid (HIA2.out.ch (by omega) (Ch.set (rb := rb) w2 1 (.int .i64 ((p1 : Int) + 1))))
  have HEX := Lib.hid (ih.expr (p1 + 1) _ _ hx2 HR3.out hst)
  have hx2s : w.heap.size < w2.heap.size := lt_of_heap K2.out.blk2
  have hzs : (w2.setCell ⟨rb, 1, none⟩ (.int .i64 ((p1 : Int) + 1))).heap.size = w2.heap.size := by simp
  clear HR2 K2 HIA2
  go_wp2_with fail
  refine HEX.out.mono ?_
  rintro x w4 ⟨⟨yy, oy, ny, rfl, hq4⟩, hc4⟩
  have K4 := Lib.hid (K3.out.next hrw hc4)
  have HIA4 := Lib.hid (HIA3.out.ch (by omega) hc4)
  have HQ4 := Lib.hid hq4
  have H4S := Lib.hid (lt_of_heap K4.out.blk1)
  have K5 := Lib.hid (K4.out.add hrw (.cells #[.string yy.op, .int .i64 yy.val, .string yy.nm, .int .i64 yy.pos, .int .i64 yy.apos, .slice oy ny ny] 30))
  have HIA5 := Lib.hid (HIA4.out.kept (fun k' _ hs => alloc_at_old _ (.cells #[.string yy.op, .int .i64 yy.val, .string yy.nm, .int .i64 yy.pos, .int .i64 yy.apos, .slice oy ny ny] 30) k' hs) _ _)
  clear hq4 hc4 HEX HR3 K3 HIA3 e0 e1 e2 f1 hzs
  obtain ⟨hyy, hiy, kq, hr4, hkq, rfl⟩ := HQ4.out
  subst hyy
  have hr5 := hr4.next ((Below.refl _ _).alloc (Nat.le_refl _) (.cells #[.string yy.op, .int .i64 yy.val, .string yy.nm, .int .i64 yy.pos, .int .i64 yy.apos, .slice oy ny ny] 30))
  have HSG5 := Lib.hid (ra_sign hr5)
  have hsk5 := skipN_le l kq hkq
  have hst5 := sg_stop l kq hkq
  have HTX5 := Lib.hid (tx_eq hr5.sl.1 kq col_op)
  have HQE5 : Hid (¬ sgB l kq = sEmpty → (tok l kq).stop = skipN l kq + (sgB l kq).size ∧ (tok l kq).start = skipN l kq) := Lib.hid (sg_next l kq)
  have HIY5 : Hid (yy.In (w4.alloc (.cells #[.string yy.op, .int .i64 yy.val, .string yy.nm, .int .i64 yy.pos, .int .i64 yy.apos, .slice oy ny ny] 30)) (w.heap.size + 1) (.slice oy ny ny)) := Lib.hid ((hiy.kept (fun k' _ hs => alloc_at_old _ _ k' hs) _ _).mono (by simp; omega) _ _)
  obtain ⟨e0, e1, e2, _, _⟩ := hr5.cells
  have h4s := H4S.out
  clear hr4 hr5 hiy HQ4
  go_wp2_with fail
  refine HSG5.out.mono ?_
  rintro x w6 ⟨rfl, hr6, hc6⟩
  have HR6 := Lib.hid hr6
  have K6 := Lib.hid (K5.out.next hrw hc6)
  have HIA6 := Lib.hid (HIA5.out.ch (by omega) hc6)
  have HIY6 := Lib.hid (HIY5.out.ch (by omega) hc6)
  have h6s : w.heap.size < w6.heap.size := lt_of_heap K6.out.blk3
  have H6L := Lib.hid (lt_of_heap K6.out.blk1)
  clear hr6 hc6 HSG5 HIA5 HIY5 HIA4 K4 K5 e0 e1 e2
  obtain ⟨e0, e1, e2, _, _⟩ := HR6.out.cells
  have hne : ¬ sgB l kq = sCol := fun e => hnc (HTX5.out.2 e)
  have hq5 : ((sgB l kq).toList == [58]) = false := tl_no hne
  have HUN := Lib.hid (ra_unx HR6.out hsk5)
  rw [tok_skip] at HUN
  have hz0 : zT.v (.slice none 0 0) = .agg #[.string ⟨#[]⟩, .int .i64 0, .string ⟨#[]⟩, .int .i64 0, .int .i64 0, .slice none 0 0] := rfl
  rw [hz0] at HUN
  generalize sgB l kq = sg2 at *
  clear hne HTX5 HQE5
  go_wp2_with fail
  refine HUN.out.mono ?_
  rintro x w7 ⟨rfl, hr7, hcd, hc7⟩
  have HR7 := Lib.hid hr7
  have K7 := Lib.hid (K6.out.next hrw hc7)
  have HG9 := Lib.hid K7.out.blk3
  unfold zrO at HG9
  have HZQ : Hid (∀ g x, w.heap.size ≤ g → RaS l bv rb (skipN l (skipN l kq)) (tok l kq).code (tok l kq).start (w7.setRow g x)) := Lib.hid fun g x hg => HR7.out.rowN HS.out K7.out.ch hrw hg x
  have hsk7 := skipN_le l (skipN l kq) hsk5
  clear hr7 hc7 HUN
  go_wp2_with (first | (refine wpList_store_ar rfl _ _ rfl rfl w.heap.size ⟨#[]⟩ 0 ⟨#[]⟩ 0 0 (.slice none 0 0) rfl rfl rfl _ HG9.out rfl ?_) | fail)
  exact bodyPost_ret (results_ar rfl _ _ w.heap.size _ rfl (setRow_self HG9.out _) rfl) rfl ⟨⟨zT, none, 0, rfl, hcd, _, HZQ.out _ _ (Nat.le_refl _), by omega⟩, K7.out.ch.rowNew (Nat.le_refl _) hrw _⟩

theorem RaQ.cond {l : List Int} {bv : Value} {rb n lo b : Nat} {r : Rs} {ta tb y : Tr} {ka kb kv : Value} {w : World} (h : RaQ l bv rb n lo r y kv w) (ha : ta.In w lo ka) (hbb : tb.In w lo kb) (hb : w.heap[b]? = some (.cells #[.string ta.op, .int .i64 ta.val, .string ta.nm, .int .i64 ta.pos, .int .i64 ta.apos, ka, .string tb.op, .int .i64 tb.val, .string tb.nm, .int .i64 tb.pos, .int .i64 tb.apos, kb, .string y.op, .int .i64 y.val, .string y.nm, .int .i64 y.pos, .int .i64 y.apos, kv] 30)) (hlo : lo ≤ b) (op : ByteArray) (p : Nat) : RaQ l bv rb n lo (r.map (.cond op p ta tb)) (.cond op p ta tb y) (.slice (some ⟨b, 0, none⟩) 3 3) w := by
  cases r with
  | ok t nx =>
    obtain ⟨rfl, hi, hk⟩ := h
    exact ⟨rfl, ⟨b, ka, kb, kv, rfl, hlo, hb, ha, hbb, hi⟩, hk⟩
  | bad c q => exact h

set_option maxRecDepth 100000 in
set_option maxHeartbeats 8000000 in
theorem ra_cond_all {l : List Int} {bv : Value} {rb n k : Nat} {w : World} (ih : RaC l bv rb n) {ya y2 : Tr} {t1 t2 : Tk} {res : Rs} (hb1 : rd l n (.bin 1) (tok l k) = some (.ok ya t1)) (hq1t : t1.text = sQue) (hx2 : rd l n .expr (tok l t1.stop) = some (.ok y2 t2)) (hyc : t2.text = sCol) (hx3 : rd l n .cond (tok l t2.stop) = some res) (h : RaS l bv rb k 0 0 w) (hk : k ≤ l.length) :
    Calls Tryz.prog 77 #[.pointer (some ⟨rb, 0, none⟩)] w fun e w' => RaO l bv rb (n + 1) w.heap.size (res.map (.cond t1.text t1.start ya y2)) e w' ∧ Ch rb w w' := by

  have hq1t' := hq1t
  rw [hq1t]
  have hrw := h.lt
  have hll := h.len
  have HS := Lib.hid h.sl
  have HAP := Lib.hid h.ap
  obtain ⟨W, hW⟩ : ∃ W, W = w.alloc zrO := ⟨_, rfl⟩
  have HB0 : Hid (Below w.heap.size w W) := Lib.hid (by rw [hW]; exact (Below.refl _ _).alloc (Nat.le_refl _) _)
  have HK0 : Hid (Kp rb w W [(w.heap.size, zrO)]) := Lib.hid (by rw [hW]; exact Kp.start rb w hrw zrO)
  have hW0 : w.heap.size < W.heap.size := by rw [hW]; simp
  have HBN := Lib.hid (ih.bin 1 k _ W hb1 (Nat.le_refl _) (by omega) (h.next HB0.out) hk)
  have HWE := Lib.hid hW
  clear hW h hb1
  unfold zrO at HWE
  go_enter Tryz.func77, Tryz.ntmps77
  go_upto_region 1 with fail
  rw [← HWE.out]
  go_wp2_with fail
  refine HBN.out.mono ?_
  rintro x w1 ⟨⟨yb, oa, na, rfl, hq1⟩, hc1⟩
  have K1 := Lib.hid (HK0.out.next hrw hc1)
  have HQ1 := Lib.hid hq1
  have H1S := Lib.hid (lt_of_heap K1.out.blk1)
  have K1a := Lib.hid (K1.out.add hrw (arO yb (.slice oa na na)))
  clear hq1 hc1 HBN
  go_wp2_with fail
  obtain ⟨hya, hia, kp, hr1, hk1, rfl⟩ := HQ1.out
  subst hya
  have HIA : Hid (yb.In (w1.alloc (arO yb (.slice oa na na))) (w.heap.size + 1) (.slice oa na na)) := Lib.hid ((hia.kept (fun k' _ hs => alloc_at_old _ _ k' hs) _ _).mono hW0 _ _)
  have HSG := Lib.hid (ra_sign (hr1.next ((Below.refl _ _).alloc (Nat.le_refl _) (arO yb (.slice oa na na)))))
  have hsk := skipN_le l kp hk1
  have hst := sg_stop l kp hk1
  have HTX := Lib.hid (tx_eq hr1.sl.1 kp que_op)
  have HQE : Hid (¬ sgB l kp = sEmpty → (tok l kp).stop = skipN l kp + (sgB l kp).size ∧ (tok l kp).start = skipN l kp) := Lib.hid (sg_next l kp)
  clear hia hr1 HQ1
  refine HSG.out.mono ?_
  rintro x w2 ⟨rfl, hr2, hc2⟩
  have HR2 := Lib.hid hr2
  have K2 := Lib.hid (K1a.out.next hrw hc2)
  have h1s := H1S.out
  have HIA2 := Lib.hid (HIA.out.ch (by omega) hc2)
  clear hr2 hc2 HSG K1a K1 HIA
  obtain ⟨e0, e1, e2, _, _⟩ := HR2.out.cells
  unfold arO at K2
  have hsq : sgB l kp = sQue := HTX.out.1 hq1t
  obtain ⟨hstop, hstart⟩ := HQE.out (by rw [hsq]; decide)
  have hz1 : sQue.size = 1 := rfl
  rw [hsq, hz1] at hst hstop
  have hqq : ((sgB l kp).toList == [63]) = true := by rw [hsq, tl_beq]; exact decide_eq_true rfl
  rw [hstop] at hx2
  obtain ⟨p1, hp1⟩ : ∃ p1, skipN l kp = p1 := ⟨_, rfl⟩
  rw [hp1] at HR2 hst hsk hx2 hstart
  have HST1 := Lib.hid hstart
  clear e0 e1 e2
  obtain ⟨e0, e1, e2, _, _⟩ := HR2.out.cells
  generalize sgB l kp = sg at *
  clear hp1 hstop hstart HQE HTX hsq
  have f1 := HR2.out.fr 1
  have HR3 : Hid (RaS l bv rb (p1 + 1) 0 0 (w2.setCell ⟨rb, 1, none⟩ (.int .i64 ((p1 : Int) + 1)))) := Lib.hid (HR2.out.setK (p1 + 1) (by omega))
  have K3 := Lib.hid (K2.out.next hrw (Ch.set (rb := rb) w2 1 (.int .i64 ((p1 : Int) + 1))))
  have HIA3 := Lib.hid (HIA2.out.ch (by omega) (Ch.set (rb := rb) w2 1 (.int .i64 ((p1 : Int) + 1))))
  have HEX := Lib.hid (ih.expr (p1 + 1) _ _ hx2 HR3.out hst)
  have hx2s : w.heap.size < w2.heap.size := lt_of_heap K2.out.blk2
  have hzs : (w2.setCell ⟨rb, 1, none⟩ (.int .i64 ((p1 : Int) + 1))).heap.size = w2.heap.size := by simp
  clear HR2 K2 HIA2
  go_wp2_with fail
  refine HEX.out.mono ?_
  rintro x w4 ⟨⟨yy, oy, ny, rfl, hq4⟩, hc4⟩
  have K4 := Lib.hid (K3.out.next hrw hc4)
  have HIA4 := Lib.hid (HIA3.out.ch (by omega) hc4)
  have HQ4 := Lib.hid hq4
  have H4S := Lib.hid (lt_of_heap K4.out.blk1)
  have K5 := Lib.hid (K4.out.add hrw (.cells #[.string yy.op, .int .i64 yy.val, .string yy.nm, .int .i64 yy.pos, .int .i64 yy.apos, .slice oy ny ny] 30))
  have HIA5 := Lib.hid (HIA4.out.kept (fun k' _ hs => alloc_at_old _ (.cells #[.string yy.op, .int .i64 yy.val, .string yy.nm, .int .i64 yy.pos, .int .i64 yy.apos, .slice oy ny ny] 30) k' hs) _ _)
  clear hq4 hc4 HEX HR3 K3 HIA3 e0 e1 e2 f1 hzs
  obtain ⟨hyy, hiy, kq, hr4, hkq, rfl⟩ := HQ4.out
  subst hyy
  have hr5 := hr4.next ((Below.refl _ _).alloc (Nat.le_refl _) (.cells #[.string yy.op, .int .i64 yy.val, .string yy.nm, .int .i64 yy.pos, .int .i64 yy.apos, .slice oy ny ny] 30))
  have HSG5 := Lib.hid (ra_sign hr5)
  have hsk5 := skipN_le l kq hkq
  have hst5 := sg_stop l kq hkq
  have HTX5 := Lib.hid (tx_eq hr5.sl.1 kq col_op)
  have HQE5 : Hid (¬ sgB l kq = sEmpty → (tok l kq).stop = skipN l kq + (sgB l kq).size ∧ (tok l kq).start = skipN l kq) := Lib.hid (sg_next l kq)
  have HIY5 : Hid (yy.In (w4.alloc (.cells #[.string yy.op, .int .i64 yy.val, .string yy.nm, .int .i64 yy.pos, .int .i64 yy.apos, .slice oy ny ny] 30)) (w.heap.size + 1) (.slice oy ny ny)) := Lib.hid ((hiy.kept (fun k' _ hs => alloc_at_old _ _ k' hs) _ _).mono (by simp; omega) _ _)
  obtain ⟨e0, e1, e2, _, _⟩ := hr5.cells
  have h4s := H4S.out
  clear hr4 hr5 hiy HQ4
  go_wp2_with fail
  refine HSG5.out.mono ?_
  rintro x w6 ⟨rfl, hr6, hc6⟩
  have HR6 := Lib.hid hr6
  have K6 := Lib.hid (K5.out.next hrw hc6)
  have HIA6 := Lib.hid (HIA5.out.ch (by omega) hc6)
  have HIY6 := Lib.hid (HIY5.out.ch (by omega) hc6)
  have h6s : w.heap.size < w6.heap.size := lt_of_heap K6.out.blk3
  have H6L := Lib.hid (lt_of_heap K6.out.blk1)
  clear hr6 hc6 HSG5 HIA5 HIY5 HIA4 K4 K5 e0 e1 e2
  obtain ⟨e0, e1, e2, _, _⟩ := HR6.out.cells
  have hsq5 : sgB l kq = sCol := HTX5.out.1 hyc
  obtain ⟨hstop5, _⟩ := HQE5.out (by rw [hsq5]; decide)
  have hz5 : sCol.size = 1 := rfl
  rw [hsq5, hz5] at hst5 hstop5
  have hq5 : ((sgB l kq).toList == [58]) = true := by rw [hsq5, tl_beq]; exact decide_eq_true rfl
  rw [hstop5] at hx3
  obtain ⟨q1, hqe1⟩ : ∃ q1, skipN l kq = q1 := ⟨_, rfl⟩
  rw [hqe1] at HR6 hst5 hsk5 hx3
  clear e0 e1 e2
  obtain ⟨e0, e1, e2, _, _⟩ := HR6.out.cells
  generalize sgB l kq = sg2 at *
  clear hqe1 hstop5 HQE5 HTX5 hsq5 hyc
  have f1 := HR6.out.fr 1
  have HR7 : Hid (RaS l bv rb (q1 + 1) 0 0 (w6.setCell ⟨rb, 1, none⟩ (.int .i64 ((q1 : Int) + 1)))) := Lib.hid (HR6.out.setK (q1 + 1) (by omega))
  have K7 := Lib.hid (K6.out.next hrw (Ch.set (rb := rb) w6 1 (.int .i64 ((q1 : Int) + 1))))
  have HIA7 := Lib.hid (HIA6.out.ch (by omega) (Ch.set (rb := rb) w6 1 (.int .i64 ((q1 : Int) + 1))))
  have HIY7 := Lib.hid (HIY6.out.ch (by omega) (Ch.set (rb := rb) w6 1 (.int .i64 ((q1 : Int) + 1))))
  go_wp2_with fail
  generalize hW7 : w6.setCell ⟨rb, 1, none⟩ (.int .i64 ((q1 : Int) + 1)) = w7 at *
  clear hW7 e0 e1 e2 f1 K6 HR6 HIA6 HIY6
  have HCN := Lib.hid (ih.cond (q1 + 1) res w7.drew hx3 ⟨HR7.out.blk, HR7.out.sl, HR7.out.len, HR7.out.hi, HR7.out.ap⟩ hst5)
  have HFF : Hid (∀ (A B : Nat) (X : World), X.heap[A]? = some (.cells #[.string yb.op, .int .i64 yb.val, .string yb.nm, .int .i64 yb.pos, .int .i64 yb.apos, .slice oa na na] 30) → X.heap[B]? = some (.cells #[.string yy.op, .int .i64 yy.val, .string yy.nm, .int .i64 yy.pos, .int .i64 yy.apos, .slice oy ny ny] 30) → (X.cell? ⟨A, 0, none⟩ = some (.string yb.op) ∧ X.cell? ⟨A, 1, none⟩ = some (.int .i64 yb.val) ∧ X.cell? ⟨A, 2, none⟩ = some (.string yb.nm) ∧ X.cell? ⟨A, 3, none⟩ = some (.int .i64 yb.pos) ∧ X.cell? ⟨A, 4, none⟩ = some (.int .i64 yb.apos) ∧ X.cell? ⟨A, 5, none⟩ = some (.slice oa na na)) ∧ (X.cell? ⟨B, 0, none⟩ = some (.string yy.op) ∧ X.cell? ⟨B, 1, none⟩ = some (.int .i64 yy.val) ∧ X.cell? ⟨B, 2, none⟩ = some (.string yy.nm) ∧ X.cell? ⟨B, 3, none⟩ = some (.int .i64 yy.pos) ∧ X.cell? ⟨B, 4, none⟩ = some (.int .i64 yy.apos) ∧ X.cell? ⟨B, 5, none⟩ = some (.slice oy ny ny))) := Lib.hid fun A B X ha hb => ⟨(six_facts ha).1, (six_facts hb).1⟩
  have HNE : Hid (w1.heap.size ≠ w.heap.size ∧ w4.heap.size ≠ w.heap.size) := Lib.hid ⟨by omega, by omega⟩
  have h7s : w.heap.size < w7.heap.size := lt_of_heap K7.out.blk3
  have H7S := Lib.hid h7s
  generalize w1.heap.size = A at *
  generalize w4.heap.size = B at *
  have HF := Lib.hid (HFF.out A B)
  have HF7 := Lib.hid (HF.out w7 K7.out.blk2 K7.out.blk1)
  have HF7d := Lib.hid (HF.out w7.drew K7.out.blk2 K7.out.blk1)
  clear h7s h4s h1s h6s hx2s
  go_region_held3 (fun X => (X.cell? ⟨A, 0, none⟩ = some (.string yb.op) ∧ X.cell? ⟨A, 1, none⟩ = some (.int .i64 yb.val) ∧ X.cell? ⟨A, 2, none⟩ = some (.string yb.nm) ∧ X.cell? ⟨A, 3, none⟩ = some (.int .i64 yb.pos) ∧ X.cell? ⟨A, 4, none⟩ = some (.int .i64 yb.apos) ∧ X.cell? ⟨A, 5, none⟩ = some (.slice oa na na)) ∧ (X.cell? ⟨B, 0, none⟩ = some (.string yy.op) ∧ X.cell? ⟨B, 1, none⟩ = some (.int .i64 yy.val) ∧ X.cell? ⟨B, 2, none⟩ = some (.string yy.nm) ∧ X.cell? ⟨B, 3, none⟩ = some (.int .i64 yy.pos) ∧ X.cell? ⟨B, 4, none⟩ = some (.int .i64 yy.apos) ∧ X.cell? ⟨B, 5, none⟩ = some (.slice oy ny ny)))
    (first | with_reducible exact HF7.out | with_reducible exact HF7d.out | with_reducible exact HF8.out | with_reducible exact HF9.out | with_reducible exact HF10.out _ _ _ _ _ _)
    (first | (go_at_call 77; (with_reducible refine HCN.out.mono ?_); rintro e w8 ⟨⟨yz, oz, nz, rfl, hq⟩, hch⟩; have HQ := Lib.hid hq; have K8 := Lib.hid (K7.out.drew.next hrw hch); have HC8 := Lib.hid hch; clear hq hch; have HF8 := Lib.hid (HF.out w8 K8.out.blk2 K8.out.blk1); have H8S := Lib.hid (lt_of_heap K8.out.blk3); have K9 := Lib.hid (K8.out.add hrw (Obj.cells #[.string yb.op, .int .i64 yb.val, .string yb.nm, .int .i64 yb.pos, .int .i64 yb.apos, .slice oa na na, .string yy.op, .int .i64 yy.val, .string yy.nm, .int .i64 yy.pos, .int .i64 yy.apos, .slice oy ny ny, .string yz.op, .int .i64 yz.val, .string yz.nm, .int .i64 yz.pos, .int .i64 yz.apos, .slice oz nz nz] 30)); have HF9 := Lib.hid (HF.out _ K9.out.blk3 K9.out.blk2); have HG9 := Lib.hid K9.out.blk4; have HF10 := Lib.hid (fun v0 v1 v2 v3 v4 v5 => HF.out _ ((putA_other _ w.heap.size v0 v1 v2 v3 v4 v5 A HNE.out.1).trans K9.out.blk3) ((putA_other _ w.heap.size v0 v1 v2 v3 v4 v5 B HNE.out.2).trans K9.out.blk2)); unfold putA at HF10; obtain ⟨⟨z0, z1, z2, z3, z4, z5⟩, y0, y1, y2, y3, y4, y5⟩ := six_facts HG9.out))
  have h8s := H8S.out
  have h7s := H7S.out
  have hdr : w7.drew.heap.size = w7.heap.size := rfl
  obtain ⟨V, hV⟩ : ∃ V : World, V = putA (w8.alloc (.cells #[.string yb.op, .int .i64 yb.val, .string yb.nm, .int .i64 yb.pos, .int .i64 yb.apos, .slice oa na na, .string yy.op, .int .i64 yy.val, .string yy.nm, .int .i64 yy.pos, .int .i64 yy.apos, .slice oy ny ny, .string yz.op, .int .i64 yz.val, .string yz.nm, .int .i64 yz.pos, .int .i64 yz.apos, .slice oz nz nz] 30)) w.heap.size (.string ⟨#[63]⟩) (.int .i64 0) (.string ⟨#[]⟩) (.int .i64 p1) (.int .i64 0) (.slice (some ⟨w8.heap.size, 0, none⟩) 3 3) := ⟨_, rfl⟩
  have hV' := hV
  unfold putA at hV'
  rw [← hV']
  clear hV'
  have HVO : Hid (∀ k', k' ≠ w.heap.size → k' < w8.heap.size → V.heap[k']? = w8.heap[k']?) := Lib.hid fun k' h1 h2 => by rw [hV]; exact (putA_other _ _ _ _ _ _ _ _ _ h1).trans (alloc_at_old _ _ _ h2)
  have HVR : Hid (V.heap[w.heap.size]? = some (.cells #[.string ⟨#[63]⟩, .int .i64 0, .string ⟨#[]⟩, .int .i64 p1, .int .i64 0, .slice (some ⟨w8.heap.size, 0, none⟩) 3 3] 30)) := Lib.hid (by rw [hV]; exact putA_at HG9.out _ _ _ _ _ _)
  have HVC : Hid (Ch rb w V) := Lib.hid (by rw [hV]; exact putA_ch K9.out.ch (Nat.le_refl _) (Nat.le_of_lt hrw) _ _ _ _ _ _)
  have HVK : Hid (V.heap[w8.heap.size]? = some (.cells #[.string yb.op, .int .i64 yb.val, .string yb.nm, .int .i64 yb.pos, .int .i64 yb.apos, .slice oa na na, .string yy.op, .int .i64 yy.val, .string yy.nm, .int .i64 yy.pos, .int .i64 yy.apos, .slice oy ny ny, .string yz.op, .int .i64 yz.val, .string yz.nm, .int .i64 yz.pos, .int .i64 yz.apos, .slice oz nz nz] 30)) := Lib.hid (by rw [hV]; exact (putA_other _ _ _ _ _ _ _ _ _ (by omega)).trans (heap_alloc_last w8 _))
  have HVQ : Hid (RaQ l bv rb (n + 1) w.heap.size res yz (.slice oz nz nz) V) := Lib.hid (HQ.out.move (HVO.out _ (by omega) (by omega)) (sl_chR HS.out HAP.out HVC.out) (fun k' hk' hs' => HVO.out _ (by omega) hs') (by omega) (Nat.le_succ _))
  have HIA8 := Lib.hid (HIA7.out.ch (by omega) (ch_of_drew HC8.out))
  have HIY8 := Lib.hid (HIY7.out.ch (by omega) (ch_of_drew HC8.out))
  have HVA : Hid (yb.In V w.heap.size (.slice oa na na)) := Lib.hid ((HIA8.out.kept (fun k' hk' hs' => HVO.out _ (by omega) hs') _ _).mono (by omega) _ _)
  have HVY : Hid (yy.In V w.heap.size (.slice oy ny ny)) := Lib.hid ((HIY8.out.kept (fun k' hk' hs' => HVO.out _ (by omega) hs') _ _).mono (by omega) _ _)
  clear hV z0 z1 z2 z3 z4 z5 y0 y1 y2 y3 y4 y5 HF10
  go_wp2_with fail
  refine bodyPost_ret (results_ar rfl _ _ w.heap.size _ rfl HVR.out rfl) rfl ⟨⟨.cond sQue p1 yb yy yz, _, _, rfl, ?_⟩, HVC.out⟩
  rw [HST1.out]
  exact HVQ.out.cond HVA.out HVY.out HVK.out (Nat.le_of_lt h8s) sQue p1

end Go.Proofs.YtacfglopionkfaaGreatDoor
/- The reference's reader of arithmetic: operand, at a sign or a parenthesis (gen_raf.py). -/
namespace Go.Proofs.YtacfglopionkfaaGreatDoor
open Go.RowKit

theorem RaQ.un {l : List Int} {bv : Value} {rb n lo b : Nat} {r : Rs} {y : Tr} {kv : Value} {w : World} (h : RaQ l bv rb n lo r y kv w) (hb : w.heap[b]? = some (.cells #[.string y.op, .int .i64 y.val, .string y.nm, .int .i64 y.pos, .int .i64 y.apos, kv] 30)) (hlo : lo ≤ b) (op : ByteArray) (p : Nat) : RaQ l bv rb n lo (r.map (.un op p)) (.un op p y) (.slice (some ⟨b, 0, none⟩) 1 1) w := by
  cases r with
  | ok t nx =>
    obtain ⟨rfl, hi, hk⟩ := h
    exact ⟨rfl, ⟨b, kv, rfl, hlo, hb, hi⟩, hk⟩
  | bad c q => exact h

set_option maxRecDepth 100000 in
set_option maxHeartbeats 8000000 in
theorem ra_opd_plus {l : List Int} {bv : Value} {rb n k : Nat} {w : World} (ih : RaC l bv rb n) {res : Rs} (hs : sgB l k = ⟨#[43]⟩) (hx : rd l n .opd (tok l (skipN l k + 1)) = some res) (h : RaS l bv rb k 0 0 w) (hk : k ≤ l.length) :
    Calls Tryz.prog 147 #[.pointer (some ⟨rb, 0, none⟩)] w fun e w' => RaO l bv rb (n + 1) w.heap.size (res.map (.un (⟨#[117]⟩ ++ ⟨#[43]⟩) (skipN l k))) e w' ∧ Ch rb w w' := by

  have hrw := h.lt
  have hll := h.len
  have HS := Lib.hid h.sl
  have HAP := Lib.hid h.ap
  have hsk := skipN_le l k hk
  have hst := sg_stop l k hk
  obtain ⟨W, hW⟩ : ∃ W, W = w.alloc zrO := ⟨_, rfl⟩
  have HB0 : Hid (Below w.heap.size w W) := Lib.hid (by rw [hW]; exact (Below.refl _ _).alloc (Nat.le_refl _) _)
  have HK0 : Hid (Kp rb w W [(w.heap.size, zrO)]) := Lib.hid (by rw [hW]; exact Kp.start rb w hrw zrO)
  have HSG := Lib.hid (ra_sign (h.next HB0.out))
  have HWE := Lib.hid hW
  clear hW h
  obtain ⟨p, hpe⟩ : ∃ p, skipN l k = p := ⟨_, rfl⟩
  rw [hpe] at HSG hsk hst hx ⊢
  rw [hs] at HSG hst
  have hst1 : p + 1 ≤ l.length := hst
  clear hst hs
  have HPE := Lib.hid hpe
  clear hpe
  unfold zrO at HWE
  go_enter Tryz.func147, Tryz.ntmps147
  go_upto_region 1 with fail
  rw [← HWE.out]
  go_wp2_with fail
  refine HSG.out.mono ?_
  rintro x w1 ⟨rfl, hr1, hc1⟩
  have HR1 := Lib.hid hr1
  have K1 := Lib.hid (HK0.out.next hrw hc1)
  clear hr1 hc1 HSG
  obtain ⟨e0, e1, e2, _, _⟩ := HR1.out.cells
  have f1 := HR1.out.fr 1
  have HR2 : Hid (RaS l bv rb (p + 1) 0 0 (w1.setCell ⟨rb, 1, none⟩ (.int .i64 ((p : Int) + 1)))) := Lib.hid (HR1.out.setK (p + 1) (by omega))
  have K2 := Lib.hid (K1.out.next hrw (Ch.set (rb := rb) w1 1 (.int .i64 ((p : Int) + 1))))
  have H2S : Hid (w.heap.size < (w1.setCell ⟨rb, 1, none⟩ (.int .i64 ((p : Int) + 1))).heap.size) := Lib.hid (lt_of_heap K2.out.blk1)
  have HOP := Lib.hid (ih.opd (p + 1) res _ hx HR2.out hst1)
  go_wp2_with fail
  refine HOP.out.mono ?_
  rintro x w3 ⟨⟨y, oy, ny, rfl, hq3⟩, hc3⟩
  have K3 := Lib.hid (K2.out.next hrw hc3)
  have HQ3 := Lib.hid hq3
  have K4 := Lib.hid (K3.out.add hrw (.cells #[.string y.op, .int .i64 y.val, .string y.nm, .int .i64 y.pos, .int .i64 y.apos, .slice oy ny ny] 30))
  have HG4 := Lib.hid K4.out.blk2
  have h3s := lt_of_heap K3.out.blk1
  unfold zrO at HG4
  clear hq3 hc3 HOP e0 e1 e2 f1
  go_wp2_with (first | (refine wpList_store_ar rfl _ _ rfl rfl w.heap.size (⟨#[117]⟩ ++ ⟨#[43]⟩) 0 ⟨#[]⟩ p 0 (.slice (some ⟨w3.heap.size, 0, none⟩) 1 1) rfl rfl rfl _ HG4.out rfl ?_) | fail)
  have hC := K4.out.ch.rowNew (Nat.le_refl _) hrw #[.string (⟨#[117]⟩ ++ ⟨#[43]⟩), .int .i64 0, .string ⟨#[]⟩, .int .i64 p, .int .i64 0, .slice (some ⟨w3.heap.size, 0, none⟩) 1 1]
  have hO : ∀ k', k' ≠ w.heap.size → ((w3.alloc (.cells #[.string y.op, .int .i64 y.val, .string y.nm, .int .i64 y.pos, .int .i64 y.apos, .slice oy ny ny] 30)).setRow w.heap.size #[.string (⟨#[117]⟩ ++ ⟨#[43]⟩), .int .i64 0, .string ⟨#[]⟩, .int .i64 p, .int .i64 0, .slice (some ⟨w3.heap.size, 0, none⟩) 1 1]).heap[k']? = (w3.alloc (.cells #[.string y.op, .int .i64 y.val, .string y.nm, .int .i64 y.pos, .int .i64 y.apos, .slice oy ny ny] 30)).heap[k']? := fun k' hk' => by
    show ((w3.alloc (.cells #[.string y.op, .int .i64 y.val, .string y.nm, .int .i64 y.pos, .int .i64 y.apos, .slice oy ny ny] 30)).heap.modify w.heap.size _)[k']? = _
    rw [Array.getElem?_modify, if_neg (fun e => hk' e.symm)]
  have h2s := H2S.out
  have hQ : RaQ l bv rb (n + 1) w.heap.size res y (.slice oy ny ny) ((w3.alloc (.cells #[.string y.op, .int .i64 y.val, .string y.nm, .int .i64 y.pos, .int .i64 y.apos, .slice oy ny ny] 30)).setRow w.heap.size #[.string (⟨#[117]⟩ ++ ⟨#[43]⟩), .int .i64 0, .string ⟨#[]⟩, .int .i64 p, .int .i64 0, .slice (some ⟨w3.heap.size, 0, none⟩) 1 1]) := HQ3.out.move ((hO _ (by omega)).trans (alloc_at_old _ _ _ (by omega))) (sl_chR HS.out HAP.out hC) (fun k' hk' hs' => (hO _ (by omega)).trans (alloc_at_old _ _ _ hs')) (by omega) (Nat.le_succ _)
  exact bodyPost_ret (results_ar rfl _ _ w.heap.size _ rfl (setRow_self HG4.out _) rfl) rfl ⟨⟨.un (⟨#[117]⟩ ++ ⟨#[43]⟩) p y, _, _, rfl, hQ.un ((hO _ (by omega)).trans (heap_alloc_last w3 _)) (by omega) (⟨#[117]⟩ ++ ⟨#[43]⟩) p⟩, hC⟩

set_option maxRecDepth 100000 in
set_option maxHeartbeats 8000000 in
theorem ra_opd_minus {l : List Int} {bv : Value} {rb n k : Nat} {w : World} (ih : RaC l bv rb n) {res : Rs} (hs : sgB l k = ⟨#[45]⟩) (hx : rd l n .opd (tok l (skipN l k + 1)) = some res) (h : RaS l bv rb k 0 0 w) (hk : k ≤ l.length) :
    Calls Tryz.prog 147 #[.pointer (some ⟨rb, 0, none⟩)] w fun e w' => RaO l bv rb (n + 1) w.heap.size (res.map (.un (⟨#[117]⟩ ++ ⟨#[45]⟩) (skipN l k))) e w' ∧ Ch rb w w' := by

  have hrw := h.lt
  have hll := h.len
  have HS := Lib.hid h.sl
  have HAP := Lib.hid h.ap
  have hsk := skipN_le l k hk
  have hst := sg_stop l k hk
  obtain ⟨W, hW⟩ : ∃ W, W = w.alloc zrO := ⟨_, rfl⟩
  have HB0 : Hid (Below w.heap.size w W) := Lib.hid (by rw [hW]; exact (Below.refl _ _).alloc (Nat.le_refl _) _)
  have HK0 : Hid (Kp rb w W [(w.heap.size, zrO)]) := Lib.hid (by rw [hW]; exact Kp.start rb w hrw zrO)
  have HSG := Lib.hid (ra_sign (h.next HB0.out))
  have HWE := Lib.hid hW
  clear hW h
  obtain ⟨p, hpe⟩ : ∃ p, skipN l k = p := ⟨_, rfl⟩
  rw [hpe] at HSG hsk hst hx ⊢
  rw [hs] at HSG hst
  have hst1 : p + 1 ≤ l.length := hst
  clear hst hs
  have HPE := Lib.hid hpe
  clear hpe
  unfold zrO at HWE
  go_enter Tryz.func147, Tryz.ntmps147
  go_upto_region 1 with fail
  rw [← HWE.out]
  go_wp2_with fail
  refine HSG.out.mono ?_
  rintro x w1 ⟨rfl, hr1, hc1⟩
  have HR1 := Lib.hid hr1
  have K1 := Lib.hid (HK0.out.next hrw hc1)
  clear hr1 hc1 HSG
  obtain ⟨e0, e1, e2, _, _⟩ := HR1.out.cells
  have f1 := HR1.out.fr 1
  have HR2 : Hid (RaS l bv rb (p + 1) 0 0 (w1.setCell ⟨rb, 1, none⟩ (.int .i64 ((p : Int) + 1)))) := Lib.hid (HR1.out.setK (p + 1) (by omega))
  have K2 := Lib.hid (K1.out.next hrw (Ch.set (rb := rb) w1 1 (.int .i64 ((p : Int) + 1))))
  have H2S : Hid (w.heap.size < (w1.setCell ⟨rb, 1, none⟩ (.int .i64 ((p : Int) + 1))).heap.size) := Lib.hid (lt_of_heap K2.out.blk1)
  have HOP := Lib.hid (ih.opd (p + 1) res _ hx HR2.out hst1)
  go_wp2_with fail
  refine HOP.out.mono ?_
  rintro x w3 ⟨⟨y, oy, ny, rfl, hq3⟩, hc3⟩
  have K3 := Lib.hid (K2.out.next hrw hc3)
  have HQ3 := Lib.hid hq3
  have K4 := Lib.hid (K3.out.add hrw (.cells #[.string y.op, .int .i64 y.val, .string y.nm, .int .i64 y.pos, .int .i64 y.apos, .slice oy ny ny] 30))
  have HG4 := Lib.hid K4.out.blk2
  have h3s := lt_of_heap K3.out.blk1
  unfold zrO at HG4
  clear hq3 hc3 HOP e0 e1 e2 f1
  go_wp2_with (first | (refine wpList_store_ar rfl _ _ rfl rfl w.heap.size (⟨#[117]⟩ ++ ⟨#[45]⟩) 0 ⟨#[]⟩ p 0 (.slice (some ⟨w3.heap.size, 0, none⟩) 1 1) rfl rfl rfl _ HG4.out rfl ?_) | fail)
  have hC := K4.out.ch.rowNew (Nat.le_refl _) hrw #[.string (⟨#[117]⟩ ++ ⟨#[45]⟩), .int .i64 0, .string ⟨#[]⟩, .int .i64 p, .int .i64 0, .slice (some ⟨w3.heap.size, 0, none⟩) 1 1]
  have hO : ∀ k', k' ≠ w.heap.size → ((w3.alloc (.cells #[.string y.op, .int .i64 y.val, .string y.nm, .int .i64 y.pos, .int .i64 y.apos, .slice oy ny ny] 30)).setRow w.heap.size #[.string (⟨#[117]⟩ ++ ⟨#[45]⟩), .int .i64 0, .string ⟨#[]⟩, .int .i64 p, .int .i64 0, .slice (some ⟨w3.heap.size, 0, none⟩) 1 1]).heap[k']? = (w3.alloc (.cells #[.string y.op, .int .i64 y.val, .string y.nm, .int .i64 y.pos, .int .i64 y.apos, .slice oy ny ny] 30)).heap[k']? := fun k' hk' => by
    show ((w3.alloc (.cells #[.string y.op, .int .i64 y.val, .string y.nm, .int .i64 y.pos, .int .i64 y.apos, .slice oy ny ny] 30)).heap.modify w.heap.size _)[k']? = _
    rw [Array.getElem?_modify, if_neg (fun e => hk' e.symm)]
  have h2s := H2S.out
  have hQ : RaQ l bv rb (n + 1) w.heap.size res y (.slice oy ny ny) ((w3.alloc (.cells #[.string y.op, .int .i64 y.val, .string y.nm, .int .i64 y.pos, .int .i64 y.apos, .slice oy ny ny] 30)).setRow w.heap.size #[.string (⟨#[117]⟩ ++ ⟨#[45]⟩), .int .i64 0, .string ⟨#[]⟩, .int .i64 p, .int .i64 0, .slice (some ⟨w3.heap.size, 0, none⟩) 1 1]) := HQ3.out.move ((hO _ (by omega)).trans (alloc_at_old _ _ _ (by omega))) (sl_chR HS.out HAP.out hC) (fun k' hk' hs' => (hO _ (by omega)).trans (alloc_at_old _ _ _ hs')) (by omega) (Nat.le_succ _)
  exact bodyPost_ret (results_ar rfl _ _ w.heap.size _ rfl (setRow_self HG4.out _) rfl) rfl ⟨⟨.un (⟨#[117]⟩ ++ ⟨#[45]⟩) p y, _, _, rfl, hQ.un ((hO _ (by omega)).trans (heap_alloc_last w3 _)) (by omega) (⟨#[117]⟩ ++ ⟨#[45]⟩) p⟩, hC⟩

set_option maxRecDepth 100000 in
set_option maxHeartbeats 8000000 in
theorem ra_opd_bang {l : List Int} {bv : Value} {rb n k : Nat} {w : World} (ih : RaC l bv rb n) {res : Rs} (hs : sgB l k = ⟨#[33]⟩) (hx : rd l n .opd (tok l (skipN l k + 1)) = some res) (h : RaS l bv rb k 0 0 w) (hk : k ≤ l.length) :
    Calls Tryz.prog 147 #[.pointer (some ⟨rb, 0, none⟩)] w fun e w' => RaO l bv rb (n + 1) w.heap.size (res.map (.un ⟨#[33]⟩ (skipN l k))) e w' ∧ Ch rb w w' := by

  have hrw := h.lt
  have hll := h.len
  have HS := Lib.hid h.sl
  have HAP := Lib.hid h.ap
  have hsk := skipN_le l k hk
  have hst := sg_stop l k hk
  obtain ⟨W, hW⟩ : ∃ W, W = w.alloc zrO := ⟨_, rfl⟩
  have HB0 : Hid (Below w.heap.size w W) := Lib.hid (by rw [hW]; exact (Below.refl _ _).alloc (Nat.le_refl _) _)
  have HK0 : Hid (Kp rb w W [(w.heap.size, zrO)]) := Lib.hid (by rw [hW]; exact Kp.start rb w hrw zrO)
  have HSG := Lib.hid (ra_sign (h.next HB0.out))
  have HWE := Lib.hid hW
  clear hW h
  obtain ⟨p, hpe⟩ : ∃ p, skipN l k = p := ⟨_, rfl⟩
  rw [hpe] at HSG hsk hst hx ⊢
  rw [hs] at HSG hst
  have hst1 : p + 1 ≤ l.length := hst
  clear hst hs
  have HPE := Lib.hid hpe
  clear hpe
  unfold zrO at HWE
  go_enter Tryz.func147, Tryz.ntmps147
  go_upto_region 1 with fail
  rw [← HWE.out]
  go_wp2_with fail
  refine HSG.out.mono ?_
  rintro x w1 ⟨rfl, hr1, hc1⟩
  have HR1 := Lib.hid hr1
  have K1 := Lib.hid (HK0.out.next hrw hc1)
  clear hr1 hc1 HSG
  obtain ⟨e0, e1, e2, _, _⟩ := HR1.out.cells
  have f1 := HR1.out.fr 1
  have HR2 : Hid (RaS l bv rb (p + 1) 0 0 (w1.setCell ⟨rb, 1, none⟩ (.int .i64 ((p : Int) + 1)))) := Lib.hid (HR1.out.setK (p + 1) (by omega))
  have K2 := Lib.hid (K1.out.next hrw (Ch.set (rb := rb) w1 1 (.int .i64 ((p : Int) + 1))))
  have H2S : Hid (w.heap.size < (w1.setCell ⟨rb, 1, none⟩ (.int .i64 ((p : Int) + 1))).heap.size) := Lib.hid (lt_of_heap K2.out.blk1)
  have HOP := Lib.hid (ih.opd (p + 1) res _ hx HR2.out hst1)
  go_wp2_with fail
  refine HOP.out.mono ?_
  rintro x w3 ⟨⟨y, oy, ny, rfl, hq3⟩, hc3⟩
  have K3 := Lib.hid (K2.out.next hrw hc3)
  have HQ3 := Lib.hid hq3
  have K4 := Lib.hid (K3.out.add hrw (.cells #[.string y.op, .int .i64 y.val, .string y.nm, .int .i64 y.pos, .int .i64 y.apos, .slice oy ny ny] 30))
  have HG4 := Lib.hid K4.out.blk2
  have h3s := lt_of_heap K3.out.blk1
  unfold zrO at HG4
  clear hq3 hc3 HOP e0 e1 e2 f1
  go_wp2_with (first | (refine wpList_store_ar rfl _ _ rfl rfl w.heap.size ⟨#[33]⟩ 0 ⟨#[]⟩ p 0 (.slice (some ⟨w3.heap.size, 0, none⟩) 1 1) rfl rfl rfl _ HG4.out rfl ?_) | fail)
  have hC := K4.out.ch.rowNew (Nat.le_refl _) hrw #[.string ⟨#[33]⟩, .int .i64 0, .string ⟨#[]⟩, .int .i64 p, .int .i64 0, .slice (some ⟨w3.heap.size, 0, none⟩) 1 1]
  have hO : ∀ k', k' ≠ w.heap.size → ((w3.alloc (.cells #[.string y.op, .int .i64 y.val, .string y.nm, .int .i64 y.pos, .int .i64 y.apos, .slice oy ny ny] 30)).setRow w.heap.size #[.string ⟨#[33]⟩, .int .i64 0, .string ⟨#[]⟩, .int .i64 p, .int .i64 0, .slice (some ⟨w3.heap.size, 0, none⟩) 1 1]).heap[k']? = (w3.alloc (.cells #[.string y.op, .int .i64 y.val, .string y.nm, .int .i64 y.pos, .int .i64 y.apos, .slice oy ny ny] 30)).heap[k']? := fun k' hk' => by
    show ((w3.alloc (.cells #[.string y.op, .int .i64 y.val, .string y.nm, .int .i64 y.pos, .int .i64 y.apos, .slice oy ny ny] 30)).heap.modify w.heap.size _)[k']? = _
    rw [Array.getElem?_modify, if_neg (fun e => hk' e.symm)]
  have h2s := H2S.out
  have hQ : RaQ l bv rb (n + 1) w.heap.size res y (.slice oy ny ny) ((w3.alloc (.cells #[.string y.op, .int .i64 y.val, .string y.nm, .int .i64 y.pos, .int .i64 y.apos, .slice oy ny ny] 30)).setRow w.heap.size #[.string ⟨#[33]⟩, .int .i64 0, .string ⟨#[]⟩, .int .i64 p, .int .i64 0, .slice (some ⟨w3.heap.size, 0, none⟩) 1 1]) := HQ3.out.move ((hO _ (by omega)).trans (alloc_at_old _ _ _ (by omega))) (sl_chR HS.out HAP.out hC) (fun k' hk' hs' => (hO _ (by omega)).trans (alloc_at_old _ _ _ hs')) (by omega) (Nat.le_succ _)
  exact bodyPost_ret (results_ar rfl _ _ w.heap.size _ rfl (setRow_self HG4.out _) rfl) rfl ⟨⟨.un ⟨#[33]⟩ p y, _, _, rfl, hQ.un ((hO _ (by omega)).trans (heap_alloc_last w3 _)) (by omega) ⟨#[33]⟩ p⟩, hC⟩

set_option maxRecDepth 100000 in
set_option maxHeartbeats 8000000 in
theorem ra_opd_tilde {l : List Int} {bv : Value} {rb n k : Nat} {w : World} (ih : RaC l bv rb n) {res : Rs} (hs : sgB l k = ⟨#[126]⟩) (hx : rd l n .opd (tok l (skipN l k + 1)) = some res) (h : RaS l bv rb k 0 0 w) (hk : k ≤ l.length) :
    Calls Tryz.prog 147 #[.pointer (some ⟨rb, 0, none⟩)] w fun e w' => RaO l bv rb (n + 1) w.heap.size (res.map (.un ⟨#[126]⟩ (skipN l k))) e w' ∧ Ch rb w w' := by

  have hrw := h.lt
  have hll := h.len
  have HS := Lib.hid h.sl
  have HAP := Lib.hid h.ap
  have hsk := skipN_le l k hk
  have hst := sg_stop l k hk
  obtain ⟨W, hW⟩ : ∃ W, W = w.alloc zrO := ⟨_, rfl⟩
  have HB0 : Hid (Below w.heap.size w W) := Lib.hid (by rw [hW]; exact (Below.refl _ _).alloc (Nat.le_refl _) _)
  have HK0 : Hid (Kp rb w W [(w.heap.size, zrO)]) := Lib.hid (by rw [hW]; exact Kp.start rb w hrw zrO)
  have HSG := Lib.hid (ra_sign (h.next HB0.out))
  have HWE := Lib.hid hW
  clear hW h
  obtain ⟨p, hpe⟩ : ∃ p, skipN l k = p := ⟨_, rfl⟩
  rw [hpe] at HSG hsk hst hx ⊢
  rw [hs] at HSG hst
  have hst1 : p + 1 ≤ l.length := hst
  clear hst hs
  have HPE := Lib.hid hpe
  clear hpe
  unfold zrO at HWE
  go_enter Tryz.func147, Tryz.ntmps147
  go_upto_region 1 with fail
  rw [← HWE.out]
  go_wp2_with fail
  refine HSG.out.mono ?_
  rintro x w1 ⟨rfl, hr1, hc1⟩
  have HR1 := Lib.hid hr1
  have K1 := Lib.hid (HK0.out.next hrw hc1)
  clear hr1 hc1 HSG
  obtain ⟨e0, e1, e2, _, _⟩ := HR1.out.cells
  have f1 := HR1.out.fr 1
  have HR2 : Hid (RaS l bv rb (p + 1) 0 0 (w1.setCell ⟨rb, 1, none⟩ (.int .i64 ((p : Int) + 1)))) := Lib.hid (HR1.out.setK (p + 1) (by omega))
  have K2 := Lib.hid (K1.out.next hrw (Ch.set (rb := rb) w1 1 (.int .i64 ((p : Int) + 1))))
  have H2S : Hid (w.heap.size < (w1.setCell ⟨rb, 1, none⟩ (.int .i64 ((p : Int) + 1))).heap.size) := Lib.hid (lt_of_heap K2.out.blk1)
  have HOP := Lib.hid (ih.opd (p + 1) res _ hx HR2.out hst1)
  go_wp2_with fail
  refine HOP.out.mono ?_
  rintro x w3 ⟨⟨y, oy, ny, rfl, hq3⟩, hc3⟩
  have K3 := Lib.hid (K2.out.next hrw hc3)
  have HQ3 := Lib.hid hq3
  have K4 := Lib.hid (K3.out.add hrw (.cells #[.string y.op, .int .i64 y.val, .string y.nm, .int .i64 y.pos, .int .i64 y.apos, .slice oy ny ny] 30))
  have HG4 := Lib.hid K4.out.blk2
  have h3s := lt_of_heap K3.out.blk1
  unfold zrO at HG4
  clear hq3 hc3 HOP e0 e1 e2 f1
  go_wp2_with (first | (refine wpList_store_ar rfl _ _ rfl rfl w.heap.size ⟨#[126]⟩ 0 ⟨#[]⟩ p 0 (.slice (some ⟨w3.heap.size, 0, none⟩) 1 1) rfl rfl rfl _ HG4.out rfl ?_) | fail)
  have hC := K4.out.ch.rowNew (Nat.le_refl _) hrw #[.string ⟨#[126]⟩, .int .i64 0, .string ⟨#[]⟩, .int .i64 p, .int .i64 0, .slice (some ⟨w3.heap.size, 0, none⟩) 1 1]
  have hO : ∀ k', k' ≠ w.heap.size → ((w3.alloc (.cells #[.string y.op, .int .i64 y.val, .string y.nm, .int .i64 y.pos, .int .i64 y.apos, .slice oy ny ny] 30)).setRow w.heap.size #[.string ⟨#[126]⟩, .int .i64 0, .string ⟨#[]⟩, .int .i64 p, .int .i64 0, .slice (some ⟨w3.heap.size, 0, none⟩) 1 1]).heap[k']? = (w3.alloc (.cells #[.string y.op, .int .i64 y.val, .string y.nm, .int .i64 y.pos, .int .i64 y.apos, .slice oy ny ny] 30)).heap[k']? := fun k' hk' => by
    show ((w3.alloc (.cells #[.string y.op, .int .i64 y.val, .string y.nm, .int .i64 y.pos, .int .i64 y.apos, .slice oy ny ny] 30)).heap.modify w.heap.size _)[k']? = _
    rw [Array.getElem?_modify, if_neg (fun e => hk' e.symm)]
  have h2s := H2S.out
  have hQ : RaQ l bv rb (n + 1) w.heap.size res y (.slice oy ny ny) ((w3.alloc (.cells #[.string y.op, .int .i64 y.val, .string y.nm, .int .i64 y.pos, .int .i64 y.apos, .slice oy ny ny] 30)).setRow w.heap.size #[.string ⟨#[126]⟩, .int .i64 0, .string ⟨#[]⟩, .int .i64 p, .int .i64 0, .slice (some ⟨w3.heap.size, 0, none⟩) 1 1]) := HQ3.out.move ((hO _ (by omega)).trans (alloc_at_old _ _ _ (by omega))) (sl_chR HS.out HAP.out hC) (fun k' hk' hs' => (hO _ (by omega)).trans (alloc_at_old _ _ _ hs')) (by omega) (Nat.le_succ _)
  exact bodyPost_ret (results_ar rfl _ _ w.heap.size _ rfl (setRow_self HG4.out _) rfl) rfl ⟨⟨.un ⟨#[126]⟩ p y, _, _, rfl, hQ.un ((hO _ (by omega)).trans (heap_alloc_last w3 _)) (by omega) ⟨#[126]⟩ p⟩, hC⟩

set_option maxRecDepth 100000 in
set_option maxHeartbeats 8000000 in
theorem ra_opd_px {l : List Int} {bv : Value} {rb n k : Nat} {w : World} (ih : RaC l bv rb n) {c q : Nat} (hs : sgB l k = ⟨#[40]⟩) (hx : rd l n .expr (tok l (skipN l k + 1)) = some (.bad c q)) (hn : n ≤ 100000) (h : RaS l bv rb k 0 0 w) (hk : k ≤ l.length) :
    Calls Tryz.prog 147 #[.pointer (some ⟨rb, 0, none⟩)] w fun e w' => RaO l bv rb (n + 1) w.heap.size (.bad c q) e w' ∧ Ch rb w w' := by

  have hrw := h.lt
  have hll := h.len
  have HS := Lib.hid h.sl
  have HAP := Lib.hid h.ap
  have hsk := skipN_le l k hk
  have hst := sg_stop l k hk
  obtain ⟨W, hW⟩ : ∃ W, W = w.alloc zrO := ⟨_, rfl⟩
  have HB0 : Hid (Below w.heap.size w W) := Lib.hid (by rw [hW]; exact (Below.refl _ _).alloc (Nat.le_refl _) _)
  have HK0 : Hid (Kp rb w W [(w.heap.size, zrO)]) := Lib.hid (by rw [hW]; exact Kp.start rb w hrw zrO)
  have HSG := Lib.hid (ra_sign (h.next HB0.out))
  have HWE := Lib.hid hW
  clear hW h
  obtain ⟨p, hpe⟩ : ∃ p, skipN l k = p := ⟨_, rfl⟩
  rw [hpe] at HSG hsk hst hx
  rw [hs] at HSG hst
  have hst1 : p + 1 ≤ l.length := hst
  clear hst hs
  have HPE := Lib.hid hpe
  clear hpe
  unfold zrO at HWE
  go_enter Tryz.func147, Tryz.ntmps147
  go_upto_region 1 with fail
  rw [← HWE.out]
  go_wp2_with fail
  refine HSG.out.mono ?_
  rintro x w1 ⟨rfl, hr1, hc1⟩
  have HR1 := Lib.hid hr1
  have K1 := Lib.hid (HK0.out.next hrw hc1)
  clear hr1 hc1 HSG
  obtain ⟨e0, e1, e2, _, _⟩ := HR1.out.cells
  have f1 := HR1.out.fr 1
  have HR2 : Hid (RaS l bv rb (p + 1) 0 0 (w1.setCell ⟨rb, 1, none⟩ (.int .i64 ((p : Int) + 1)))) := Lib.hid (HR1.out.setK (p + 1) (by omega))
  have K2 := Lib.hid (K1.out.next hrw (Ch.set (rb := rb) w1 1 (.int .i64 ((p : Int) + 1))))
  have H2S : Hid (w.heap.size < (w1.setCell ⟨rb, 1, none⟩ (.int .i64 ((p : Int) + 1))).heap.size) := Lib.hid (lt_of_heap K2.out.blk1)
  have HEX := Lib.hid (ih.expr (p + 1) _ _ hx HR2.out hst1)
  go_wp2_with fail
  refine HEX.out.mono ?_
  rintro x w3 ⟨⟨yb, oa, na, rfl, hq3⟩, hc3⟩
  have K3 := Lib.hid (K2.out.next hrw hc3)
  have HQ3 := Lib.hid hq3
  have K4 := Lib.hid (K3.out.add hrw (.cells #[.string yb.op, .int .i64 yb.val, .string yb.nm, .int .i64 yb.pos, .int .i64 yb.apos, .slice oa na na] 30))
  have H3S := Lib.hid (lt_of_heap K3.out.blk1)
  have h2s := H2S.out
  clear hq3 hc3 HEX e0 e1 e2 f1 HR2 K2
  obtain ⟨hc0, kk, hr3, hkl⟩ := HQ3.out
  obtain ⟨c1, rfl⟩ : ∃ c1, c = c1 + 1 := ⟨c - 1, by omega⟩
  have hr4 := hr3.next ((Below.refl _ _).alloc (Nat.le_refl _) (.cells #[.string yb.op, .int .i64 yb.val, .string yb.nm, .int .i64 yb.pos, .int .i64 yb.apos, .slice oa na na] 30))
  obtain ⟨e0, e1, e2, _, _⟩ := hr4.cells
  have f1 := hr4.fr 1
  have hcn : (((c1 + 1 : Nat) : Int) == 0) = false := by simp; omega
  have HR5 : Hid (RaS l bv rb (kk + 1) (c1 + 1) q ((w3.alloc (.cells #[.string yb.op, .int .i64 yb.val, .string yb.nm, .int .i64 yb.pos, .int .i64 yb.apos, .slice oa na na] 30)).setCell ⟨rb, 1, none⟩ (.int .i64 ((kk : Int) + 1)))) := Lib.hid (hr4.setK (kk + 1) (by omega))
  have K5 := Lib.hid (K4.out.next hrw (Ch.set (rb := rb) (w3.alloc (.cells #[.string yb.op, .int .i64 yb.val, .string yb.nm, .int .i64 yb.pos, .int .i64 yb.apos, .slice oa na na] 30)) 1 (.int .i64 ((kk : Int) + 1))))
  have HZQ : Hid (∀ g x, w.heap.size ≤ g → RaS l bv rb (kk + 1) (c1 + 1) q (((w3.alloc (.cells #[.string yb.op, .int .i64 yb.val, .string yb.nm, .int .i64 yb.pos, .int .i64 yb.apos, .slice oa na na] 30)).setCell ⟨rb, 1, none⟩ (.int .i64 ((kk : Int) + 1))).setRow g x)) := Lib.hid fun g x hg => HR5.out.rowN HS.out K5.out.ch hrw hg x
  have hkm : kk ≤ 1000000 := hr4.hi
  clear hr3 hr4 HQ3
  obtain ⟨⟨k0, k1, k2, k3, k4, k5⟩, _⟩ := six_facts K5.out.blk1
  have HG9 := Lib.hid K5.out.blk2
  unfold zrO at HG9
  go_wp2_with (first | (refine wpList_store_ar rfl _ _ rfl rfl w.heap.size yb.op yb.val yb.nm yb.pos yb.apos (.slice oa na na) rfl rfl rfl _ HG9.out rfl ?_) | fail)
  exact bodyPost_ret (results_ar rfl _ _ w.heap.size _ rfl (setRow_self HG9.out _) rfl) rfl ⟨⟨yb, oa, na, rfl, ⟨by omega, _, HZQ.out _ _ (Nat.le_refl _), by omega⟩⟩, K5.out.ch.rowNew (Nat.le_refl _) hrw _⟩

set_option maxRecDepth 100000 in
set_option maxHeartbeats 8000000 in
theorem ra_opd_pc {l : List Int} {bv : Value} {rb n k : Nat} {w : World} (ih : RaC l bv rb n) {t : Tr} {t1 : Tk} (hs : sgB l k = ⟨#[40]⟩) (hx : rd l n .expr (tok l (skipN l k + 1)) = some (.ok t t1)) (hnc : ¬ t1.text = sShut) (h : RaS l bv rb k 0 0 w) (hk : k ≤ l.length) :
    Calls Tryz.prog 147 #[.pointer (some ⟨rb, 0, none⟩)] w fun e w' => RaO l bv rb (n + 1) w.heap.size (refuse t1) e w' ∧ Ch rb w w' := by

  have hrw := h.lt
  have hll := h.len
  have HS := Lib.hid h.sl
  have HAP := Lib.hid h.ap
  have hsk := skipN_le l k hk
  have hst := sg_stop l k hk
  obtain ⟨W, hW⟩ : ∃ W, W = w.alloc zrO := ⟨_, rfl⟩
  have HB0 : Hid (Below w.heap.size w W) := Lib.hid (by rw [hW]; exact (Below.refl _ _).alloc (Nat.le_refl _) _)
  have HK0 : Hid (Kp rb w W [(w.heap.size, zrO)]) := Lib.hid (by rw [hW]; exact Kp.start rb w hrw zrO)
  have HSG := Lib.hid (ra_sign (h.next HB0.out))
  have HWE := Lib.hid hW
  clear hW h
  obtain ⟨p, hpe⟩ : ∃ p, skipN l k = p := ⟨_, rfl⟩
  rw [hpe] at HSG hsk hst hx
  rw [hs] at HSG hst
  have hst1 : p + 1 ≤ l.length := hst
  clear hst hs
  have HPE := Lib.hid hpe
  clear hpe
  unfold zrO at HWE
  go_enter Tryz.func147, Tryz.ntmps147
  go_upto_region 1 with fail
  rw [← HWE.out]
  go_wp2_with fail
  refine HSG.out.mono ?_
  rintro x w1 ⟨rfl, hr1, hc1⟩
  have HR1 := Lib.hid hr1
  have K1 := Lib.hid (HK0.out.next hrw hc1)
  clear hr1 hc1 HSG
  obtain ⟨e0, e1, e2, _, _⟩ := HR1.out.cells
  have f1 := HR1.out.fr 1
  have HR2 : Hid (RaS l bv rb (p + 1) 0 0 (w1.setCell ⟨rb, 1, none⟩ (.int .i64 ((p : Int) + 1)))) := Lib.hid (HR1.out.setK (p + 1) (by omega))
  have K2 := Lib.hid (K1.out.next hrw (Ch.set (rb := rb) w1 1 (.int .i64 ((p : Int) + 1))))
  have H2S : Hid (w.heap.size < (w1.setCell ⟨rb, 1, none⟩ (.int .i64 ((p : Int) + 1))).heap.size) := Lib.hid (lt_of_heap K2.out.blk1)
  have HEX := Lib.hid (ih.expr (p + 1) _ _ hx HR2.out hst1)
  go_wp2_with fail
  refine HEX.out.mono ?_
  rintro x w3 ⟨⟨yb, oa, na, rfl, hq3⟩, hc3⟩
  have K3 := Lib.hid (K2.out.next hrw hc3)
  have HQ3 := Lib.hid hq3
  have K4 := Lib.hid (K3.out.add hrw (.cells #[.string yb.op, .int .i64 yb.val, .string yb.nm, .int .i64 yb.pos, .int .i64 yb.apos, .slice oa na na] 30))
  have H3S := Lib.hid (lt_of_heap K3.out.blk1)
  have h2s := H2S.out
  clear hq3 hc3 HEX e0 e1 e2 f1 HR2 K2
  obtain ⟨hyb, hib, kq, hr3, hkq, rfl⟩ := HQ3.out
  subst hyb
  have hr4 := hr3.next ((Below.refl _ _).alloc (Nat.le_refl _) (.cells #[.string yb.op, .int .i64 yb.val, .string yb.nm, .int .i64 yb.pos, .int .i64 yb.apos, .slice oa na na] 30))
  have HSG4 := Lib.hid (ra_sign hr4)
  have hsk4 := skipN_le l kq hkq
  have hst4 := sg_stop l kq hkq
  have HTX4 := Lib.hid (tx_eq hr4.sl.1 kq shut_op)
  have HQE4 : Hid (¬ sgB l kq = sEmpty → (tok l kq).stop = skipN l kq + (sgB l kq).size ∧ (tok l kq).start = skipN l kq) := Lib.hid (sg_next l kq)
  have HIB4 : Hid (yb.In (w3.alloc (.cells #[.string yb.op, .int .i64 yb.val, .string yb.nm, .int .i64 yb.pos, .int .i64 yb.apos, .slice oa na na] 30)) (w.heap.size + 1) (.slice oa na na)) := Lib.hid ((hib.kept (fun k' _ hs => alloc_at_old _ _ k' hs) _ _).mono (by omega) _ _)
  obtain ⟨e0, e1, e2, _, _⟩ := hr4.cells
  have h3s := H3S.out
  clear hr3 hr4 hib HQ3
  go_wp2_with fail
  refine HSG4.out.mono ?_
  rintro x w6 ⟨rfl, hr6, hc6⟩
  have HR6 := Lib.hid hr6
  have K6 := Lib.hid (K4.out.next hrw hc6)
  have HIB6 := Lib.hid (HIB4.out.ch (by omega) hc6)
  clear hr6 hc6 HSG4 HIB4 K3 K4 e0 e1 e2
  obtain ⟨e0, e1, e2, _, _⟩ := HR6.out.cells
  have hne : ¬ sgB l kq = sShut := fun e => hnc (HTX4.out.2 e)
  have hq5 : ((sgB l kq).toList == [41]) = false := tl_no hne
  generalize sgB l kq = sg2 at *
  clear hne HTX4 HQE4
  have HUN := Lib.hid (ra_unx HR6.out hsk4)
  rw [tok_skip] at HUN
  have hz0 : zT.v (.slice none 0 0) = .agg #[.string ⟨#[]⟩, .int .i64 0, .string ⟨#[]⟩, .int .i64 0, .int .i64 0, .slice none 0 0] := rfl
  rw [hz0] at HUN
  go_wp2_with fail
  refine HUN.out.mono ?_
  rintro x w7 ⟨rfl, hr7, hcd, hc7⟩
  have HR7 := Lib.hid hr7
  have K7 := Lib.hid (K6.out.next hrw hc7)
  have HG9 := Lib.hid K7.out.blk2
  unfold zrO at HG9
  have HZQ : Hid (∀ g x, w.heap.size ≤ g → RaS l bv rb (skipN l (skipN l kq)) (tok l kq).code (tok l kq).start (w7.setRow g x)) := Lib.hid fun g x hg => HR7.out.rowN HS.out K7.out.ch hrw hg x
  have hsk7 := skipN_le l (skipN l kq) hsk4
  clear hr7 hc7 HUN
  go_wp2_with (first | (refine wpList_store_ar rfl _ _ rfl rfl w.heap.size ⟨#[]⟩ 0 ⟨#[]⟩ 0 0 (.slice none 0 0) rfl rfl rfl _ HG9.out rfl ?_) | fail)
  exact bodyPost_ret (results_ar rfl _ _ w.heap.size _ rfl (setRow_self HG9.out _) rfl) rfl ⟨⟨zT, none, 0, rfl, hcd, _, HZQ.out _ _ (Nat.le_refl _), by omega⟩, K7.out.ch.rowNew (Nat.le_refl _) hrw _⟩

set_option maxRecDepth 100000 in
set_option maxHeartbeats 8000000 in
theorem ra_opd_po {l : List Int} {bv : Value} {rb n k : Nat} {w : World} (ih : RaC l bv rb n) {t : Tr} {t1 : Tk} (hs : sgB l k = ⟨#[40]⟩) (hx : rd l n .expr (tok l (skipN l k + 1)) = some (.ok t t1)) (hyc : t1.text = sShut) (h : RaS l bv rb k 0 0 w) (hk : k ≤ l.length) :
    Calls Tryz.prog 147 #[.pointer (some ⟨rb, 0, none⟩)] w fun e w' => RaO l bv rb (n + 1) w.heap.size (.ok t (tok l t1.stop)) e w' ∧ Ch rb w w' := by

  have hrw := h.lt
  have hll := h.len
  have HS := Lib.hid h.sl
  have HAP := Lib.hid h.ap
  have hsk := skipN_le l k hk
  have hst := sg_stop l k hk
  obtain ⟨W, hW⟩ : ∃ W, W = w.alloc zrO := ⟨_, rfl⟩
  have HB0 : Hid (Below w.heap.size w W) := Lib.hid (by rw [hW]; exact (Below.refl _ _).alloc (Nat.le_refl _) _)
  have HK0 : Hid (Kp rb w W [(w.heap.size, zrO)]) := Lib.hid (by rw [hW]; exact Kp.start rb w hrw zrO)
  have HSG := Lib.hid (ra_sign (h.next HB0.out))
  have HWE := Lib.hid hW
  clear hW h
  obtain ⟨p, hpe⟩ : ∃ p, skipN l k = p := ⟨_, rfl⟩
  rw [hpe] at HSG hsk hst hx
  rw [hs] at HSG hst
  have hst1 : p + 1 ≤ l.length := hst
  clear hst hs
  have HPE := Lib.hid hpe
  clear hpe
  unfold zrO at HWE
  go_enter Tryz.func147, Tryz.ntmps147
  go_upto_region 1 with fail
  rw [← HWE.out]
  go_wp2_with fail
  refine HSG.out.mono ?_
  rintro x w1 ⟨rfl, hr1, hc1⟩
  have HR1 := Lib.hid hr1
  have K1 := Lib.hid (HK0.out.next hrw hc1)
  clear hr1 hc1 HSG
  obtain ⟨e0, e1, e2, _, _⟩ := HR1.out.cells
  have f1 := HR1.out.fr 1
  have HR2 : Hid (RaS l bv rb (p + 1) 0 0 (w1.setCell ⟨rb, 1, none⟩ (.int .i64 ((p : Int) + 1)))) := Lib.hid (HR1.out.setK (p + 1) (by omega))
  have K2 := Lib.hid (K1.out.next hrw (Ch.set (rb := rb) w1 1 (.int .i64 ((p : Int) + 1))))
  have H2S : Hid (w.heap.size < (w1.setCell ⟨rb, 1, none⟩ (.int .i64 ((p : Int) + 1))).heap.size) := Lib.hid (lt_of_heap K2.out.blk1)
  have HEX := Lib.hid (ih.expr (p + 1) _ _ hx HR2.out hst1)
  go_wp2_with fail
  refine HEX.out.mono ?_
  rintro x w3 ⟨⟨yb, oa, na, rfl, hq3⟩, hc3⟩
  have K3 := Lib.hid (K2.out.next hrw hc3)
  have HQ3 := Lib.hid hq3
  have K4 := Lib.hid (K3.out.add hrw (.cells #[.string yb.op, .int .i64 yb.val, .string yb.nm, .int .i64 yb.pos, .int .i64 yb.apos, .slice oa na na] 30))
  have H3S := Lib.hid (lt_of_heap K3.out.blk1)
  have h2s := H2S.out
  clear hq3 hc3 HEX e0 e1 e2 f1 HR2 K2
  obtain ⟨hyb, hib, kq, hr3, hkq, rfl⟩ := HQ3.out
  subst hyb
  have hr4 := hr3.next ((Below.refl _ _).alloc (Nat.le_refl _) (.cells #[.string yb.op, .int .i64 yb.val, .string yb.nm, .int .i64 yb.pos, .int .i64 yb.apos, .slice oa na na] 30))
  have HSG4 := Lib.hid (ra_sign hr4)
  have hsk4 := skipN_le l kq hkq
  have hst4 := sg_stop l kq hkq
  have HTX4 := Lib.hid (tx_eq hr4.sl.1 kq shut_op)
  have HQE4 : Hid (¬ sgB l kq = sEmpty → (tok l kq).stop = skipN l kq + (sgB l kq).size ∧ (tok l kq).start = skipN l kq) := Lib.hid (sg_next l kq)
  have HIB4 : Hid (yb.In (w3.alloc (.cells #[.string yb.op, .int .i64 yb.val, .string yb.nm, .int .i64 yb.pos, .int .i64 yb.apos, .slice oa na na] 30)) (w.heap.size + 1) (.slice oa na na)) := Lib.hid ((hib.kept (fun k' _ hs => alloc_at_old _ _ k' hs) _ _).mono (by omega) _ _)
  obtain ⟨e0, e1, e2, _, _⟩ := hr4.cells
  have h3s := H3S.out
  clear hr3 hr4 hib HQ3
  go_wp2_with fail
  refine HSG4.out.mono ?_
  rintro x w6 ⟨rfl, hr6, hc6⟩
  have HR6 := Lib.hid hr6
  have K6 := Lib.hid (K4.out.next hrw hc6)
  have HIB6 := Lib.hid (HIB4.out.ch (by omega) hc6)
  clear hr6 hc6 HSG4 HIB4 K3 K4 e0 e1 e2
  obtain ⟨e0, e1, e2, _, _⟩ := HR6.out.cells
  have hsq5 : sgB l kq = sShut := HTX4.out.1 hyc
  obtain ⟨hstop5, _⟩ := HQE4.out (by rw [hsq5]; decide)
  have hz5 : sShut.size = 1 := rfl
  rw [hsq5, hz5] at hst4 hstop5
  have hq5 : ((sgB l kq).toList == [41]) = true := by rw [hsq5, tl_beq]; exact decide_eq_true rfl
  obtain ⟨q1, hqe1⟩ : ∃ q1, skipN l kq = q1 := ⟨_, rfl⟩
  rw [hqe1] at HR6 hst4 hsk4 hstop5
  have HST5 := Lib.hid hstop5
  clear e0 e1 e2
  obtain ⟨e0, e1, e2, _, _⟩ := HR6.out.cells
  generalize sgB l kq = sg2 at *
  clear hqe1 hstop5 HQE4 HTX4 hsq5 hyc
  have f1 := HR6.out.fr 1
  have HR7 : Hid (RaS l bv rb (q1 + 1) 0 0 (w6.setCell ⟨rb, 1, none⟩ (.int .i64 ((q1 : Int) + 1)))) := Lib.hid (HR6.out.setK (q1 + 1) (by omega))
  have K7 := Lib.hid (K6.out.next hrw (Ch.set (rb := rb) w6 1 (.int .i64 ((q1 : Int) + 1))))
  have HIB7 := Lib.hid (HIB6.out.ch (by omega) (Ch.set (rb := rb) w6 1 (.int .i64 ((q1 : Int) + 1))))
  have HZQ : Hid (∀ g x, w.heap.size ≤ g → RaS l bv rb (q1 + 1) 0 0 ((w6.setCell ⟨rb, 1, none⟩ (.int .i64 ((q1 : Int) + 1))).setRow g x)) := Lib.hid fun g x hg => HR7.out.rowN HS.out K7.out.ch hrw hg x
  obtain ⟨⟨k0, k1, k2, k3, k4, k5⟩, _⟩ := six_facts K7.out.blk1
  have HG9 := Lib.hid K7.out.blk2
  unfold zrO at HG9
  go_wp2_with (first | (refine wpList_store_ar rfl _ _ rfl rfl w.heap.size yb.op yb.val yb.nm yb.pos yb.apos (.slice oa na na) rfl rfl rfl _ HG9.out rfl ?_) | fail)
  exact bodyPost_ret (results_ar rfl _ _ w.heap.size _ rfl (setRow_self HG9.out _) rfl) rfl ⟨⟨yb, oa, na, rfl, ⟨rfl, HIB7.out.rowN (Nat.lt_succ_self _) (Nat.le_succ _) _, _, HZQ.out _ _ (Nat.le_refl _), hst4, by rw [HST5.out]⟩⟩, K7.out.ch.rowNew (Nat.le_refl _) hrw _⟩

end Go.Proofs.YtacfglopionkfaaGreatDoor
/- The reference's reader of arithmetic: operand, at a name or a constant, or at what may not stand there (gen_raf.py). -/
namespace Go.Proofs.YtacfglopionkfaaGreatDoor
open Go.RowKit

theorem goes_part {l : List Int} {p : Nat} (h : p < l.length) : goesB l p = (letB (l.getD p 0) || numB (l.getD p 0)) := by
  have hd : l.drop p = l.getD p 0 :: l.drop (p + 1) := by
    rw [List.drop_eq_getElem_cons h, List.getD, List.getElem?_eq_getElem h]; rfl
  have hn : decide (0 < nmN (l.drop p)) = letB (l.getD p 0) := by
    rw [hd]
    generalize l.getD p 0 = c
    cases hc : letB c with
    | true =>
      have := (nmN_is (c :: l.drop (p + 1))).2.2
      simp only [decide_eq_true_eq]
      rcases Nat.eq_zero_or_pos (nmN (c :: l.drop (p + 1))) with h0 | h0
      · rw [h0] at this
        have := this (by simp)
        simp [nameB, hc] at this
      · exact h0
    | false =>
      have h0 : nmN (c :: l.drop (p + 1)) = 0 := nmN_zero fun x m e => by
        simp only [List.cons.injEq] at e
        rw [← e.1]; exact hc
      rw [h0]; rfl
  unfold goesB
  rw [hn]
  have hp : decide (p < l.length) = true := by simpa using h
  rw [hp, Bool.true_and, Bool.or_comm]
theorem drew_heap (w : World) : w.drew.heap = w.heap := rfl
theorem name_facts {l : List Int} {x ox cap rb pe : Nat} {w W : World} (hs : Sl w (.slice (some ⟨x, ox, none⟩) l.length cap) l) (hne : x ≠ rb) (hc : Ch rb w W) (hb : W.heap[rb]? = some (.cells (raA (.slice (some ⟨x, ox, none⟩) l.length cap) pe 0 0) 81 (0, 0))) (p nn : Nat) (hpn : p + nn ≤ l.length) (h0 : 0 < nn) :
    W.cell? ⟨rb, 0, none⟩ = some (.slice (some ⟨x, ox, none⟩) l.length cap) ∧ W.cell? ⟨rb, 1, none⟩ = some (.int .i64 (pe : Nat)) ∧ (convert 22 9 (.slice (some ⟨x, ox + p, none⟩) nn (cap - p))).run Tryz.prog W = .ok (.string (ofBys ((l.drop p).take nn))) W :=
  ⟨(ra_facts hs hne hc ⟨_, _, _, hb⟩ p nn hpn h0).1, (Lib.cell_of_heap hb 1).trans rfl, (ra_facts hs hne hc ⟨_, _, _, hb⟩ p nn hpn h0).2⟩

set_option maxRecDepth 100000 in
set_option maxHeartbeats 8000000 in
theorem ra_opd_nm {l : List Int} {bv : Value} {rb n k : Nat} {w : World} (_ih : RaC l bv rb n) (n1 : ¬ sgB l k = ⟨#[43]⟩) (n2 : ¬ sgB l k = ⟨#[45]⟩) (n3 : ¬ sgB l k = ⟨#[33]⟩) (n4 : ¬ sgB l k = ⟨#[126]⟩) (n5 : ¬ sgB l k = ⟨#[40]⟩) (hkd : 0 < nmN (l.drop (skipN l k))) (h : RaS l bv rb k 0 0 w) (hk : k ≤ l.length) :
    Calls Tryz.prog 147 #[.pointer (some ⟨rb, 0, none⟩)] w fun e w' => RaO l bv rb (n + 1) w.heap.size (.ok (.name (ofBys ((l.drop (skipN l k)).take (nmN (l.drop (skipN l k))))) (skipN l k)) (tok l (skipN l k + nmN (l.drop (skipN l k))))) e w' ∧ Ch rb w w' := by

  have hnl := nmN_le (l.drop (skipN l k))
  rw [List.length_drop] at hnl
  have hrw := h.lt
  have hll := h.len
  have HS := Lib.hid h.sl
  have HAP := Lib.hid h.ap
  have hsk := skipN_le l k hk
  have hst := sg_stop l k hk
  obtain ⟨W, hW⟩ : ∃ W, W = w.alloc zrO := ⟨_, rfl⟩
  have HB0 : Hid (Below w.heap.size w W) := Lib.hid (by rw [hW]; exact (Below.refl _ _).alloc (Nat.le_refl _) _)
  have HK0 : Hid (Kp rb w W [(w.heap.size, zrO)]) := Lib.hid (by rw [hW]; exact Kp.start rb w hrw zrO)
  have HSG := Lib.hid (ra_sign (h.next HB0.out))
  have HWE := Lib.hid hW
  have HH := Lib.hid h
  clear hW h
  obtain ⟨p, hpe⟩ : ∃ p, skipN l k = p := ⟨_, rfl⟩
  rw [hpe] at HSG hsk hst hkd hnl ⊢
  clear hst
  have HPE := Lib.hid hpe
  clear hpe
  unfold zrO at HWE
  obtain ⟨aa, cap, hbv, hcl⟩ := (show RaS l bv rb k 0 0 w from HH.out).sh
  have hpc : p ≤ cap := by omega
  have hcu : (if cap = p then aa else Option.map (fun x => x.add p) aa) = cutR aa cap p := rfl
  have HNM : Hid (∀ X, Sl X bv l → Calls Tryz.prog 55 #[.slice (cutR aa cap p) (l.length - p) (cap - p)] X fun e w' => e = .returned (.int .i64 (nmN (l.drop p))) ∧ X = w') := Lib.hid fun X hX => refName_any _ _ _ (by rw [hbv] at hX; exact hX.fromR p hsk)
  have HCO : Hid (∀ X, Sl X bv l → Calls Tryz.prog 79 #[.slice (cutR aa cap p) (l.length - p) (cap - p)] X fun e w' => e = .returned (.tuple #[.int .i64 (cV (l.drop p)), .int .i64 (cN (l.drop p)), .bool (cO (l.drop p))]) ∧ X = w') := Lib.hid fun X hX => refConst_any _ _ _ (by rw [hbv] at hX; exact hX.fromR p hsk)
  have q1 := tl_no (l := [43]) n1
  have q2 := tl_no (l := [45]) n2
  have q3 := tl_no (l := [33]) n3
  have q4 := tl_no (l := [126]) n4
  have q5 := tl_no (l := [40]) n5
  clear n1 n2 n3 n4 n5 HH
  generalize sgB l k = s at *
  subst hbv
  generalize cutR aa cap p = d at *
  obtain ⟨nn, hnn⟩ : ∃ nn, nmN (l.drop p) = nn := ⟨_, rfl⟩
  obtain ⟨nm, hnm⟩ : ∃ nm, ofBys ((l.drop p).take nn) = nm := ⟨_, rfl⟩
  rw [hnn] at HNM hkd hnl ⊢
  rw [hnm]
  have HNE := Lib.hid hnm
  have HNL : Hid (p + nn ≤ l.length ∧ 0 < nn) := Lib.hid ⟨by omega, hkd⟩
  clear hnn hnm hkd hnl HCO
  go_enter Tryz.func147, Tryz.ntmps147
  go_upto_region 1 with fail
  rw [← HWE.out]
  go_wp2_with fail
  refine HSG.out.mono ?_
  rintro x w1 ⟨rfl, hr1, hc1⟩
  have HR1 := Lib.hid hr1
  have K1 := Lib.hid (HK0.out.next hrw hc1)
  clear hr1 hc1 HSG
  obtain ⟨e0, e1, e2, _, _⟩ := HR1.out.cells
  go_wp2_with fail
  refine (HNM.out _ HR1.out.sl).mono ?_
  rintro x w1' ⟨rfl, rfl⟩
  have hnl := HNL.out.1
  have hkd := HNL.out.2
  have hz : (0 : Int) < nn := by omega
  have hzd : decide ((0 : Int) < nn) = true := by simpa using hz
  have f1 := HR1.out.fr 1
  obtain ⟨x, ox, cap', hbv, hcl', hcm, hrow, hne⟩ := HR1.out.row (show p < l.length by omega)
  simp only [Value.slice.injEq] at hbv
  obtain ⟨rfl, _, rfl⟩ := hbv
  clear hrow hcl'
  obtain ⟨pe, hpe⟩ : ∃ pe, pe = p + nn := ⟨_, rfl⟩
  have HR2 : Hid (RaS l (.slice (some ⟨x, ox, none⟩) l.length cap) rb pe 0 0 (w1.setCell ⟨rb, 1, none⟩ (.int .i64 ((p : Int) + (nn : Int))))) := Lib.hid (by rw [hpe]; exact HR1.out.setK (p + nn) (by omega))
  have K2 := Lib.hid (K1.out.next hrw (Ch.set (rb := rb) w1 1 (.int .i64 ((p : Int) + (nn : Int)))))
  have HPN : Hid (tok l pe = tok l (p + nn)) := Lib.hid (by rw [hpe])
  have hpe1 : p ≤ pe := by omega
  have hpe2 : pe ≤ cap := by omega
  have hpe3 : pe - p = nn := by omega
  have hpl : pe ≤ l.length := by omega
  have hcp : ¬ cap = p := by omega
  clear hpe
  go_wp2_with fail
  generalize hW4 : w1.setCell ⟨rb, 1, none⟩ (.int .i64 ((p : Int) + (nn : Int))) = w4 at *
  clear hW4 e0 e1 e2 f1 K1 HR1 HK0
  have HF : Hid (∀ X, Ch rb w X → X.heap[rb]? = some (.cells (raA (.slice (some ⟨x, ox, none⟩) l.length cap) pe 0 0) 81 (0, 0)) → X.cell? ⟨rb, 0, none⟩ = some (.slice (some ⟨x, ox, none⟩) l.length cap) ∧ X.cell? ⟨rb, 1, none⟩ = some (.int .i64 (pe : Nat)) ∧ (convert 22 9 (.slice (some ⟨x, ox + p, none⟩) nn (cap - p))).run Tryz.prog X = .ok (.string nm) X) := Lib.hid fun X hX hb => by
    rw [← HNE.out]
    exact name_facts HS.out hne hX hb p nn hnl hkd
  have HF4 := Lib.hid (HF.out w4 K2.out.ch HR2.out.blk)
  have HF4d := Lib.hid (HF.out w4.drew (ch_drew K2.out.ch) HR2.out.blk)
  have HF5 := Lib.hid (fun v0 v1 v2 v3 v4 v5 => HF.out (putA w4 w.heap.size v0 v1 v2 v3 v4 v5).drew (ch_drew (putA_ch K2.out.ch (Nat.le_refl _) (Nat.le_of_lt hrw) v0 v1 v2 v3 v4 v5)) (by rw [drew_heap]; exact (putA_other _ w.heap.size v0 v1 v2 v3 v4 v5 rb (by omega)).trans HR2.out.blk))
  unfold putA at HF5
  have HG4 := Lib.hid K2.out.blk1
  obtain ⟨⟨z0, z1, z2, z3, z4, z5⟩, y0, y1, y2, y3, y4, y5⟩ := six_facts K2.out.blk1
  go_region_held3 (fun X => X.cell? ⟨rb, 0, none⟩ = some (.slice (some ⟨x, ox, none⟩) l.length cap) ∧ X.cell? ⟨rb, 1, none⟩ = some (.int .i64 (pe : Nat)) ∧ (convert 22 9 (.slice (some ⟨x, ox + p, none⟩) nn (cap - p))).run Tryz.prog X = .ok (.string nm) X)
    (first | with_reducible exact HF4.out | with_reducible exact HF4d.out | with_reducible exact HF5.out _ _ _ _ _ _)
    (fail)
  obtain ⟨V, hV⟩ : ∃ V : World, V = (putA w4 w.heap.size (.string ⟨#[110, 97, 109, 101]⟩) (.int .i64 0) (.string nm) (.int .i64 p) (.int .i64 0) (.slice none 0 0)).drew := ⟨_, rfl⟩
  have hV' := hV
  unfold putA at hV'
  rw [← hV']
  clear hV'
  have HVR : Hid (V.heap[w.heap.size]? = some (.cells #[.string ⟨#[110, 97, 109, 101]⟩, .int .i64 0, .string nm, .int .i64 p, .int .i64 0, .slice none 0 0] 30)) := Lib.hid (by rw [hV, drew_heap]; exact putA_at HG4.out _ _ _ _ _ _)
  have HVC : Hid (Ch rb w V) := Lib.hid (by rw [hV]; exact ch_drew (putA_ch K2.out.ch (Nat.le_refl _) (Nat.le_of_lt hrw) _ _ _ _ _ _))
  have HVB : Hid (V.heap[rb]? = some (.cells (raA (.slice (some ⟨x, ox, none⟩) l.length cap) pe 0 0) 81 (0, 0))) := Lib.hid (by rw [hV, drew_heap]; exact (putA_other _ _ _ _ _ _ _ _ _ (by omega)).trans HR2.out.blk)
  clear hV z0 z1 z2 z3 z4 z5 y0 y1 y2 y3 y4 y5 HF5
  go_wp2_with fail
  exact bodyPost_ret (results_ar rfl _ _ w.heap.size _ rfl HVR.out rfl) rfl ⟨⟨.name nm p, none, 0, rfl, rfl, rfl, pe, ⟨HVB.out, sl_chR HS.out HAP.out HVC.out, HR2.out.len, HR2.out.hi, HR2.out.ap⟩, hpl, HPN.out⟩, HVC.out⟩

set_option maxRecDepth 100000 in
set_option maxHeartbeats 8000000 in
theorem ra_opd_k0 {l : List Int} {bv : Value} {rb n k : Nat} {w : World} (_ih : RaC l bv rb n) (n1 : ¬ sgB l k = ⟨#[43]⟩) (n2 : ¬ sgB l k = ⟨#[45]⟩) (n3 : ¬ sgB l k = ⟨#[33]⟩) (n4 : ¬ sgB l k = ⟨#[126]⟩) (n5 : ¬ sgB l k = ⟨#[40]⟩) (hkd : nmN (l.drop (skipN l k)) = 0) (hc : cN (l.drop (skipN l k)) = 0) (h : RaS l bv rb k 0 0 w) (hk : k ≤ l.length) :
    Calls Tryz.prog 147 #[.pointer (some ⟨rb, 0, none⟩)] w fun e w' => RaO l bv rb (n + 1) w.heap.size (refuse (tok l k)) e w' ∧ Ch rb w w' := by

  have hrw := h.lt
  have hll := h.len
  have HS := Lib.hid h.sl
  have HAP := Lib.hid h.ap
  have hsk := skipN_le l k hk
  have hst := sg_stop l k hk
  obtain ⟨W, hW⟩ : ∃ W, W = w.alloc zrO := ⟨_, rfl⟩
  have HB0 : Hid (Below w.heap.size w W) := Lib.hid (by rw [hW]; exact (Below.refl _ _).alloc (Nat.le_refl _) _)
  have HK0 : Hid (Kp rb w W [(w.heap.size, zrO)]) := Lib.hid (by rw [hW]; exact Kp.start rb w hrw zrO)
  have HSG := Lib.hid (ra_sign (h.next HB0.out))
  have HWE := Lib.hid hW
  have HH := Lib.hid h
  clear hW h
  obtain ⟨p, hpe⟩ : ∃ p, skipN l k = p := ⟨_, rfl⟩
  rw [hpe] at HSG hsk hst hkd hc
  clear hst
  have HPE := Lib.hid hpe
  clear hpe
  unfold zrO at HWE
  obtain ⟨aa, cap, hbv, hcl⟩ := (show RaS l bv rb k 0 0 w from HH.out).sh
  have hpc : p ≤ cap := by omega
  have hcu : (if cap = p then aa else Option.map (fun x => x.add p) aa) = cutR aa cap p := rfl
  have HNM : Hid (∀ X, Sl X bv l → Calls Tryz.prog 55 #[.slice (cutR aa cap p) (l.length - p) (cap - p)] X fun e w' => e = .returned (.int .i64 (nmN (l.drop p))) ∧ X = w') := Lib.hid fun X hX => refName_any _ _ _ (by rw [hbv] at hX; exact hX.fromR p hsk)
  have HCO : Hid (∀ X, Sl X bv l → Calls Tryz.prog 79 #[.slice (cutR aa cap p) (l.length - p) (cap - p)] X fun e w' => e = .returned (.tuple #[.int .i64 (cV (l.drop p)), .int .i64 (cN (l.drop p)), .bool (cO (l.drop p))]) ∧ X = w') := Lib.hid fun X hX => refConst_any _ _ _ (by rw [hbv] at hX; exact hX.fromR p hsk)
  have q1 := tl_no (l := [43]) n1
  have q2 := tl_no (l := [45]) n2
  have q3 := tl_no (l := [33]) n3
  have q4 := tl_no (l := [126]) n4
  have q5 := tl_no (l := [40]) n5
  clear n1 n2 n3 n4 n5 HH
  generalize sgB l k = s at *
  subst hbv
  generalize cutR aa cap p = d at *
  rw [hkd] at HNM
  clear hkd
  have HTP : Hid (tok l p = tok l k) := Lib.hid (by rw [← HPE.out, tok_skip])
  rw [hc] at HCO
  clear hc
  generalize cV (l.drop p) = cv at *
  generalize cO (l.drop p) = co at *
  go_enter Tryz.func147, Tryz.ntmps147
  go_upto_region 1 with fail
  rw [← HWE.out]
  go_wp2_with fail
  refine HSG.out.mono ?_
  rintro x w1 ⟨rfl, hr1, hc1⟩
  have HR1 := Lib.hid hr1
  have K1 := Lib.hid (HK0.out.next hrw hc1)
  clear hr1 hc1 HSG
  obtain ⟨e0, e1, e2, _, _⟩ := HR1.out.cells
  go_wp2_with fail
  refine (HNM.out _ HR1.out.sl).mono ?_
  rintro x w1' ⟨rfl, rfl⟩
  go_wp2_with fail
  refine (HCO.out _ HR1.out.sl).mono ?_
  rintro x w1' ⟨rfl, rfl⟩
  have HUN := Lib.hid (ra_unx HR1.out hsk)
  rw [HTP.out] at HUN
  have hz0 : zT.v (.slice none 0 0) = .agg #[.string ⟨#[]⟩, .int .i64 0, .string ⟨#[]⟩, .int .i64 0, .int .i64 0, .slice none 0 0] := rfl
  rw [hz0] at HUN
  go_wp2_with fail
  refine HUN.out.mono ?_
  rintro x w7 ⟨rfl, hr7, hcd, hc7⟩
  have HR7 := Lib.hid hr7
  have K7 := Lib.hid (K1.out.next hrw hc7)
  have HG9 := Lib.hid K7.out.blk1
  unfold zrO at HG9
  have HZQ : Hid (∀ g x, w.heap.size ≤ g → RaS l (.slice aa l.length cap) rb (skipN l p) (tok l k).code (tok l k).start (w7.setRow g x)) := Lib.hid fun g x hg => HR7.out.rowN HS.out K7.out.ch hrw hg x
  have hsk7 := skipN_le l p hsk
  clear hr7 hc7 HUN
  go_wp2_with (first | (refine wpList_store_ar rfl _ _ rfl rfl w.heap.size ⟨#[]⟩ 0 ⟨#[]⟩ 0 0 (.slice none 0 0) rfl rfl rfl _ HG9.out rfl ?_) | fail)
  exact bodyPost_ret (results_ar rfl _ _ w.heap.size _ rfl (setRow_self HG9.out _) rfl) rfl ⟨⟨zT, none, 0, rfl, hcd, _, HZQ.out _ _ (Nat.le_refl _), by omega⟩, K7.out.ch.rowNew (Nat.le_refl _) hrw _⟩

set_option maxRecDepth 100000 in
set_option maxHeartbeats 8000000 in
theorem ra_opd_kv {l : List Int} {bv : Value} {rb n k : Nat} {w : World} (_ih : RaC l bv rb n) (n1 : ¬ sgB l k = ⟨#[43]⟩) (n2 : ¬ sgB l k = ⟨#[45]⟩) (n3 : ¬ sgB l k = ⟨#[33]⟩) (n4 : ¬ sgB l k = ⟨#[126]⟩) (n5 : ¬ sgB l k = ⟨#[40]⟩) (hkd : nmN (l.drop (skipN l k)) = 0) (hc : 0 < cN (l.drop (skipN l k))) (hov : cO (l.drop (skipN l k)) = true) (h : RaS l bv rb k 0 0 w) (hk : k ≤ l.length) :
    Calls Tryz.prog 147 #[.pointer (some ⟨rb, 0, none⟩)] w fun e w' => RaO l bv rb (n + 1) w.heap.size (refuse (tok l k)) e w' ∧ Ch rb w w' := by

  have hrw := h.lt
  have hll := h.len
  have HS := Lib.hid h.sl
  have HAP := Lib.hid h.ap
  have hsk := skipN_le l k hk
  have hst := sg_stop l k hk
  obtain ⟨W, hW⟩ : ∃ W, W = w.alloc zrO := ⟨_, rfl⟩
  have HB0 : Hid (Below w.heap.size w W) := Lib.hid (by rw [hW]; exact (Below.refl _ _).alloc (Nat.le_refl _) _)
  have HK0 : Hid (Kp rb w W [(w.heap.size, zrO)]) := Lib.hid (by rw [hW]; exact Kp.start rb w hrw zrO)
  have HSG := Lib.hid (ra_sign (h.next HB0.out))
  have HWE := Lib.hid hW
  have HH := Lib.hid h
  clear hW h
  obtain ⟨p, hpe⟩ : ∃ p, skipN l k = p := ⟨_, rfl⟩
  rw [hpe] at HSG hsk hst hkd hc hov
  clear hst
  have HPE := Lib.hid hpe
  clear hpe
  unfold zrO at HWE
  obtain ⟨aa, cap, hbv, hcl⟩ := (show RaS l bv rb k 0 0 w from HH.out).sh
  have hpc : p ≤ cap := by omega
  have hcu : (if cap = p then aa else Option.map (fun x => x.add p) aa) = cutR aa cap p := rfl
  have HNM : Hid (∀ X, Sl X bv l → Calls Tryz.prog 55 #[.slice (cutR aa cap p) (l.length - p) (cap - p)] X fun e w' => e = .returned (.int .i64 (nmN (l.drop p))) ∧ X = w') := Lib.hid fun X hX => refName_any _ _ _ (by rw [hbv] at hX; exact hX.fromR p hsk)
  have HCO : Hid (∀ X, Sl X bv l → Calls Tryz.prog 79 #[.slice (cutR aa cap p) (l.length - p) (cap - p)] X fun e w' => e = .returned (.tuple #[.int .i64 (cV (l.drop p)), .int .i64 (cN (l.drop p)), .bool (cO (l.drop p))]) ∧ X = w') := Lib.hid fun X hX => refConst_any _ _ _ (by rw [hbv] at hX; exact hX.fromR p hsk)
  have q1 := tl_no (l := [43]) n1
  have q2 := tl_no (l := [45]) n2
  have q3 := tl_no (l := [33]) n3
  have q4 := tl_no (l := [126]) n4
  have q5 := tl_no (l := [40]) n5
  clear n1 n2 n3 n4 n5 HH
  generalize sgB l k = s at *
  subst hbv
  generalize cutR aa cap p = d at *
  rw [hkd] at HNM
  clear hkd
  have HTP : Hid (tok l p = tok l k) := Lib.hid (by rw [← HPE.out, tok_skip])
  rw [hov] at HCO
  clear hov
  generalize cV (l.drop p) = cv at *
  generalize cN (l.drop p) = cc at *
  have hcc : ((cc : Int) == 0) = false := by simp; omega
  clear hc
  go_enter Tryz.func147, Tryz.ntmps147
  go_upto_region 1 with fail
  rw [← HWE.out]
  go_wp2_with fail
  refine HSG.out.mono ?_
  rintro x w1 ⟨rfl, hr1, hc1⟩
  have HR1 := Lib.hid hr1
  have K1 := Lib.hid (HK0.out.next hrw hc1)
  clear hr1 hc1 HSG
  obtain ⟨e0, e1, e2, _, _⟩ := HR1.out.cells
  go_wp2_with fail
  refine (HNM.out _ HR1.out.sl).mono ?_
  rintro x w1' ⟨rfl, rfl⟩
  go_wp2_with fail
  refine (HCO.out _ HR1.out.sl).mono ?_
  rintro x w1' ⟨rfl, rfl⟩
  have HUN := Lib.hid (ra_unx HR1.out hsk)
  rw [HTP.out] at HUN
  have hz0 : zT.v (.slice none 0 0) = .agg #[.string ⟨#[]⟩, .int .i64 0, .string ⟨#[]⟩, .int .i64 0, .int .i64 0, .slice none 0 0] := rfl
  rw [hz0] at HUN
  go_wp2_with fail
  refine HUN.out.mono ?_
  rintro x w7 ⟨rfl, hr7, hcd, hc7⟩
  have HR7 := Lib.hid hr7
  have K7 := Lib.hid (K1.out.next hrw hc7)
  have HG9 := Lib.hid K7.out.blk1
  unfold zrO at HG9
  have HZQ : Hid (∀ g x, w.heap.size ≤ g → RaS l (.slice aa l.length cap) rb (skipN l p) (tok l k).code (tok l k).start (w7.setRow g x)) := Lib.hid fun g x hg => HR7.out.rowN HS.out K7.out.ch hrw hg x
  have hsk7 := skipN_le l p hsk
  clear hr7 hc7 HUN
  go_wp2_with (first | (refine wpList_store_ar rfl _ _ rfl rfl w.heap.size ⟨#[]⟩ 0 ⟨#[]⟩ 0 0 (.slice none 0 0) rfl rfl rfl _ HG9.out rfl ?_) | fail)
  exact bodyPost_ret (results_ar rfl _ _ w.heap.size _ rfl (setRow_self HG9.out _) rfl) rfl ⟨⟨zT, none, 0, rfl, hcd, _, HZQ.out _ _ (Nat.le_refl _), by omega⟩, K7.out.ch.rowNew (Nat.le_refl _) hrw _⟩

set_option maxRecDepth 100000 in
set_option maxHeartbeats 8000000 in
theorem ra_opd_kg {l : List Int} {bv : Value} {rb n k : Nat} {w : World} (_ih : RaC l bv rb n) (n1 : ¬ sgB l k = ⟨#[43]⟩) (n2 : ¬ sgB l k = ⟨#[45]⟩) (n3 : ¬ sgB l k = ⟨#[33]⟩) (n4 : ¬ sgB l k = ⟨#[126]⟩) (n5 : ¬ sgB l k = ⟨#[40]⟩) (hkd : nmN (l.drop (skipN l k)) = 0) (hc : 0 < cN (l.drop (skipN l k))) (hov : cO (l.drop (skipN l k)) = false) (hg : goesB l (skipN l k + cN (l.drop (skipN l k))) = true) (h : RaS l bv rb k 0 0 w) (hk : k ≤ l.length) :
    Calls Tryz.prog 147 #[.pointer (some ⟨rb, 0, none⟩)] w fun e w' => RaO l bv rb (n + 1) w.heap.size (.bad 3 (skipN l k + cN (l.drop (skipN l k)))) e w' ∧ Ch rb w w' := by

  have hrw := h.lt
  have hll := h.len
  have HS := Lib.hid h.sl
  have HAP := Lib.hid h.ap
  have hsk := skipN_le l k hk
  have hst := sg_stop l k hk
  obtain ⟨W, hW⟩ : ∃ W, W = w.alloc zrO := ⟨_, rfl⟩
  have HB0 : Hid (Below w.heap.size w W) := Lib.hid (by rw [hW]; exact (Below.refl _ _).alloc (Nat.le_refl _) _)
  have HK0 : Hid (Kp rb w W [(w.heap.size, zrO)]) := Lib.hid (by rw [hW]; exact Kp.start rb w hrw zrO)
  have HSG := Lib.hid (ra_sign (h.next HB0.out))
  have HWE := Lib.hid hW
  have HH := Lib.hid h
  clear hW h
  obtain ⟨p, hpe⟩ : ∃ p, skipN l k = p := ⟨_, rfl⟩
  rw [hpe] at HSG hsk hst hkd hc hov hg ⊢
  clear hst
  have HPE := Lib.hid hpe
  clear hpe
  unfold zrO at HWE
  obtain ⟨aa, cap, hbv, hcl⟩ := (show RaS l bv rb k 0 0 w from HH.out).sh
  have hpc : p ≤ cap := by omega
  have hcu : (if cap = p then aa else Option.map (fun x => x.add p) aa) = cutR aa cap p := rfl
  have HNM : Hid (∀ X, Sl X bv l → Calls Tryz.prog 55 #[.slice (cutR aa cap p) (l.length - p) (cap - p)] X fun e w' => e = .returned (.int .i64 (nmN (l.drop p))) ∧ X = w') := Lib.hid fun X hX => refName_any _ _ _ (by rw [hbv] at hX; exact hX.fromR p hsk)
  have HCO : Hid (∀ X, Sl X bv l → Calls Tryz.prog 79 #[.slice (cutR aa cap p) (l.length - p) (cap - p)] X fun e w' => e = .returned (.tuple #[.int .i64 (cV (l.drop p)), .int .i64 (cN (l.drop p)), .bool (cO (l.drop p))]) ∧ X = w') := Lib.hid fun X hX => refConst_any _ _ _ (by rw [hbv] at hX; exact hX.fromR p hsk)
  have q1 := tl_no (l := [43]) n1
  have q2 := tl_no (l := [45]) n2
  have q3 := tl_no (l := [33]) n3
  have q4 := tl_no (l := [126]) n4
  have q5 := tl_no (l := [40]) n5
  clear n1 n2 n3 n4 n5 HH
  generalize sgB l k = s at *
  subst hbv
  generalize cutR aa cap p = d at *
  rw [hkd] at HNM
  clear hkd
  have HTP : Hid (tok l p = tok l k) := Lib.hid (by rw [← HPE.out, tok_skip])
  have hcl := cN_le (l.drop p)
  rw [List.length_drop] at hcl
  rw [hov] at HCO
  clear hov
  obtain ⟨cc, hcce⟩ : ∃ cc, cN (l.drop p) = cc := ⟨_, rfl⟩
  obtain ⟨cv, hcve⟩ : ∃ cv, cV (l.drop p) = cv := ⟨_, rfl⟩
  rw [hcce] at HCO hcl hc hg ⊢
  rw [hcve] at HCO
  have HG := Lib.hid hg
  have HCL : Hid (p + cc ≤ l.length) := Lib.hid (by omega)
  have hcc : ((cc : Int) == 0) = false := by simp; omega
  clear hcce hcve hcl hc hg
  go_enter Tryz.func147, Tryz.ntmps147
  go_upto_region 1 with fail
  rw [← HWE.out]
  go_wp2_with fail
  refine HSG.out.mono ?_
  rintro x w1 ⟨rfl, hr1, hc1⟩
  have HR1 := Lib.hid hr1
  have K1 := Lib.hid (HK0.out.next hrw hc1)
  clear hr1 hc1 HSG
  obtain ⟨e0, e1, e2, _, _⟩ := HR1.out.cells
  go_wp2_with fail
  refine (HNM.out _ HR1.out.sl).mono ?_
  rintro x w1' ⟨rfl, rfl⟩
  go_wp2_with fail
  refine (HCO.out _ HR1.out.sl).mono ?_
  rintro x w1' ⟨rfl, rfl⟩
  have f1 := HR1.out.fr 1
  obtain ⟨pe, hpe⟩ : ∃ pe, pe = p + cc := ⟨_, rfl⟩
  have HR2 : Hid (RaS l (.slice aa l.length cap) rb pe 0 0 (w1.setCell ⟨rb, 1, none⟩ (.int .i64 ((p : Int) + (cc : Int))))) := Lib.hid (by rw [hpe]; exact HR1.out.setK (p + cc) (by have := HCL.out; omega))
  have K2 := Lib.hid (K1.out.next hrw (Ch.set (rb := rb) w1 1 (.int .i64 ((p : Int) + (cc : Int)))))
  have hpl : pe ≤ l.length := by have := HCL.out; omega
  have HPEC : Hid (pe = p + cc) := Lib.hid hpe
  clear hpe
  have hclx := HCL.out
  go_wp2_with fail
  clear hclx
  generalize hW4 : w1.setCell ⟨rb, 1, none⟩ (.int .i64 ((p : Int) + (cc : Int))) = w4 at *
  clear hW4 e0 e1 e2 f1 K1 HR1 HK0
  have HX : Hid (∀ X, Below w4.heap.size w4 X → X.cell? ⟨rb, 0, none⟩ = some (.slice aa l.length cap) ∧ X.cell? ⟨rb, 1, none⟩ = some (.int .i64 pe)) := Lib.hid fun X hX => ⟨(HR2.out.next hX).cells.1, (HR2.out.next hX).cells.2.1⟩
  have hlt : pe < l.length := by
    rcases Nat.lt_or_ge pe l.length with h' | h'
    · exact h'
    · have := goes_end (l := l) (p := pe) (by omega)
      rw [HPEC.out, HG.out] at this
      cases this
  obtain ⟨x, ox, cap', hbv, hcl', hcm, hrow, hne⟩ := HR2.out.row hlt
  simp only [Value.slice.injEq] at hbv
  obtain ⟨rfl, _, rfl⟩ := hbv
  have HW : Hid (∀ X, Below w4.heap.size w4 X → X.cell? ⟨x, ox + pe, none⟩ = some (.int .u8 (l.getD pe 0))) := Lib.hid fun X hX => (hrow.below hX) pe hlt
  have hby := HR2.out.sl.1 pe
  have HPA : Hid (∀ X, Calls Tryz.prog 94 #[.int .u8 (l.getD pe 0)] X fun e w' => e = .returned (.bool (letB (l.getD pe 0) || numB (l.getD pe 0))) ∧ X = w') := Lib.hid fun X => partR_any _ X hby.1 hby.2
  have hgo := goes_part hlt
  rw [HPEC.out, HG.out, ← HPEC.out] at hgo
  rw [← hgo] at HPA
  clear hrow hcl' hby hgo
  generalize l.getD pe 0 = ch at *
  have hlti : (pe : Int) < l.length := by omega
  have hdec : decide ((pe : Int) < l.length) = true := by simpa using hlti

  refine Reg.wp_region_vals (fun X => Below w4.heap.size w4 X) (fun j => ([some (.pointer (some ⟨rb, 0, none⟩)), some (.pointer (some ⟨rb, 0, none⟩)), some (.pointer (some ⟨rb, 1, none⟩)), some (.int .i64 pe), some (.pointer (some ⟨rb, 0, none⟩)), some (.pointer (some ⟨rb, 0, none⟩)), some (.pointer (some ⟨rb, 0, none⟩)), some (.slice (some ⟨x, ox, none⟩) l.length cap), some (.int .i64 l.length), some (.bool true), some (.bool true), some (.pointer (some ⟨rb, 0, none⟩)), some (.pointer (some ⟨rb, 0, none⟩)), some (.pointer (some ⟨rb, 0, none⟩)), some (.slice (some ⟨x, ox, none⟩) l.length cap), some (.pointer (some ⟨rb, 0, none⟩)), some (.pointer (some ⟨rb, 0, none⟩)), some (.pointer (some ⟨rb, 1, none⟩)), some (.int .i64 pe), some (.pointer (some ⟨x, ox + pe, none⟩)), some (.int .u8 ch), some (.bool true), some (.bool true)] : List (Option Value)).getD j none) (fun _ _ _ => True) (by kernel_rfl) (by kernel_rfl) (by kernel_rfl) (by kernel_rfl) ?rs0 ?rsE ?rsZ
  case rs0 => exact (Below.refl _ _).drew
  case rsE =>
    refine Reg.EachV.plain rfl (fun T X hS hk K hK => ?_) ?_
    · skip
      have g0 : T[0]? = some (.pointer (some ⟨rb, 0, none⟩)) := hk.old 0 (by kernel_rfl) rfl
      have hK := hK _ X hS (Reg.Is.of_val rfl) (fun _ _ _ h => h)
      clear hk
      go_simp
      exact hK
    refine Reg.EachV.plain rfl (fun T X hS hk K hK => ?_) ?_
    · skip
      have g138 : T[138]? = some (.pointer (some ⟨rb, 0, none⟩)) := hk.val 0 138 (by kernel_rfl) (by kernel_rfl) rfl
      have hK := hK _ X hS (Reg.Is.of_val rfl) (fun _ _ _ h => h)
      clear hk
      go_simp
      exact hK
    refine Reg.EachV.plain rfl (fun T X hS hk K hK => ?_) ?_
    · skip
      have g139 : T[139]? = some (.pointer (some ⟨rb, 0, none⟩)) := hk.val 1 139 (by kernel_rfl) (by kernel_rfl) rfl
      have hK := hK _ X hS (Reg.Is.of_val rfl) (fun _ _ _ h => h)
      clear hk
      go_simp
      exact hK
    refine Reg.EachV.plain rfl (fun T X hS hk K hK => ?_) ?_
    · skip
      have g140 : T[140]? = some (.pointer (some ⟨rb, 1, none⟩)) := hk.val 2 140 (by kernel_rfl) (by kernel_rfl) rfl
      obtain ⟨e0, e1⟩ := HX.out X hS
      have hK := hK _ X hS (Reg.Is.of_val rfl) (fun _ _ _ h => h)
      clear hk
      go_simp
      exact hK
    refine Reg.EachV.plain rfl (fun T X hS hk K hK => ?_) ?_
    · skip
      have g0 : T[0]? = some (.pointer (some ⟨rb, 0, none⟩)) := hk.old 0 (by kernel_rfl) rfl
      have hK := hK _ X hS (Reg.Is.of_val rfl) (fun _ _ _ h => h)
      clear hk
      go_simp
      exact hK
    refine Reg.EachV.plain rfl (fun T X hS hk K hK => ?_) ?_
    · skip
      have g142 : T[142]? = some (.pointer (some ⟨rb, 0, none⟩)) := hk.val 4 142 (by kernel_rfl) (by kernel_rfl) rfl
      have hK := hK _ X hS (Reg.Is.of_val rfl) (fun _ _ _ h => h)
      clear hk
      go_simp
      exact hK
    refine Reg.EachV.plain rfl (fun T X hS hk K hK => ?_) ?_
    · skip
      have g143 : T[143]? = some (.pointer (some ⟨rb, 0, none⟩)) := hk.val 5 143 (by kernel_rfl) (by kernel_rfl) rfl
      have hK := hK _ X hS (Reg.Is.of_val rfl) (fun _ _ _ h => h)
      clear hk
      go_simp
      exact hK
    refine Reg.EachV.plain rfl (fun T X hS hk K hK => ?_) ?_
    · skip
      have g144 : T[144]? = some (.pointer (some ⟨rb, 0, none⟩)) := hk.val 6 144 (by kernel_rfl) (by kernel_rfl) rfl
      obtain ⟨e0, e1⟩ := HX.out X hS
      have hK := hK _ X hS (Reg.Is.of_val rfl) (fun _ _ _ h => h)
      clear hk
      go_simp
      exact hK
    refine Reg.EachV.plain rfl (fun T X hS hk K hK => ?_) ?_
    · skip
      have g145 : T[145]? = some (.slice (some ⟨x, ox, none⟩) l.length cap) := hk.val 7 145 (by kernel_rfl) (by kernel_rfl) rfl
      have hK := hK _ X hS (Reg.Is.of_val rfl) (fun _ _ _ h => h)
      clear hk
      go_simp
      exact hK
    refine Reg.EachV.plain rfl (fun T X hS hk K hK => ?_) ?_
    · skip
      have g141 : T[141]? = some (.int .i64 pe) := hk.val 3 141 (by kernel_rfl) (by kernel_rfl) rfl
      have g146 : T[146]? = some (.int .i64 l.length) := hk.val 8 146 (by kernel_rfl) (by kernel_rfl) rfl
      have hK := hK _ X hS (Reg.Is.of_val rfl) (fun _ _ _ h => h)
      clear hk
      go_simp
      exact hK
    refine Reg.EachV.plain rfl (fun T X hS hk K hK => ?_) ?_
    · skip
      have g147 : T[147]? = some (.bool true) := hk.val 9 147 (by kernel_rfl) (by kernel_rfl) rfl
      have hK := hK _ X hS (Reg.Is.of_val rfl) (fun _ _ _ h => h)
      clear hk
      go_simp
      exact hK
    refine Reg.EachV.guarded 10 148 true rfl (by kernel_rfl) (by kernel_rfl) rfl (fun T X hS hk K hK => ?_) ?_
    · skip
      have g0 : T[0]? = some (.pointer (some ⟨rb, 0, none⟩)) := hk.old 0 (by kernel_rfl) rfl
      have hK := hK _ X hS (Reg.Is.of_val rfl) (fun _ _ _ h => h)
      clear hk
      go_simp
      exact hK
    refine Reg.EachV.guarded 10 148 true rfl (by kernel_rfl) (by kernel_rfl) rfl (fun T X hS hk K hK => ?_) ?_
    · skip
      have g149 : T[149]? = some (.pointer (some ⟨rb, 0, none⟩)) := hk.val 11 149 (by kernel_rfl) (by kernel_rfl) rfl
      have hK := hK _ X hS (Reg.Is.of_val rfl) (fun _ _ _ h => h)
      clear hk
      go_simp
      exact hK
    refine Reg.EachV.guarded 10 148 true rfl (by kernel_rfl) (by kernel_rfl) rfl (fun T X hS hk K hK => ?_) ?_
    · skip
      have g150 : T[150]? = some (.pointer (some ⟨rb, 0, none⟩)) := hk.val 12 150 (by kernel_rfl) (by kernel_rfl) rfl
      have hK := hK _ X hS (Reg.Is.of_val rfl) (fun _ _ _ h => h)
      clear hk
      go_simp
      exact hK
    refine Reg.EachV.guarded 10 148 true rfl (by kernel_rfl) (by kernel_rfl) rfl (fun T X hS hk K hK => ?_) ?_
    · skip
      have g151 : T[151]? = some (.pointer (some ⟨rb, 0, none⟩)) := hk.val 13 151 (by kernel_rfl) (by kernel_rfl) rfl
      obtain ⟨e0, e1⟩ := HX.out X hS
      have hK := hK _ X hS (Reg.Is.of_val rfl) (fun _ _ _ h => h)
      clear hk
      go_simp
      exact hK
    refine Reg.EachV.guarded 10 148 true rfl (by kernel_rfl) (by kernel_rfl) rfl (fun T X hS hk K hK => ?_) ?_
    · skip
      have g0 : T[0]? = some (.pointer (some ⟨rb, 0, none⟩)) := hk.old 0 (by kernel_rfl) rfl
      have hK := hK _ X hS (Reg.Is.of_val rfl) (fun _ _ _ h => h)
      clear hk
      go_simp
      exact hK
    refine Reg.EachV.guarded 10 148 true rfl (by kernel_rfl) (by kernel_rfl) rfl (fun T X hS hk K hK => ?_) ?_
    · skip
      have g153 : T[153]? = some (.pointer (some ⟨rb, 0, none⟩)) := hk.val 15 153 (by kernel_rfl) (by kernel_rfl) rfl
      have hK := hK _ X hS (Reg.Is.of_val rfl) (fun _ _ _ h => h)
      clear hk
      go_simp
      exact hK
    refine Reg.EachV.guarded 10 148 true rfl (by kernel_rfl) (by kernel_rfl) rfl (fun T X hS hk K hK => ?_) ?_
    · skip
      have g154 : T[154]? = some (.pointer (some ⟨rb, 0, none⟩)) := hk.val 16 154 (by kernel_rfl) (by kernel_rfl) rfl
      have hK := hK _ X hS (Reg.Is.of_val rfl) (fun _ _ _ h => h)
      clear hk
      go_simp
      exact hK
    refine Reg.EachV.guarded 10 148 true rfl (by kernel_rfl) (by kernel_rfl) rfl (fun T X hS hk K hK => ?_) ?_
    · skip
      have g155 : T[155]? = some (.pointer (some ⟨rb, 1, none⟩)) := hk.val 17 155 (by kernel_rfl) (by kernel_rfl) rfl
      obtain ⟨e0, e1⟩ := HX.out X hS
      have hK := hK _ X hS (Reg.Is.of_val rfl) (fun _ _ _ h => h)
      clear hk
      go_simp
      exact hK
    refine Reg.EachV.guarded 10 148 true rfl (by kernel_rfl) (by kernel_rfl) rfl (fun T X hS hk K hK => ?_) ?_
    · skip
      have g152 : T[152]? = some (.slice (some ⟨x, ox, none⟩) l.length cap) := hk.val 14 152 (by kernel_rfl) (by kernel_rfl) rfl
      have g156 : T[156]? = some (.int .i64 pe) := hk.val 18 156 (by kernel_rfl) (by kernel_rfl) rfl
      have hK := hK _ X hS (Reg.Is.of_val rfl) (fun _ _ _ h => h)
      clear hk
      go_simp
      exact hK
    refine Reg.EachV.guarded 10 148 true rfl (by kernel_rfl) (by kernel_rfl) rfl (fun T X hS hk K hK => ?_) ?_
    · skip
      have g157 : T[157]? = some (.pointer (some ⟨x, ox + pe, none⟩)) := hk.val 19 157 (by kernel_rfl) (by kernel_rfl) rfl
      have e2 := HW.out X hS
      have hK := hK _ X hS (Reg.Is.of_val rfl) (fun _ _ _ h => h)
      clear hk
      go_simp
      exact hK
    refine Reg.EachV.guarded 10 148 true rfl (by kernel_rfl) (by kernel_rfl) rfl (fun T X hS hk K hK => ?_) ?_
    · skip
      have g158 : T[158]? = some (.int .u8 ch) := hk.val 20 158 (by kernel_rfl) (by kernel_rfl) rfl
      clear hk
      go_simp
      refine (HPA.out X).mono ?_
      rintro e w1 ⟨rfl, hb⟩
      exact hK _ _ (hb ▸ hS) (Reg.Is.of_val rfl) (fun _ _ _ h => h)
    refine Reg.EachV.plain rfl (fun T X hS hk K hK => ?_) ?_
    · skip
      have g148 : T[148]? = some (.bool true) := hk.val 10 148 (by kernel_rfl) (by kernel_rfl) rfl
      have g159 : T[159]? = some (.bool true) := hk.val 21 159 (by kernel_rfl) (by kernel_rfl) rfl
      have hK := hK _ X hS (Reg.Is.of_val rfl) (fun _ _ _ h => h)
      clear hk
      go_simp
      exact hK
    exact Reg.EachV.nil
  case rsZ =>
    intro u w5 hS hI
    have e0 : u 0 = .pointer (some ⟨rb, 0, none⟩) := (hI 0 (by decide)).val rfl
    have e1 : u 1 = .pointer (some ⟨rb, 0, none⟩) := (hI 1 (by decide)).val rfl
    have e2 : u 2 = .pointer (some ⟨rb, 1, none⟩) := (hI 2 (by decide)).val rfl
    have e3 : u 3 = .int .i64 pe := (hI 3 (by decide)).val rfl
    have e4 : u 4 = .pointer (some ⟨rb, 0, none⟩) := (hI 4 (by decide)).val rfl
    have e5 : u 5 = .pointer (some ⟨rb, 0, none⟩) := (hI 5 (by decide)).val rfl
    have e6 : u 6 = .pointer (some ⟨rb, 0, none⟩) := (hI 6 (by decide)).val rfl
    have e7 : u 7 = .slice (some ⟨x, ox, none⟩) l.length cap := (hI 7 (by decide)).val rfl
    have e8 : u 8 = .int .i64 l.length := (hI 8 (by decide)).val rfl
    have e9 : u 9 = .bool true := (hI 9 (by decide)).val rfl
    have e10 : u 10 = .bool true := (hI 10 (by decide)).val rfl
    have e11 : u 11 = .pointer (some ⟨rb, 0, none⟩) := (hI 11 (by decide)).val rfl
    have e12 : u 12 = .pointer (some ⟨rb, 0, none⟩) := (hI 12 (by decide)).val rfl
    have e13 : u 13 = .pointer (some ⟨rb, 0, none⟩) := (hI 13 (by decide)).val rfl
    have e14 : u 14 = .slice (some ⟨x, ox, none⟩) l.length cap := (hI 14 (by decide)).val rfl
    have e15 : u 15 = .pointer (some ⟨rb, 0, none⟩) := (hI 15 (by decide)).val rfl
    have e16 : u 16 = .pointer (some ⟨rb, 0, none⟩) := (hI 16 (by decide)).val rfl
    have e17 : u 17 = .pointer (some ⟨rb, 1, none⟩) := (hI 17 (by decide)).val rfl
    have e18 : u 18 = .int .i64 pe := (hI 18 (by decide)).val rfl
    have e19 : u 19 = .pointer (some ⟨x, ox + pe, none⟩) := (hI 19 (by decide)).val rfl
    have e20 : u 20 = .int .u8 ch := (hI 20 (by decide)).val rfl
    have e21 : u 21 = .bool true := (hI 21 (by decide)).val rfl
    have e22 : u 22 = .bool true := (hI 22 (by decide)).val rfl
    clear hI
    simp only [Reg.putAll, Act.put, List.setIfInBounds_toArray, List.set_cons_succ, List.set_cons_zero, Nat.zero_add, Nat.reduceAdd, e0, e1, e2, e3, e4, e5, e6, e7, e8, e9, e10, e11, e12, e13, e14, e15, e16, e17, e18, e19, e20, e21, e22]
    clear e0 e1 e2 e3 e4 e5 e6 e7 e8 e9 e10 e11 e12 e13 e14 e15 e16 e17 e18 e19 e20 e21 e22
    have HZ := Lib.hid hS
    have HR5 := Lib.hid (HR2.out.next hS)
    have K5 := Lib.hid (K2.out.next hrw (Ch.of_below hS (Nat.le_of_lt HR2.out.lt)))
    obtain ⟨e0, e1⟩ := HX.out w5 hS
    clear hS
    have HFL := Lib.hid (ra_fail0 HR5.out 3 pe (by decide))
    go_wp2_with fail
    refine HFL.out.mono ?_
    rintro x2 wf ⟨rfl, hrf, hcf⟩
    have HRF := Lib.hid hrf
    have KF := Lib.hid (K5.out.next hrw hcf)
    clear hrf hcf HFL
    have HZQ : Hid (∀ g x', w.heap.size ≤ g → RaS l (.slice (some ⟨x, ox, none⟩) l.length cap) rb pe 3 pe (wf.setRow g x')) := Lib.hid fun g x' hg' => HRF.out.rowN HS.out KF.out.ch hrw hg' x'
    have HG9 := Lib.hid KF.out.blk1
    unfold zrO at HG9
    go_wp2_with (first | (refine wpList_store_ar rfl _ _ rfl rfl w.heap.size ⟨#[110, 117, 109]⟩ cv ⟨#[]⟩ p 0 (.slice none 0 0) rfl rfl rfl _ HG9.out rfl ?_) | fail)
    exact bodyPost_ret (results_ar rfl _ _ w.heap.size _ rfl (setRow_self HG9.out _) rfl) rfl ⟨⟨.num cv p, none, 0, rfl, by decide, pe, by rw [← HPEC.out]; exact HZQ.out _ _ (Nat.le_refl _), by omega⟩, KF.out.ch.rowNew (Nat.le_refl _) hrw _⟩
set_option maxRecDepth 100000 in
set_option maxHeartbeats 8000000 in
theorem ra_opd_ok {l : List Int} {bv : Value} {rb n k : Nat} {w : World} (_ih : RaC l bv rb n) (n1 : ¬ sgB l k = ⟨#[43]⟩) (n2 : ¬ sgB l k = ⟨#[45]⟩) (n3 : ¬ sgB l k = ⟨#[33]⟩) (n4 : ¬ sgB l k = ⟨#[126]⟩) (n5 : ¬ sgB l k = ⟨#[40]⟩) (hkd : nmN (l.drop (skipN l k)) = 0) (hc : 0 < cN (l.drop (skipN l k))) (hov : cO (l.drop (skipN l k)) = false) (hg : goesB l (skipN l k + cN (l.drop (skipN l k))) = false) (h : RaS l bv rb k 0 0 w) (hk : k ≤ l.length) :
    Calls Tryz.prog 147 #[.pointer (some ⟨rb, 0, none⟩)] w fun e w' => RaO l bv rb (n + 1) w.heap.size (.ok (.num (cV (l.drop (skipN l k))) (skipN l k)) (tok l (skipN l k + cN (l.drop (skipN l k))))) e w' ∧ Ch rb w w' := by

  have hrw := h.lt
  have hll := h.len
  have HS := Lib.hid h.sl
  have HAP := Lib.hid h.ap
  have hsk := skipN_le l k hk
  have hst := sg_stop l k hk
  obtain ⟨W, hW⟩ : ∃ W, W = w.alloc zrO := ⟨_, rfl⟩
  have HB0 : Hid (Below w.heap.size w W) := Lib.hid (by rw [hW]; exact (Below.refl _ _).alloc (Nat.le_refl _) _)
  have HK0 : Hid (Kp rb w W [(w.heap.size, zrO)]) := Lib.hid (by rw [hW]; exact Kp.start rb w hrw zrO)
  have HSG := Lib.hid (ra_sign (h.next HB0.out))
  have HWE := Lib.hid hW
  have HH := Lib.hid h
  clear hW h
  obtain ⟨p, hpe⟩ : ∃ p, skipN l k = p := ⟨_, rfl⟩
  rw [hpe] at HSG hsk hst hkd hc hov hg ⊢
  clear hst
  have HPE := Lib.hid hpe
  clear hpe
  unfold zrO at HWE
  obtain ⟨aa, cap, hbv, hcl⟩ := (show RaS l bv rb k 0 0 w from HH.out).sh
  have hpc : p ≤ cap := by omega
  have hcu : (if cap = p then aa else Option.map (fun x => x.add p) aa) = cutR aa cap p := rfl
  have HNM : Hid (∀ X, Sl X bv l → Calls Tryz.prog 55 #[.slice (cutR aa cap p) (l.length - p) (cap - p)] X fun e w' => e = .returned (.int .i64 (nmN (l.drop p))) ∧ X = w') := Lib.hid fun X hX => refName_any _ _ _ (by rw [hbv] at hX; exact hX.fromR p hsk)
  have HCO : Hid (∀ X, Sl X bv l → Calls Tryz.prog 79 #[.slice (cutR aa cap p) (l.length - p) (cap - p)] X fun e w' => e = .returned (.tuple #[.int .i64 (cV (l.drop p)), .int .i64 (cN (l.drop p)), .bool (cO (l.drop p))]) ∧ X = w') := Lib.hid fun X hX => refConst_any _ _ _ (by rw [hbv] at hX; exact hX.fromR p hsk)
  have q1 := tl_no (l := [43]) n1
  have q2 := tl_no (l := [45]) n2
  have q3 := tl_no (l := [33]) n3
  have q4 := tl_no (l := [126]) n4
  have q5 := tl_no (l := [40]) n5
  clear n1 n2 n3 n4 n5 HH
  generalize sgB l k = s at *
  subst hbv
  generalize cutR aa cap p = d at *
  rw [hkd] at HNM
  clear hkd
  have HTP : Hid (tok l p = tok l k) := Lib.hid (by rw [← HPE.out, tok_skip])
  have hcl := cN_le (l.drop p)
  rw [List.length_drop] at hcl
  rw [hov] at HCO
  clear hov
  obtain ⟨cc, hcce⟩ : ∃ cc, cN (l.drop p) = cc := ⟨_, rfl⟩
  obtain ⟨cv, hcve⟩ : ∃ cv, cV (l.drop p) = cv := ⟨_, rfl⟩
  rw [hcce] at HCO hcl hc hg ⊢
  rw [hcve] at HCO ⊢
  have HG := Lib.hid hg
  have HCL : Hid (p + cc ≤ l.length) := Lib.hid (by omega)
  have hcc : ((cc : Int) == 0) = false := by simp; omega
  clear hcce hcve hcl hc hg
  go_enter Tryz.func147, Tryz.ntmps147
  go_upto_region 1 with fail
  rw [← HWE.out]
  go_wp2_with fail
  refine HSG.out.mono ?_
  rintro x w1 ⟨rfl, hr1, hc1⟩
  have HR1 := Lib.hid hr1
  have K1 := Lib.hid (HK0.out.next hrw hc1)
  clear hr1 hc1 HSG
  obtain ⟨e0, e1, e2, _, _⟩ := HR1.out.cells
  go_wp2_with fail
  refine (HNM.out _ HR1.out.sl).mono ?_
  rintro x w1' ⟨rfl, rfl⟩
  go_wp2_with fail
  refine (HCO.out _ HR1.out.sl).mono ?_
  rintro x w1' ⟨rfl, rfl⟩
  have f1 := HR1.out.fr 1
  obtain ⟨pe, hpe⟩ : ∃ pe, pe = p + cc := ⟨_, rfl⟩
  have HR2 : Hid (RaS l (.slice aa l.length cap) rb pe 0 0 (w1.setCell ⟨rb, 1, none⟩ (.int .i64 ((p : Int) + (cc : Int))))) := Lib.hid (by rw [hpe]; exact HR1.out.setK (p + cc) (by have := HCL.out; omega))
  have K2 := Lib.hid (K1.out.next hrw (Ch.set (rb := rb) w1 1 (.int .i64 ((p : Int) + (cc : Int)))))
  have hpl : pe ≤ l.length := by have := HCL.out; omega
  have HPEC : Hid (pe = p + cc) := Lib.hid hpe
  clear hpe
  have hclx := HCL.out
  go_wp2_with fail
  clear hclx
  generalize hW4 : w1.setCell ⟨rb, 1, none⟩ (.int .i64 ((p : Int) + (cc : Int))) = w4 at *
  clear hW4 e0 e1 e2 f1 K1 HR1 HK0
  have HX : Hid (∀ X, Below w4.heap.size w4 X → X.cell? ⟨rb, 0, none⟩ = some (.slice aa l.length cap) ∧ X.cell? ⟨rb, 1, none⟩ = some (.int .i64 pe)) := Lib.hid fun X hX => ⟨(HR2.out.next hX).cells.1, (HR2.out.next hX).cells.2.1⟩
  by_cases hlt : pe < l.length
  · skip
    obtain ⟨x, ox, cap', hbv, hcl', hcm, hrow, hne⟩ := HR2.out.row hlt
    simp only [Value.slice.injEq] at hbv
    obtain ⟨rfl, _, rfl⟩ := hbv
    have HW : Hid (∀ X, Below w4.heap.size w4 X → X.cell? ⟨x, ox + pe, none⟩ = some (.int .u8 (l.getD pe 0))) := Lib.hid fun X hX => (hrow.below hX) pe hlt
    have hby := HR2.out.sl.1 pe
    have HPA : Hid (∀ X, Calls Tryz.prog 94 #[.int .u8 (l.getD pe 0)] X fun e w' => e = .returned (.bool (letB (l.getD pe 0) || numB (l.getD pe 0))) ∧ X = w') := Lib.hid fun X => partR_any _ X hby.1 hby.2
    have hgo := goes_part hlt
    rw [HPEC.out, HG.out, ← HPEC.out] at hgo
    rw [← hgo] at HPA
    clear hrow hcl' hby hgo
    generalize l.getD pe 0 = ch at *
    have hlti : (pe : Int) < l.length := by omega
    have hdec : decide ((pe : Int) < l.length) = true := by simpa using hlti
    refine Reg.wp_region_vals (fun X => Below w4.heap.size w4 X) (fun j => ([some (.pointer (some ⟨rb, 0, none⟩)), some (.pointer (some ⟨rb, 0, none⟩)), some (.pointer (some ⟨rb, 1, none⟩)), some (.int .i64 pe), some (.pointer (some ⟨rb, 0, none⟩)), some (.pointer (some ⟨rb, 0, none⟩)), some (.pointer (some ⟨rb, 0, none⟩)), some (.slice (some ⟨x, ox, none⟩) l.length cap), some (.int .i64 l.length), some (.bool true), some (.bool true), some (.pointer (some ⟨rb, 0, none⟩)), some (.pointer (some ⟨rb, 0, none⟩)), some (.pointer (some ⟨rb, 0, none⟩)), some (.slice (some ⟨x, ox, none⟩) l.length cap), some (.pointer (some ⟨rb, 0, none⟩)), some (.pointer (some ⟨rb, 0, none⟩)), some (.pointer (some ⟨rb, 1, none⟩)), some (.int .i64 pe), some (.pointer (some ⟨x, ox + pe, none⟩)), some (.int .u8 ch), some (.bool false), some (.bool false)] : List (Option Value)).getD j none) (fun _ _ _ => True) (by kernel_rfl) (by kernel_rfl) (by kernel_rfl) (by kernel_rfl) ?rs0 ?rsE ?rsZ
    case rs0 => exact (Below.refl _ _).drew
    case rsE =>
      refine Reg.EachV.plain rfl (fun T X hS hk K hK => ?_) ?_
      · skip
        have g0 : T[0]? = some (.pointer (some ⟨rb, 0, none⟩)) := hk.old 0 (by kernel_rfl) rfl
        have hK := hK _ X hS (Reg.Is.of_val rfl) (fun _ _ _ h => h)
        clear hk
        go_simp
        exact hK
      refine Reg.EachV.plain rfl (fun T X hS hk K hK => ?_) ?_
      · skip
        have g138 : T[138]? = some (.pointer (some ⟨rb, 0, none⟩)) := hk.val 0 138 (by kernel_rfl) (by kernel_rfl) rfl
        have hK := hK _ X hS (Reg.Is.of_val rfl) (fun _ _ _ h => h)
        clear hk
        go_simp
        exact hK
      refine Reg.EachV.plain rfl (fun T X hS hk K hK => ?_) ?_
      · skip
        have g139 : T[139]? = some (.pointer (some ⟨rb, 0, none⟩)) := hk.val 1 139 (by kernel_rfl) (by kernel_rfl) rfl
        have hK := hK _ X hS (Reg.Is.of_val rfl) (fun _ _ _ h => h)
        clear hk
        go_simp
        exact hK
      refine Reg.EachV.plain rfl (fun T X hS hk K hK => ?_) ?_
      · skip
        have g140 : T[140]? = some (.pointer (some ⟨rb, 1, none⟩)) := hk.val 2 140 (by kernel_rfl) (by kernel_rfl) rfl
        obtain ⟨e0, e1⟩ := HX.out X hS
        have hK := hK _ X hS (Reg.Is.of_val rfl) (fun _ _ _ h => h)
        clear hk
        go_simp
        exact hK
      refine Reg.EachV.plain rfl (fun T X hS hk K hK => ?_) ?_
      · skip
        have g0 : T[0]? = some (.pointer (some ⟨rb, 0, none⟩)) := hk.old 0 (by kernel_rfl) rfl
        have hK := hK _ X hS (Reg.Is.of_val rfl) (fun _ _ _ h => h)
        clear hk
        go_simp
        exact hK
      refine Reg.EachV.plain rfl (fun T X hS hk K hK => ?_) ?_
      · skip
        have g142 : T[142]? = some (.pointer (some ⟨rb, 0, none⟩)) := hk.val 4 142 (by kernel_rfl) (by kernel_rfl) rfl
        have hK := hK _ X hS (Reg.Is.of_val rfl) (fun _ _ _ h => h)
        clear hk
        go_simp
        exact hK
      refine Reg.EachV.plain rfl (fun T X hS hk K hK => ?_) ?_
      · skip
        have g143 : T[143]? = some (.pointer (some ⟨rb, 0, none⟩)) := hk.val 5 143 (by kernel_rfl) (by kernel_rfl) rfl
        have hK := hK _ X hS (Reg.Is.of_val rfl) (fun _ _ _ h => h)
        clear hk
        go_simp
        exact hK
      refine Reg.EachV.plain rfl (fun T X hS hk K hK => ?_) ?_
      · skip
        have g144 : T[144]? = some (.pointer (some ⟨rb, 0, none⟩)) := hk.val 6 144 (by kernel_rfl) (by kernel_rfl) rfl
        obtain ⟨e0, e1⟩ := HX.out X hS
        have hK := hK _ X hS (Reg.Is.of_val rfl) (fun _ _ _ h => h)
        clear hk
        go_simp
        exact hK
      refine Reg.EachV.plain rfl (fun T X hS hk K hK => ?_) ?_
      · skip
        have g145 : T[145]? = some (.slice (some ⟨x, ox, none⟩) l.length cap) := hk.val 7 145 (by kernel_rfl) (by kernel_rfl) rfl
        have hK := hK _ X hS (Reg.Is.of_val rfl) (fun _ _ _ h => h)
        clear hk
        go_simp
        exact hK
      refine Reg.EachV.plain rfl (fun T X hS hk K hK => ?_) ?_
      · skip
        have g141 : T[141]? = some (.int .i64 pe) := hk.val 3 141 (by kernel_rfl) (by kernel_rfl) rfl
        have g146 : T[146]? = some (.int .i64 l.length) := hk.val 8 146 (by kernel_rfl) (by kernel_rfl) rfl
        have hK := hK _ X hS (Reg.Is.of_val rfl) (fun _ _ _ h => h)
        clear hk
        go_simp
        exact hK
      refine Reg.EachV.plain rfl (fun T X hS hk K hK => ?_) ?_
      · skip
        have g147 : T[147]? = some (.bool true) := hk.val 9 147 (by kernel_rfl) (by kernel_rfl) rfl
        have hK := hK _ X hS (Reg.Is.of_val rfl) (fun _ _ _ h => h)
        clear hk
        go_simp
        exact hK
      refine Reg.EachV.guarded 10 148 true rfl (by kernel_rfl) (by kernel_rfl) rfl (fun T X hS hk K hK => ?_) ?_
      · skip
        have g0 : T[0]? = some (.pointer (some ⟨rb, 0, none⟩)) := hk.old 0 (by kernel_rfl) rfl
        have hK := hK _ X hS (Reg.Is.of_val rfl) (fun _ _ _ h => h)
        clear hk
        go_simp
        exact hK
      refine Reg.EachV.guarded 10 148 true rfl (by kernel_rfl) (by kernel_rfl) rfl (fun T X hS hk K hK => ?_) ?_
      · skip
        have g149 : T[149]? = some (.pointer (some ⟨rb, 0, none⟩)) := hk.val 11 149 (by kernel_rfl) (by kernel_rfl) rfl
        have hK := hK _ X hS (Reg.Is.of_val rfl) (fun _ _ _ h => h)
        clear hk
        go_simp
        exact hK
      refine Reg.EachV.guarded 10 148 true rfl (by kernel_rfl) (by kernel_rfl) rfl (fun T X hS hk K hK => ?_) ?_
      · skip
        have g150 : T[150]? = some (.pointer (some ⟨rb, 0, none⟩)) := hk.val 12 150 (by kernel_rfl) (by kernel_rfl) rfl
        have hK := hK _ X hS (Reg.Is.of_val rfl) (fun _ _ _ h => h)
        clear hk
        go_simp
        exact hK
      refine Reg.EachV.guarded 10 148 true rfl (by kernel_rfl) (by kernel_rfl) rfl (fun T X hS hk K hK => ?_) ?_
      · skip
        have g151 : T[151]? = some (.pointer (some ⟨rb, 0, none⟩)) := hk.val 13 151 (by kernel_rfl) (by kernel_rfl) rfl
        obtain ⟨e0, e1⟩ := HX.out X hS
        have hK := hK _ X hS (Reg.Is.of_val rfl) (fun _ _ _ h => h)
        clear hk
        go_simp
        exact hK
      refine Reg.EachV.guarded 10 148 true rfl (by kernel_rfl) (by kernel_rfl) rfl (fun T X hS hk K hK => ?_) ?_
      · skip
        have g0 : T[0]? = some (.pointer (some ⟨rb, 0, none⟩)) := hk.old 0 (by kernel_rfl) rfl
        have hK := hK _ X hS (Reg.Is.of_val rfl) (fun _ _ _ h => h)
        clear hk
        go_simp
        exact hK
      refine Reg.EachV.guarded 10 148 true rfl (by kernel_rfl) (by kernel_rfl) rfl (fun T X hS hk K hK => ?_) ?_
      · skip
        have g153 : T[153]? = some (.pointer (some ⟨rb, 0, none⟩)) := hk.val 15 153 (by kernel_rfl) (by kernel_rfl) rfl
        have hK := hK _ X hS (Reg.Is.of_val rfl) (fun _ _ _ h => h)
        clear hk
        go_simp
        exact hK
      refine Reg.EachV.guarded 10 148 true rfl (by kernel_rfl) (by kernel_rfl) rfl (fun T X hS hk K hK => ?_) ?_
      · skip
        have g154 : T[154]? = some (.pointer (some ⟨rb, 0, none⟩)) := hk.val 16 154 (by kernel_rfl) (by kernel_rfl) rfl
        have hK := hK _ X hS (Reg.Is.of_val rfl) (fun _ _ _ h => h)
        clear hk
        go_simp
        exact hK
      refine Reg.EachV.guarded 10 148 true rfl (by kernel_rfl) (by kernel_rfl) rfl (fun T X hS hk K hK => ?_) ?_
      · skip
        have g155 : T[155]? = some (.pointer (some ⟨rb, 1, none⟩)) := hk.val 17 155 (by kernel_rfl) (by kernel_rfl) rfl
        obtain ⟨e0, e1⟩ := HX.out X hS
        have hK := hK _ X hS (Reg.Is.of_val rfl) (fun _ _ _ h => h)
        clear hk
        go_simp
        exact hK
      refine Reg.EachV.guarded 10 148 true rfl (by kernel_rfl) (by kernel_rfl) rfl (fun T X hS hk K hK => ?_) ?_
      · skip
        have g152 : T[152]? = some (.slice (some ⟨x, ox, none⟩) l.length cap) := hk.val 14 152 (by kernel_rfl) (by kernel_rfl) rfl
        have g156 : T[156]? = some (.int .i64 pe) := hk.val 18 156 (by kernel_rfl) (by kernel_rfl) rfl
        have hK := hK _ X hS (Reg.Is.of_val rfl) (fun _ _ _ h => h)
        clear hk
        go_simp
        exact hK
      refine Reg.EachV.guarded 10 148 true rfl (by kernel_rfl) (by kernel_rfl) rfl (fun T X hS hk K hK => ?_) ?_
      · skip
        have g157 : T[157]? = some (.pointer (some ⟨x, ox + pe, none⟩)) := hk.val 19 157 (by kernel_rfl) (by kernel_rfl) rfl
        have e2 := HW.out X hS
        have hK := hK _ X hS (Reg.Is.of_val rfl) (fun _ _ _ h => h)
        clear hk
        go_simp
        exact hK
      refine Reg.EachV.guarded 10 148 true rfl (by kernel_rfl) (by kernel_rfl) rfl (fun T X hS hk K hK => ?_) ?_
      · skip
        have g158 : T[158]? = some (.int .u8 ch) := hk.val 20 158 (by kernel_rfl) (by kernel_rfl) rfl
        clear hk
        go_simp
        refine (HPA.out X).mono ?_
        rintro e w1 ⟨rfl, hb⟩
        exact hK _ _ (hb ▸ hS) (Reg.Is.of_val rfl) (fun _ _ _ h => h)
      refine Reg.EachV.plain rfl (fun T X hS hk K hK => ?_) ?_
      · skip
        have g148 : T[148]? = some (.bool true) := hk.val 10 148 (by kernel_rfl) (by kernel_rfl) rfl
        have g159 : T[159]? = some (.bool false) := hk.val 21 159 (by kernel_rfl) (by kernel_rfl) rfl
        have hK := hK _ X hS (Reg.Is.of_val rfl) (fun _ _ _ h => h)
        clear hk
        go_simp
        exact hK
      exact Reg.EachV.nil
    case rsZ =>
      intro u w5 hS hI
      have e0 : u 0 = .pointer (some ⟨rb, 0, none⟩) := (hI 0 (by decide)).val rfl
      have e1 : u 1 = .pointer (some ⟨rb, 0, none⟩) := (hI 1 (by decide)).val rfl
      have e2 : u 2 = .pointer (some ⟨rb, 1, none⟩) := (hI 2 (by decide)).val rfl
      have e3 : u 3 = .int .i64 pe := (hI 3 (by decide)).val rfl
      have e4 : u 4 = .pointer (some ⟨rb, 0, none⟩) := (hI 4 (by decide)).val rfl
      have e5 : u 5 = .pointer (some ⟨rb, 0, none⟩) := (hI 5 (by decide)).val rfl
      have e6 : u 6 = .pointer (some ⟨rb, 0, none⟩) := (hI 6 (by decide)).val rfl
      have e7 : u 7 = .slice (some ⟨x, ox, none⟩) l.length cap := (hI 7 (by decide)).val rfl
      have e8 : u 8 = .int .i64 l.length := (hI 8 (by decide)).val rfl
      have e9 : u 9 = .bool true := (hI 9 (by decide)).val rfl
      have e10 : u 10 = .bool true := (hI 10 (by decide)).val rfl
      have e11 : u 11 = .pointer (some ⟨rb, 0, none⟩) := (hI 11 (by decide)).val rfl
      have e12 : u 12 = .pointer (some ⟨rb, 0, none⟩) := (hI 12 (by decide)).val rfl
      have e13 : u 13 = .pointer (some ⟨rb, 0, none⟩) := (hI 13 (by decide)).val rfl
      have e14 : u 14 = .slice (some ⟨x, ox, none⟩) l.length cap := (hI 14 (by decide)).val rfl
      have e15 : u 15 = .pointer (some ⟨rb, 0, none⟩) := (hI 15 (by decide)).val rfl
      have e16 : u 16 = .pointer (some ⟨rb, 0, none⟩) := (hI 16 (by decide)).val rfl
      have e17 : u 17 = .pointer (some ⟨rb, 1, none⟩) := (hI 17 (by decide)).val rfl
      have e18 : u 18 = .int .i64 pe := (hI 18 (by decide)).val rfl
      have e19 : u 19 = .pointer (some ⟨x, ox + pe, none⟩) := (hI 19 (by decide)).val rfl
      have e20 : u 20 = .int .u8 ch := (hI 20 (by decide)).val rfl
      have e21 : u 21 = .bool false := (hI 21 (by decide)).val rfl
      have e22 : u 22 = .bool false := (hI 22 (by decide)).val rfl
      clear hI
      simp only [Reg.putAll, Act.put, List.setIfInBounds_toArray, List.set_cons_succ, List.set_cons_zero, Nat.zero_add, Nat.reduceAdd, e0, e1, e2, e3, e4, e5, e6, e7, e8, e9, e10, e11, e12, e13, e14, e15, e16, e17, e18, e19, e20, e21, e22]
      clear e0 e1 e2 e3 e4 e5 e6 e7 e8 e9 e10 e11 e12 e13 e14 e15 e16 e17 e18 e19 e20 e21 e22
      have HZ := Lib.hid hS
      have HR5 := Lib.hid (HR2.out.next hS)
      have K5 := Lib.hid (K2.out.next hrw (Ch.of_below hS (Nat.le_of_lt HR2.out.lt)))
      obtain ⟨e0, e1⟩ := HX.out w5 hS
      clear hS
      have HZQ : Hid (∀ g x', w.heap.size ≤ g → RaS l (.slice (some ⟨x, ox, none⟩) l.length cap) rb pe 0 0 (w5.setRow g x')) := Lib.hid fun g x' hg' => HR5.out.rowN HS.out K5.out.ch hrw hg' x'
      have HG9 := Lib.hid K5.out.blk1
      unfold zrO at HG9
      go_wp2_with (first | (refine wpList_store_ar rfl _ _ rfl rfl w.heap.size ⟨#[110, 117, 109]⟩ cv ⟨#[]⟩ p 0 (.slice none 0 0) rfl rfl rfl _ HG9.out rfl ?_) | fail)
      exact bodyPost_ret (results_ar rfl _ _ w.heap.size _ rfl (setRow_self HG9.out _) rfl) rfl ⟨⟨.num cv p, none, 0, rfl, rfl, rfl, pe, HZQ.out _ _ (Nat.le_refl _), hpl, by rw [HPEC.out]⟩, K5.out.ch.rowNew (Nat.le_refl _) hrw _⟩
  · have hlti : ¬ (pe : Int) < l.length := by omega
    have hdec : decide ((pe : Int) < l.length) = false := by simpa using hlti
    refine Reg.wp_region_vals (fun X => Below w4.heap.size w4 X) (fun j => ([some (.pointer (some ⟨rb, 0, none⟩)), some (.pointer (some ⟨rb, 0, none⟩)), some (.pointer (some ⟨rb, 1, none⟩)), some (.int .i64 pe), some (.pointer (some ⟨rb, 0, none⟩)), some (.pointer (some ⟨rb, 0, none⟩)), some (.pointer (some ⟨rb, 0, none⟩)), some (.slice aa l.length cap), some (.int .i64 l.length), some (.bool false), some (.bool false), some undef, some undef, some undef, some undef, some undef, some undef, some undef, some undef, some undef, some undef, some undef, some (.bool false)] : List (Option Value)).getD j none) (fun _ _ _ => True) (by kernel_rfl) (by kernel_rfl) (by kernel_rfl) (by kernel_rfl) ?rs0 ?rsE ?rsZ
    case rs0 => exact (Below.refl _ _).drew
    case rsE =>
      refine Reg.EachV.plain rfl (fun T X hS hk K hK => ?_) ?_
      · skip
        have g0 : T[0]? = some (.pointer (some ⟨rb, 0, none⟩)) := hk.old 0 (by kernel_rfl) rfl
        have hK := hK _ X hS (Reg.Is.of_val rfl) (fun _ _ _ h => h)
        clear hk
        go_simp
        exact hK
      refine Reg.EachV.plain rfl (fun T X hS hk K hK => ?_) ?_
      · skip
        have g138 : T[138]? = some (.pointer (some ⟨rb, 0, none⟩)) := hk.val 0 138 (by kernel_rfl) (by kernel_rfl) rfl
        have hK := hK _ X hS (Reg.Is.of_val rfl) (fun _ _ _ h => h)
        clear hk
        go_simp
        exact hK
      refine Reg.EachV.plain rfl (fun T X hS hk K hK => ?_) ?_
      · skip
        have g139 : T[139]? = some (.pointer (some ⟨rb, 0, none⟩)) := hk.val 1 139 (by kernel_rfl) (by kernel_rfl) rfl
        have hK := hK _ X hS (Reg.Is.of_val rfl) (fun _ _ _ h => h)
        clear hk
        go_simp
        exact hK
      refine Reg.EachV.plain rfl (fun T X hS hk K hK => ?_) ?_
      · skip
        have g140 : T[140]? = some (.pointer (some ⟨rb, 1, none⟩)) := hk.val 2 140 (by kernel_rfl) (by kernel_rfl) rfl
        obtain ⟨e0, e1⟩ := HX.out X hS
        have hK := hK _ X hS (Reg.Is.of_val rfl) (fun _ _ _ h => h)
        clear hk
        go_simp
        exact hK
      refine Reg.EachV.plain rfl (fun T X hS hk K hK => ?_) ?_
      · skip
        have g0 : T[0]? = some (.pointer (some ⟨rb, 0, none⟩)) := hk.old 0 (by kernel_rfl) rfl
        have hK := hK _ X hS (Reg.Is.of_val rfl) (fun _ _ _ h => h)
        clear hk
        go_simp
        exact hK
      refine Reg.EachV.plain rfl (fun T X hS hk K hK => ?_) ?_
      · skip
        have g142 : T[142]? = some (.pointer (some ⟨rb, 0, none⟩)) := hk.val 4 142 (by kernel_rfl) (by kernel_rfl) rfl
        have hK := hK _ X hS (Reg.Is.of_val rfl) (fun _ _ _ h => h)
        clear hk
        go_simp
        exact hK
      refine Reg.EachV.plain rfl (fun T X hS hk K hK => ?_) ?_
      · skip
        have g143 : T[143]? = some (.pointer (some ⟨rb, 0, none⟩)) := hk.val 5 143 (by kernel_rfl) (by kernel_rfl) rfl
        have hK := hK _ X hS (Reg.Is.of_val rfl) (fun _ _ _ h => h)
        clear hk
        go_simp
        exact hK
      refine Reg.EachV.plain rfl (fun T X hS hk K hK => ?_) ?_
      · skip
        have g144 : T[144]? = some (.pointer (some ⟨rb, 0, none⟩)) := hk.val 6 144 (by kernel_rfl) (by kernel_rfl) rfl
        obtain ⟨e0, e1⟩ := HX.out X hS
        have hK := hK _ X hS (Reg.Is.of_val rfl) (fun _ _ _ h => h)
        clear hk
        go_simp
        exact hK
      refine Reg.EachV.plain rfl (fun T X hS hk K hK => ?_) ?_
      · skip
        have g145 : T[145]? = some (.slice aa l.length cap) := hk.val 7 145 (by kernel_rfl) (by kernel_rfl) rfl
        have hK := hK _ X hS (Reg.Is.of_val rfl) (fun _ _ _ h => h)
        clear hk
        go_simp
        exact hK
      refine Reg.EachV.plain rfl (fun T X hS hk K hK => ?_) ?_
      · skip
        have g141 : T[141]? = some (.int .i64 pe) := hk.val 3 141 (by kernel_rfl) (by kernel_rfl) rfl
        have g146 : T[146]? = some (.int .i64 l.length) := hk.val 8 146 (by kernel_rfl) (by kernel_rfl) rfl
        have hK := hK _ X hS (Reg.Is.of_val rfl) (fun _ _ _ h => h)
        clear hk
        go_simp
        exact hK
      refine Reg.EachV.plain rfl (fun T X hS hk K hK => ?_) ?_
      · skip
        have g147 : T[147]? = some (.bool false) := hk.val 9 147 (by kernel_rfl) (by kernel_rfl) rfl
        have hK := hK _ X hS (Reg.Is.of_val rfl) (fun _ _ _ h => h)
        clear hk
        go_simp
        exact hK
      refine Reg.EachV.passed 10 148 false rfl (by kernel_rfl) (by kernel_rfl) rfl rfl ?_
      refine Reg.EachV.passed 10 148 false rfl (by kernel_rfl) (by kernel_rfl) rfl rfl ?_
      refine Reg.EachV.passed 10 148 false rfl (by kernel_rfl) (by kernel_rfl) rfl rfl ?_
      refine Reg.EachV.passed 10 148 false rfl (by kernel_rfl) (by kernel_rfl) rfl rfl ?_
      refine Reg.EachV.passed 10 148 false rfl (by kernel_rfl) (by kernel_rfl) rfl rfl ?_
      refine Reg.EachV.passed 10 148 false rfl (by kernel_rfl) (by kernel_rfl) rfl rfl ?_
      refine Reg.EachV.passed 10 148 false rfl (by kernel_rfl) (by kernel_rfl) rfl rfl ?_
      refine Reg.EachV.passed 10 148 false rfl (by kernel_rfl) (by kernel_rfl) rfl rfl ?_
      refine Reg.EachV.passed 10 148 false rfl (by kernel_rfl) (by kernel_rfl) rfl rfl ?_
      refine Reg.EachV.passed 10 148 false rfl (by kernel_rfl) (by kernel_rfl) rfl rfl ?_
      refine Reg.EachV.passed 10 148 false rfl (by kernel_rfl) (by kernel_rfl) rfl rfl ?_
      refine Reg.EachV.plain rfl (fun T X hS hk K hK => ?_) ?_
      · skip
        have g148 : T[148]? = some (.bool false) := hk.val 10 148 (by kernel_rfl) (by kernel_rfl) rfl
        have g159 : T[159]? = some (undef) := hk.val 21 159 (by kernel_rfl) (by kernel_rfl) rfl
        have hK := hK _ X hS (Reg.Is.of_val rfl) (fun _ _ _ h => h)
        clear hk
        go_simp
        exact hK
      exact Reg.EachV.nil
    case rsZ =>
      intro u w5 hS hI
      have e0 : u 0 = .pointer (some ⟨rb, 0, none⟩) := (hI 0 (by decide)).val rfl
      have e1 : u 1 = .pointer (some ⟨rb, 0, none⟩) := (hI 1 (by decide)).val rfl
      have e2 : u 2 = .pointer (some ⟨rb, 1, none⟩) := (hI 2 (by decide)).val rfl
      have e3 : u 3 = .int .i64 pe := (hI 3 (by decide)).val rfl
      have e4 : u 4 = .pointer (some ⟨rb, 0, none⟩) := (hI 4 (by decide)).val rfl
      have e5 : u 5 = .pointer (some ⟨rb, 0, none⟩) := (hI 5 (by decide)).val rfl
      have e6 : u 6 = .pointer (some ⟨rb, 0, none⟩) := (hI 6 (by decide)).val rfl
      have e7 : u 7 = .slice aa l.length cap := (hI 7 (by decide)).val rfl
      have e8 : u 8 = .int .i64 l.length := (hI 8 (by decide)).val rfl
      have e9 : u 9 = .bool false := (hI 9 (by decide)).val rfl
      have e10 : u 10 = .bool false := (hI 10 (by decide)).val rfl
      have e11 : u 11 = undef := (hI 11 (by decide)).val rfl
      have e12 : u 12 = undef := (hI 12 (by decide)).val rfl
      have e13 : u 13 = undef := (hI 13 (by decide)).val rfl
      have e14 : u 14 = undef := (hI 14 (by decide)).val rfl
      have e15 : u 15 = undef := (hI 15 (by decide)).val rfl
      have e16 : u 16 = undef := (hI 16 (by decide)).val rfl
      have e17 : u 17 = undef := (hI 17 (by decide)).val rfl
      have e18 : u 18 = undef := (hI 18 (by decide)).val rfl
      have e19 : u 19 = undef := (hI 19 (by decide)).val rfl
      have e20 : u 20 = undef := (hI 20 (by decide)).val rfl
      have e21 : u 21 = undef := (hI 21 (by decide)).val rfl
      have e22 : u 22 = .bool false := (hI 22 (by decide)).val rfl
      clear hI
      simp only [Reg.putAll, Act.put, List.setIfInBounds_toArray, List.set_cons_succ, List.set_cons_zero, Nat.zero_add, Nat.reduceAdd, e0, e1, e2, e3, e4, e5, e6, e7, e8, e9, e10, e11, e12, e13, e14, e15, e16, e17, e18, e19, e20, e21, e22]
      clear e0 e1 e2 e3 e4 e5 e6 e7 e8 e9 e10 e11 e12 e13 e14 e15 e16 e17 e18 e19 e20 e21 e22
      have HZ := Lib.hid hS
      have HR5 := Lib.hid (HR2.out.next hS)
      have K5 := Lib.hid (K2.out.next hrw (Ch.of_below hS (Nat.le_of_lt HR2.out.lt)))
      obtain ⟨e0, e1⟩ := HX.out w5 hS
      clear hS
      have HZQ : Hid (∀ g x', w.heap.size ≤ g → RaS l (.slice aa l.length cap) rb pe 0 0 (w5.setRow g x')) := Lib.hid fun g x' hg' => HR5.out.rowN HS.out K5.out.ch hrw hg' x'
      have HG9 := Lib.hid K5.out.blk1
      unfold zrO at HG9
      go_wp2_with (first | (refine wpList_store_ar rfl _ _ rfl rfl w.heap.size ⟨#[110, 117, 109]⟩ cv ⟨#[]⟩ p 0 (.slice none 0 0) rfl rfl rfl _ HG9.out rfl ?_) | fail)
      exact bodyPost_ret (results_ar rfl _ _ w.heap.size _ rfl (setRow_self HG9.out _) rfl) rfl ⟨⟨.num cv p, none, 0, rfl, rfl, rfl, pe, HZQ.out _ _ (Nat.le_refl _), hpl, by rw [HPEC.out]⟩, K5.out.ch.rowNew (Nat.le_refl _) hrw _⟩
end Go.Proofs.YtacfglopionkfaaGreatDoor
