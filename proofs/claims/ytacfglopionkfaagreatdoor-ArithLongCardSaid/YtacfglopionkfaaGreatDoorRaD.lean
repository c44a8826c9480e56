/- The reference's reader of arithmetic: expr (gen_rad.py). -/
import Derived.Test.YtacfglopionkfaaGreatDoorRaC
import Derived.Test.YtacfglopionkfaaGreatDoorAcRn
namespace Go.Proofs.YtacfglopionkfaaGreatDoor
open Go.RowKit

theorem RaQ.row {l : List Int} {bv : Value} {rb n lo n0 lo0 : Nat} {r : Rs} {y : Tr} {kv : Value} {w w' : World} (h : RaQ l bv rb n lo r y kv w') (hs : Sl w bv l) (hap : ∀ x o n cap, bv = .slice (some ⟨x, o, none⟩) n cap → l = [] ∨ x ≠ rb) (hc : Ch rb w w') (hr : rb < w.heap.size) {g : Nat} (hg : w.heap.size ≤ g) (hgl : g < lo) (hlo : lo0 ≤ lo) (hn : n ≤ n0) (c : Array Value) : RaQ l bv rb n0 lo0 r y kv (w'.setRow g c) :=
  h.move (by
    show (w'.heap.modify g _)[rb]? = _
    rw [Array.getElem?_modify, if_neg (by omega)]) (sl_chR hs hap (hc.rowNew hg hr c)) (fun k hk _ => by
    show (w'.heap.modify g _)[k]? = _
    rw [Array.getElem?_modify, if_neg (by omega)]) hlo hn

set_option maxRecDepth 100000 in
set_option maxHeartbeats 8000000 in
theorem ra_expr_no {l : List Int} {bv : Value} {rb n k : Nat} {res : Rs} {w : World} (ih : RaC l bv rb n) (hcd : rd l n .cond (tok l k) = some res) (hkd : nmN (l.drop (skipN l k)) = 0) (h : RaS l bv rb k 0 0 w) (hk : k ≤ l.length) :
    Calls Tryz.prog 41 #[.pointer (some ⟨rb, 0, none⟩)] w fun e w' => RaO l bv rb (n + 1) w.heap.size res e w' ∧ Ch rb w w' := by

  rw [← tok_skip] at hcd
  have hp := skipN_le l k hk
  have hrw := h.lt
  have hll := h.len
  have HS := Lib.hid h.sl
  have HAP := Lib.hid h.ap
  obtain ⟨aa, cap, hbv, hcl⟩ := h.sh
  obtain ⟨W, hW⟩ : ∃ W, W = w.alloc zrO := ⟨_, rfl⟩
  have HB0 : Hid (Below w.heap.size w W) := Lib.hid (by rw [hW]; exact (Below.refl _ _).alloc (Nat.le_refl _) _)
  have HK0 : Hid (Kp rb w W [(w.heap.size, zrO)]) := Lib.hid (by rw [hW]; exact Kp.start rb w hrw zrO)
  have HBL := Lib.hid (ra_blank (h.next HB0.out))
  have HWE := Lib.hid hW
  clear hW h
  obtain ⟨p, hpe⟩ : ∃ p, skipN l k = p := ⟨_, rfl⟩
  rw [hpe] at HBL hp hcd hkd
  have HPE := Lib.hid hpe
  clear hpe
  have HNM : Hid (∀ X, Sl X bv l → Calls Tryz.prog 55 #[.slice (cutR aa cap p) (l.length - p) (cap - p)] X fun e w' => e = .returned (.int .i64 (nmN (l.drop p))) ∧ X = w') := Lib.hid fun X hX => refName_any _ _ _ (by rw [hbv] at hX; exact hX.fromR p hp)
  have hcu : (if cap = p then aa else Option.map (fun x => x.add p) aa) = cutR aa cap p := rfl
  have hpc : p ≤ cap := by omega
  subst hbv
  generalize cutR aa cap p = d at *
  generalize nmN (l.drop p) = nn at *
  subst hkd
  unfold zrO at HWE
  go_enter Tryz.func41, Tryz.ntmps41
  go_upto_region 1 with fail
  rw [← HWE.out]
  go_wp2_with fail
  refine HBL.out.mono ?_
  rintro x w1 ⟨rfl, hr1, hc1⟩
  have HR1 := Lib.hid hr1
  have K1 := Lib.hid (HK0.out.next hrw hc1)
  clear hr1 hc1 HBL
  obtain ⟨e0, e1, _, _, _⟩ := HR1.out.cells
  go_wp2_with fail
  refine (HNM.out _ HR1.out.sl).mono ?_
  rintro x w1' ⟨rfl, rfl⟩

  have HCN := Lib.hid (ih.cond p res _ hcd HR1.out hp)
  go_wp2_with fail
  refine HCN.out.mono ?_
  rintro x w9 ⟨⟨y, oa, na, rfl, hq⟩, hch⟩
  have K9 := Lib.hid (K1.out.next hrw hch)
  have HQ := Lib.hid hq
  have hlo := lt_of_heap (K1.out.at (List.mem_cons_self ..))
  have HG9 := Lib.hid (K9.out.at (List.mem_cons_self ..))
  clear hch hq
  unfold zrO at HG9
  go_wp2_with (first | (refine wpList_store_ar rfl _ _ rfl rfl w.heap.size y.op y.val y.nm y.pos y.apos (.slice oa na na) rfl rfl rfl _ HG9.out rfl ?_) | fail)
  exact bodyPost_ret (results_ar rfl _ _ w.heap.size _ rfl (setRow_self HG9.out _) rfl) rfl ⟨⟨y, oa, na, rfl, HQ.out.row HS.out HAP.out K9.out.ch hrw (Nat.le_refl _) hlo (Nat.le_of_lt hlo) (Nat.le_succ _) _⟩, K9.out.ch.rowNew (Nat.le_refl _) hrw _⟩

set_option maxRecDepth 100000 in
set_option maxHeartbeats 8000000 in
theorem ra_expr_nm {l : List Int} {bv : Value} {rb n k : Nat} {res : Rs} {w : World} (ih : RaC l bv rb n) (hcd : rd l n .cond (tok l k) = some res) (hkd : 0 < nmN (l.drop (skipN l k))) (has : asgB (sgB l (skipN l k + nmN (l.drop (skipN l k)))) = false) (h : RaS l bv rb k 0 0 w) (hk : k ≤ l.length) :
    Calls Tryz.prog 41 #[.pointer (some ⟨rb, 0, none⟩)] w fun e w' => RaO l bv rb (n + 1) w.heap.size res e w' ∧ Ch rb w w' := by

  rw [← tok_skip] at hcd
  have hnl := nmN_le (l.drop (skipN l k))
  rw [List.length_drop] at hnl
  have hp := skipN_le l k hk
  have hrw := h.lt
  have hll := h.len
  have HS := Lib.hid h.sl
  have HAP := Lib.hid h.ap
  obtain ⟨aa, cap, hbv, hcl⟩ := h.sh
  obtain ⟨W, hW⟩ : ∃ W, W = w.alloc zrO := ⟨_, rfl⟩
  have HB0 : Hid (Below w.heap.size w W) := Lib.hid (by rw [hW]; exact (Below.refl _ _).alloc (Nat.le_refl _) _)
  have HK0 : Hid (Kp rb w W [(w.heap.size, zrO)]) := Lib.hid (by rw [hW]; exact Kp.start rb w hrw zrO)
  have HBL := Lib.hid (ra_blank (h.next HB0.out))
  have HWE := Lib.hid hW
  clear hW h
  obtain ⟨p, hpe⟩ : ∃ p, skipN l k = p := ⟨_, rfl⟩
  rw [hpe] at HBL hp hcd hkd hnl has
  have HPE := Lib.hid hpe
  clear hpe
  have HNM : Hid (∀ X, Sl X bv l → Calls Tryz.prog 55 #[.slice (cutR aa cap p) (l.length - p) (cap - p)] X fun e w' => e = .returned (.int .i64 (nmN (l.drop p))) ∧ X = w') := Lib.hid fun X hX => refName_any _ _ _ (by rw [hbv] at hX; exact hX.fromR p hp)
  have hcu : (if cap = p then aa else Option.map (fun x => x.add p) aa) = cutR aa cap p := rfl
  have hpc : p ≤ cap := by omega
  subst hbv
  generalize cutR aa cap p = d at *
  generalize nmN (l.drop p) = nn at *
  have HAS := Lib.hid has
  have HNL : Hid (p + nn ≤ l.length ∧ 0 < nn) := Lib.hid ⟨by omega, hkd⟩
  clear has hnl hkd
  unfold zrO at HWE
  go_enter Tryz.func41, Tryz.ntmps41
  go_upto_region 1 with fail
  rw [← HWE.out]
  go_wp2_with fail
  refine HBL.out.mono ?_
  rintro x w1 ⟨rfl, hr1, hc1⟩
  have HR1 := Lib.hid hr1
  have K1 := Lib.hid (HK0.out.next hrw hc1)
  clear hr1 hc1 HBL
  obtain ⟨e0, e1, _, _, _⟩ := HR1.out.cells
  go_wp2_with fail
  refine (HNM.out _ HR1.out.sl).mono ?_
  rintro x w1' ⟨rfl, rfl⟩

  have hnl := HNL.out.1
  have hkd := HNL.out.2
  have hz : (0 : Int) < nn := by omega
  have hzd : decide ((0 : Int) < nn) = true := by simpa using hz
  have f1 := HR1.out.fr 1
  have HR2 : Hid (RaS l (.slice aa l.length cap) rb (p + nn) 0 0 (w1.setCell ⟨rb, 1, none⟩ (.int .i64 ((p : Int) + (nn : Int))))) := Lib.hid (HR1.out.setK (p + nn) (by omega))
  have K2 : Hid (Kp rb w (w1.setCell ⟨rb, 1, none⟩ (.int .i64 ((p : Int) + (nn : Int)))) [(w.heap.size, zrO)]) := Lib.hid (K1.out.next hrw (Ch.set _ _ _))
  have HSG := Lib.hid (ra_sign HR2.out)
  go_wp2_with fail
  refine HSG.out.mono ?_
  rintro x w3 ⟨rfl, hr3, hc3⟩
  have HR3 := Lib.hid hr3
  have K3 := Lib.hid (K2.out.next hrw hc3)
  clear hr3 hc3 HSG HR2 K2 e0 e1 f1
  have HASG := Lib.hid (ra_assigns _ (sg_mem l (p + nn)) w3)
  rw [HAS.out] at HASG
  go_wp2_with fail
  refine HASG.out.mono ?_
  rintro x w3' ⟨rfl, rfl⟩
  obtain ⟨e0, e1, _, _, _⟩ := HR3.out.cells
  have f1 := HR3.out.fr 1
  have HR4 : Hid (RaS l (.slice aa l.length cap) rb p 0 0 (w3'.setCell ⟨rb, 1, none⟩ (.int .i64 (p : Nat)))) := Lib.hid (HR3.out.setK p (by omega))
  have K4 : Hid (Kp rb w (w3'.setCell ⟨rb, 1, none⟩ (.int .i64 (p : Nat))) [(w.heap.size, zrO)]) := Lib.hid (K3.out.next hrw (Ch.set _ _ _))
  have HCN := Lib.hid (ih.cond p res _ hcd HR4.out hp)
  go_wp2_with fail
  refine HCN.out.mono ?_
  rintro x w9 ⟨⟨y, oa, na, rfl, hq⟩, hch⟩
  have K9 := Lib.hid (K4.out.next hrw hch)
  have HQ := Lib.hid hq
  have hlo := lt_of_heap (K4.out.at (List.mem_cons_self ..))
  have HG9 := Lib.hid (K9.out.at (List.mem_cons_self ..))
  clear hch hq
  unfold zrO at HG9
  go_wp2_with (first | (refine wpList_store_ar rfl _ _ rfl rfl w.heap.size y.op y.val y.nm y.pos y.apos (.slice oa na na) rfl rfl rfl _ HG9.out rfl ?_) | fail)
  exact bodyPost_ret (results_ar rfl _ _ w.heap.size _ rfl (setRow_self HG9.out _) rfl) rfl ⟨⟨y, oa, na, rfl, HQ.out.row HS.out HAP.out K9.out.ch hrw (Nat.le_refl _) hlo (Nat.le_of_lt hlo) (Nat.le_succ _) _⟩, K9.out.ch.rowNew (Nat.le_refl _) hrw _⟩

/-- What the loads within an assignment's last statement find. -/
theorem ra_facts {l : List Int} {x ox cap rb : Nat} {w W : World} (hs : Sl w (.slice (some ⟨x, ox, none⟩) l.length cap) l) (hne : x ≠ rb) (hc : Ch rb w W) (hb : ∃ k c q, W.heap[rb]? = some (.cells (raA (.slice (some ⟨x, ox, none⟩) l.length cap) k c q) 81 (0, 0))) (p nn : Nat) (hpn : p + nn ≤ l.length) (h0 : 0 < nn) :
    W.cell? ⟨rb, 0, none⟩ = some (.slice (some ⟨x, ox, none⟩) l.length cap) ∧ (convert 22 9 (.slice (some ⟨x, ox + p, none⟩) nn (cap - p))).run Tryz.prog W = .ok (.string (ofBys ((l.drop p).take nn))) W := by
  obtain ⟨k, c, q, hb⟩ := hb
  refine ⟨(Lib.cell_of_heap hb 0).trans rfl, ?_⟩
  have hS := sl_chR hs (fun x' o' n' cap' e => Or.inr (by simp only [Value.slice.injEq, Option.some.injEq, Addr.mk.injEq] at e; omega)) hc
  have hF := hS.fromR p (by omega)
  have hcl : l.length ≤ cap := by
    rcases hS.2.2 with ⟨rfl, _⟩ | ⟨b, o, cap', he, h1, h2, h3⟩
    · simp at hpn; omega
    · simp only [Value.slice.injEq] at he
      omega
  have e : cutR (some ⟨x, ox, none⟩) cap p = some ⟨x, ox + p, none⟩ := by unfold cutR; rw [if_neg (by omega)]; simp [WideShapes.add_plain]
  rw [e] at hF
  exact conv_string (hF.uptoR nn (by rw [List.length_drop]; omega))
theorem Kp.blk1 {rb : Nat} {w W : World} {g : Nat} {o : Obj} {L : List (Nat × Obj)} (h : Kp rb w W ((g, o) :: L)) : W.heap[g]? = some o := h.at (List.mem_cons_self ..)
theorem Kp.drew {rb : Nat} {w W : World} {L : List (Nat × Obj)} (h : Kp rb w W L) : Kp rb w W.drew L := ⟨ch_drew h.ch, h.all⟩

theorem bk_alloc {bv : Value} {rb : Nat} {w : World} (h : ∃ k c q, w.heap[rb]? = some (.cells (raA bv k c q) 81 (0, 0))) (o : Obj) : ∃ k c q, (w.alloc o).heap[rb]? = some (.cells (raA bv k c q) 81 (0, 0)) := by
  obtain ⟨k, c, q, h⟩ := h
  exact ⟨k, c, q, alloc_keeps h o⟩
theorem bk_putA {bv : Value} {rb : Nat} {w : World} (h : ∃ k c q, w.heap[rb]? = some (.cells (raA bv k c q) 81 (0, 0))) {g : Nat} (hg : rb ≠ g) (v0 v1 v2 v3 v4 v5 : Value) : ∃ k c q, (putA w g v0 v1 v2 v3 v4 v5).heap[rb]? = some (.cells (raA bv k c q) 81 (0, 0)) := by
  obtain ⟨k, c, q, h⟩ := h
  exact ⟨k, c, q, (putA_other _ _ _ _ _ _ _ _ _ hg).trans h⟩
theorem RaQ.asg {l : List Int} {bv : Value} {rb n lo b : Nat} {r : Rs} {y : Tr} {kv : Value} {w : World} (h : RaQ l bv rb n lo r y kv w) (hb : w.heap[b]? = some (.cells #[.string y.op, .int .i64 y.val, .string y.nm, .int .i64 y.pos, .int .i64 y.apos, kv] 30)) (hlo : lo ≤ b) (op nm : ByteArray) (p q : Nat) : RaQ l bv rb n lo (r.map (.asg op nm p q)) (.asg op nm p q y) (.slice (some ⟨b, 0, none⟩) 1 1) w := by
  cases r with
  | ok t nx =>
    obtain ⟨rfl, hi, hk⟩ := h
    exact ⟨rfl, ⟨b, kv, rfl, hlo, hb, hi⟩, hk⟩
  | bad c q => exact h

set_option maxRecDepth 100000 in
set_option maxHeartbeats 8000000 in
theorem ra_expr_asg {l : List Int} {bv : Value} {rb n k : Nat} {res : Rs} {w : World} (ih : RaC l bv rb n) (hex : rd l n .expr (tok l (skipN l (skipN l k + nmN (l.drop (skipN l k))) + (sgB l (skipN l k + nmN (l.drop (skipN l k)))).size)) = some res) (hkd : 0 < nmN (l.drop (skipN l k))) (has : asgB (sgB l (skipN l k + nmN (l.drop (skipN l k)))) = true) (h : RaS l bv rb k 0 0 w) (hk : k ≤ l.length) :
    Calls Tryz.prog 41 #[.pointer (some ⟨rb, 0, none⟩)] w fun e w' => RaO l bv rb (n + 1) w.heap.size (res.map (.asg (sgB l (skipN l k + nmN (l.drop (skipN l k)))) (ofBys ((l.drop (skipN l k)).take (nmN (l.drop (skipN l k))))) (skipN l k) (skipN l (skipN l k + nmN (l.drop (skipN l k)))))) e w' ∧ Ch rb w w' := by

  have hnl := nmN_le (l.drop (skipN l k))
  rw [List.length_drop] at hnl
  have hp := skipN_le l k hk
  have hrw := h.lt
  have hll := h.len
  have HS := Lib.hid h.sl
  have HAP := Lib.hid h.ap
  obtain ⟨aa, cap, hbv, hcl⟩ := h.sh
  obtain ⟨W, hW⟩ : ∃ W, W = w.alloc zrO := ⟨_, rfl⟩
  have HB0 : Hid (Below w.heap.size w W) := Lib.hid (by rw [hW]; exact (Below.refl _ _).alloc (Nat.le_refl _) _)
  have HK0 : Hid (Kp rb w W [(w.heap.size, zrO)]) := Lib.hid (by rw [hW]; exact Kp.start rb w hrw zrO)
  have HBL := Lib.hid (ra_blank (h.next HB0.out))
  have HWE := Lib.hid hW
  clear hW h
  obtain ⟨p, hpe⟩ : ∃ p, skipN l k = p := ⟨_, rfl⟩
  rw [hpe] at HBL hp hex hkd hnl has ⊢
  have HPE := Lib.hid hpe
  clear hpe
  have HNM : Hid (∀ X, Sl X bv l → Calls Tryz.prog 55 #[.slice (cutR aa cap p) (l.length - p) (cap - p)] X fun e w' => e = .returned (.int .i64 (nmN (l.drop p))) ∧ X = w') := Lib.hid fun X hX => refName_any _ _ _ (by rw [hbv] at hX; exact hX.fromR p hp)
  have hcu : (if cap = p then aa else Option.map (fun x => x.add p) aa) = cutR aa cap p := rfl
  have hpc : p ≤ cap := by omega
  subst hbv
  generalize cutR aa cap p = d at *
  generalize nmN (l.drop p) = nn at *
  have HAS := Lib.hid has
  have HNL : Hid (p + nn ≤ l.length ∧ 0 < nn) := Lib.hid ⟨by omega, hkd⟩
  clear has hnl hkd
  have hsq := skipN_le l (p + nn) HNL.out.1
  have hst := sg_stop l (p + nn) HNL.out.1
  have hs3 := sg_size l (p + nn)
  obtain ⟨s, hse⟩ : ∃ s, sgB l (p + nn) = s := ⟨_, rfl⟩
  obtain ⟨q, hqe⟩ : ∃ q, skipN l (p + nn) = q := ⟨_, rfl⟩
  obtain ⟨nm, hnm⟩ : ∃ nm, ofBys ((l.drop p).take nn) = nm := ⟨_, rfl⟩
  rw [hse, hqe] at hex hst ⊢
  rw [hqe] at hsq
  rw [hse] at hs3
  rw [hnm]
  have HSE := Lib.hid hse
  have HQE := Lib.hid hqe
  have HNE := Lib.hid hnm
  have HST := Lib.hid (And.intro hsq (And.intro hst hs3))
  clear hse hqe hnm hsq hst hs3
  unfold zrO at HWE
  go_enter Tryz.func41, Tryz.ntmps41
  go_upto_region 1 with fail
  rw [← HWE.out]
  go_wp2_with fail
  refine HBL.out.mono ?_
  rintro x w1 ⟨rfl, hr1, hc1⟩
  have HR1 := Lib.hid hr1
  have K1 := Lib.hid (HK0.out.next hrw hc1)
  clear hr1 hc1 HBL
  obtain ⟨e0, e1, _, _, _⟩ := HR1.out.cells
  go_wp2_with fail
  refine (HNM.out _ HR1.out.sl).mono ?_
  rintro x w1' ⟨rfl, rfl⟩

  have hnl := HNL.out.1
  have hkd := HNL.out.2
  have hz : (0 : Int) < nn := by omega
  have hzd : decide ((0 : Int) < nn) = true := by simpa using hz
  have f1 := HR1.out.fr 1
  have HR2 : Hid (RaS l (.slice aa l.length cap) rb (p + nn) 0 0 (w1.setCell ⟨rb, 1, none⟩ (.int .i64 ((p : Int) + (nn : Int))))) := Lib.hid (HR1.out.setK (p + nn) (by omega))
  have K2 : Hid (Kp rb w (w1.setCell ⟨rb, 1, none⟩ (.int .i64 ((p : Int) + (nn : Int)))) [(w.heap.size, zrO)]) := Lib.hid (K1.out.next hrw (Ch.set _ _ _))
  have HSG := Lib.hid (ra_sign HR2.out)
  go_wp2_with fail
  refine HSG.out.mono ?_
  rintro x w3 ⟨rfl, hr3, hc3⟩
  have HR3 := Lib.hid hr3
  have K3 := Lib.hid (K2.out.next hrw hc3)
  clear hr3 hc3 HSG HR2 K2 e0 e1 f1
  have HASG := Lib.hid (ra_assigns _ (sg_mem l (p + nn)) w3)
  rw [HAS.out] at HASG
  obtain ⟨hsq, hst, hs3⟩ := HST.out
  rw [HSE.out] at HASG
  rw [HQE.out] at HR3
  rw [HSE.out]
  obtain ⟨x, ox, cap', hbv, hcl', hcm, hrow, hne⟩ := HR3.out.row (show p < l.length by omega)
  simp only [Value.slice.injEq] at hbv
  obtain ⟨rfl, _, rfl⟩ := hbv
  clear hrow hcl'
  go_wp2_with fail
  refine HASG.out.mono ?_
  rintro x2 w3' ⟨rfl, rfl⟩
  obtain ⟨e0, e1, _, _, _⟩ := HR3.out.cells
  have f1 := HR3.out.fr 1
  have HR4 : Hid (RaS l (.slice (some ⟨x, ox, none⟩) l.length cap) rb (q + s.size) 0 0 (w3'.setCell ⟨rb, 1, none⟩ (.int .i64 ((q : Int) + (s.size : Int))))) := Lib.hid (HR3.out.setK (q + s.size) (by omega))
  have K4 : Hid (Kp rb w (w3'.setCell ⟨rb, 1, none⟩ (.int .i64 ((q : Int) + (s.size : Int)))) [(w.heap.size, zrO)]) := Lib.hid (K3.out.next hrw (Ch.set _ _ _))
  go_wp2_with fail
  generalize hW4 : w3'.setCell ⟨rb, 1, none⟩ (.int .i64 ((q : Int) + (s.size : Int))) = w4 at *
  clear hW4 e0 e1 f1 HR3 K3 HR1 K1 HK0
  have HEX := Lib.hid (ih.expr (q + s.size) res w4.drew hex ⟨HR4.out.blk, HR4.out.sl, HR4.out.len, HR4.out.hi, HR4.out.ap⟩ hst)
  have hcp : ¬ cap = p := by omega
  obtain ⟨pe, hpe⟩ : ∃ pe, pe = p + nn := ⟨_, rfl⟩
  have hwa : IntKind.i64.wrap ((p : Int) + (nn : Int)) = (pe : Int) := by rw [IntKind.wrap_i64]; omega
  have hpe1 : p ≤ pe := by omega
  have hpe2 : pe ≤ cap := by omega
  have hpe3 : pe - p = nn := by omega
  have HF : Hid (∀ X, Ch rb w X → (∃ k c q, X.heap[rb]? = some (.cells (raA (.slice (some ⟨x, ox, none⟩) l.length cap) k c q) 81 (0, 0))) → X.cell? ⟨rb, 0, none⟩ = some (.slice (some ⟨x, ox, none⟩) l.length cap) ∧ (convert 22 9 (.slice (some ⟨x, ox + p, none⟩) nn (cap - p))).run Tryz.prog X = .ok (.string (ofBys ((l.drop p).take nn))) X) := Lib.hid fun X hX hb => ra_facts HS.out hne hX hb p nn hnl hkd
  rw [HNE.out] at HF
  have HF4 := Lib.hid (HF.out w4 K4.out.ch ⟨_, _, _, HR4.out.blk⟩)
  have HF4d := Lib.hid (HF.out w4.drew (ch_drew K4.out.ch) ⟨_, _, _, HR4.out.blk⟩)
  clear hpe
  go_region_held3 (fun X => X.cell? ⟨rb, 0, none⟩ = some (.slice (some ⟨x, ox, none⟩) l.length cap) ∧ (convert 22 9 (.slice (some ⟨x, ox + p, none⟩) nn (cap - p))).run Tryz.prog X = .ok (.string nm) X)
    (first | with_reducible exact HF4.out | with_reducible exact HF4d.out | with_reducible exact HF5.out | with_reducible exact HF6.out | with_reducible exact HF7.out _ _ _ _ _ _)
    (first | (go_at_call 41; (with_reducible refine HEX.out.mono ?_); rintro e w5 ⟨⟨y, oa, na, rfl, hq⟩, hch⟩; have HQ := Lib.hid hq; have K5 := Lib.hid (K4.out.drew.next hrw hch); clear hq hch; have HB5 : Hid (∃ k c q, w5.heap[rb]? = some (.cells (raA (.slice (some ⟨x, ox, none⟩) l.length cap) k c q) 81 (0, 0))) := Lib.hid (by obtain ⟨k', c', q', hr'⟩ := HQ.out.st; exact ⟨_, _, _, hr'.blk⟩); have HF5 := Lib.hid (HF.out w5 K5.out.ch HB5.out); have H5S := Lib.hid (lt_of_heap K5.out.blk1); have K6 := Lib.hid (K5.out.add hrw (.cells #[.string y.op, .int .i64 y.val, .string y.nm, .int .i64 y.pos, .int .i64 y.apos, .slice oa na na] 30)); have HG6 := Lib.hid (K6.out.at (List.mem_cons_of_mem _ (List.mem_cons_self ..))); have HB6 := Lib.hid (bk_alloc HB5.out (.cells #[.string y.op, .int .i64 y.val, .string y.nm, .int .i64 y.pos, .int .i64 y.apos, .slice oa na na] 30)); have HF6 := Lib.hid (HF.out _ K6.out.ch HB6.out); have HF7 := Lib.hid (fun v0 v1 v2 v3 v4 v5 => HF.out _ (putA_ch K6.out.ch (Nat.le_refl _) (Nat.le_of_lt hrw) v0 v1 v2 v3 v4 v5) (bk_putA HB6.out (by omega) v0 v1 v2 v3 v4 v5)); unfold putA at HF7; obtain ⟨⟨z0, z1, z2, z3, z4, z5⟩, y0, y1, y2, y3, y4, y5⟩ := six_facts HG6.out))
  have h5s := H5S.out
  have hdr : w4.drew.heap.size = w4.heap.size := rfl
  obtain ⟨V, hV⟩ : ∃ V : World, V = putA (w5.alloc (.cells #[.string y.op, .int .i64 y.val, .string y.nm, .int .i64 y.pos, .int .i64 y.apos, .slice oa na na] 30)) w.heap.size (.string s) (.int .i64 0) (.string nm) (.int .i64 p) (.int .i64 q) (.slice (some ⟨w5.heap.size, 0, none⟩) 1 1) := ⟨_, rfl⟩
  have hV' := hV
  unfold putA at hV'
  rw [← hV']
  clear hV'
  have HVR : Hid (V.heap[w.heap.size]? = some (.cells #[.string s, .int .i64 0, .string nm, .int .i64 p, .int .i64 q, .slice (some ⟨w5.heap.size, 0, none⟩) 1 1] 30)) := Lib.hid (by rw [hV]; exact putA_at HG6.out _ _ _ _ _ _)
  have HVC : Hid (Ch rb w V) := Lib.hid (by rw [hV]; exact putA_ch K6.out.ch (Nat.le_refl _) (Nat.le_of_lt hrw) _ _ _ _ _ _)
  have HVK : Hid (V.heap[w5.heap.size]? = some (.cells #[.string y.op, .int .i64 y.val, .string y.nm, .int .i64 y.pos, .int .i64 y.apos, .slice oa na na] 30)) := Lib.hid (by rw [hV]; exact (putA_other _ _ _ _ _ _ _ _ _ (by omega)).trans (heap_alloc_last w5 _))
  have h4s := lt_of_heap K4.out.blk1
  have HVQ : Hid (RaQ l (.slice (some ⟨x, ox, none⟩) l.length cap) rb (n + 1) w.heap.size res y (.slice oa na na) V) := Lib.hid (HQ.out.move (by rw [hV]; exact (putA_other _ _ _ _ _ _ _ _ _ (by omega)).trans (alloc_at_old _ _ _ (by omega))) (sl_chR HS.out HAP.out HVC.out) (fun k' hk' hs' => by rw [hV]; exact (putA_other _ _ _ _ _ _ _ _ _ (by omega)).trans (alloc_at_old _ _ _ hs')) (by show w.heap.size ≤ w4.heap.size; omega) (Nat.le_succ _))
  clear hV z0 z1 z2 z3 z4 z5 y0 y1 y2 y3 y4 y5 HF7
  go_wp2_with fail
  exact bodyPost_ret (results_ar rfl _ _ w.heap.size _ rfl HVR.out rfl) rfl ⟨⟨.asg s nm p q y, _, _, rfl, HVQ.out.asg HVK.out (Nat.le_of_lt h5s) s nm p q⟩, HVC.out⟩
end Go.Proofs.YtacfglopionkfaaGreatDoor
