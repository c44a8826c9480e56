/- The reference's reader of arithmetic: bin (gen_rah.py). -/
import Derived.Test.YtacfglopionkfaaGreatDoorKRe
import Derived.Test.YtacfglopionkfaaGreatDoorKAs
namespace Go.Proofs.YtacfglopionkfaaGreatDoor
open Go.RowKit

/-- What holds whenever the loop looks at the next operator: no fault so far; a fault. -/
def RbA (l : List Int) (bv : Value) (rb least n : Nat) (w : World) (A : Nat) (res : Rs) (m : Nat) (wr : World) : Prop :=
  m ≤ n ∧ ∃ left kx oa na, rd l m (.loop least left) (tok l kx) = some res ∧ Kp rb w wr [(A, arO left (.slice oa na na)), (w.heap.size, zrO)] ∧ w.heap.size < A ∧ left.InP wr (fun b => w.heap.size + 1 ≤ b ∧ b ≠ A) (.slice oa na na) ∧ RaS l bv rb kx 0 0 wr ∧ kx ≤ l.length
def RbF (l : List Int) (bv : Value) (rb n : Nat) (w : World) (A : Nat) (res : Rs) (wr : World) : Prop :=
  ∃ y c q kx oa na, res = .bad (c + 1) q ∧ Kp rb w wr [(A, arO y (.slice oa na na)), (w.heap.size, zrO)] ∧ w.heap.size < A ∧ RaS l bv rb kx (c + 1) q wr ∧ kx ≤ l.length + n
theorem Kp.putA2 {rb : Nat} {w W : World} {A k0 : Nat} {o0 x : Obj} {x0 x1 x2 x3 x4 x5 : Value} {ty : TypeId} (h : Kp rb w W [(k0, o0), (A, .cells #[x0, x1, x2, x3, x4, x5] ty), (w.heap.size, x)]) (hA : A ≠ w.heap.size) (hrb : rb < w.heap.size) (v0 v1 v2 v3 v4 v5 : Value) : Kp rb w (putA W A v0 v1 v2 v3 v4 v5) [(A, .cells #[v0, v1, v2, v3, v4, v5] ty), (w.heap.size, x)] where
  ch := by
    have hg := h.ge (b := A) (List.mem_cons_of_mem _ (List.mem_cons_self ..))
    have hs := h.ch.1.size
    refine ⟨putA_below h.ch.1 (by show rb ≤ A; have : w.heap.size ≤ A := hg; omega) _ _ _ _ _ _, fun i hi hb => (putA_other _ _ _ _ _ _ _ _ i (by omega)).trans (h.ch.2 i hi hb)⟩
  all := fun y hy => by
    rcases List.mem_cons.1 hy with rfl | hy
    · exact ⟨putA_at h.blk2 _ _ _ _ _ _, h.ge (List.mem_cons_of_mem _ (List.mem_cons_self ..))⟩
    · obtain rfl := List.mem_singleton.1 hy
      exact ⟨(putA_other _ _ _ _ _ _ _ _ _ (fun e => hA e.symm)).trans h.blk3, Nat.le_refl _⟩
set_option maxRecDepth 100000 in
set_option maxHeartbeats 16000000 in
theorem ra_bin {l : List Int} {bv : Value} {rb n least k : Nat} {res : Rs} {w : World} (ih : ∀ m, m ≤ n → RaC l bv rb m) (hrd : rd l (n + 1) (.bin least) (tok l k) = some res) (h1 : 1 ≤ least) (hle : least ≤ 11) (h : RaS l bv rb k 0 0 w) (hk : k ≤ l.length) :
    Calls Tryz.prog 108 #[.pointer (some ⟨rb, 0, none⟩), .int .i64 (least : Nat)] w fun e w' => RaO l bv rb (n + 1) w.heap.size res e w' ∧ Ch rb w w' := by
  have hrw := h.lt
  have hll := h.len
  have HS := Lib.hid h.sl
  have HAP := Lib.hid h.ap
  have HBY := Lib.hid h.sl.1
  obtain ⟨W, hW⟩ : ∃ W, W = w.alloc zrO := ⟨_, rfl⟩
  have HB0 : Hid (Below w.heap.size w W) := Lib.hid (by rw [hW]; exact (Below.refl _ _).alloc (Nat.le_refl _) _)
  have HK0 : Hid (Kp rb w W [(w.heap.size, zrO)]) := Lib.hid (by rw [hW]; exact Kp.start rb w hrw zrO)
  have hW0 : w.heap.size < W.heap.size := by rw [hW]; simp
  have HWE := Lib.hid hW
  simp only [rd] at hrd
  obtain ⟨r1, hr1⟩ : ∃ r1, rd l n .opd (tok l k) = r1 := ⟨_, rfl⟩
  obtain ⟨r1, rfl⟩ : ∃ r, r1 = some r := by
    cases r1 with
    | none => rw [hr1] at hrd; cases hrd
    | some r => exact ⟨r, rfl⟩
  have HOP := Lib.hid ((ih n (Nat.le_refl _)).opd k r1 W hr1 (h.next HB0.out) hk)
  rw [hr1] at hrd
  have HRD := Lib.hid hrd
  have IH := Lib.hid ih
  clear hW h hrd hr1 ih
  unfold zrO at HWE
  go_enter Tryz.func108, Tryz.ntmps108
  go_upto_region 1 with fail
  rw [← HWE.out]
  go_wp2_with fail
  refine HOP.out.mono ?_
  rintro x w1 ⟨⟨ya, oa, na, rfl, hq1⟩, hc1⟩
  have K1 := Lib.hid (HK0.out.next hrw hc1)
  have HQ1 := Lib.hid hq1
  have h1s := lt_of_heap K1.out.blk1
  have K1a := Lib.hid (K1.out.add hrw (arO ya (.slice oa na na)))
  clear hq1 hc1 HOP
  have HST : Hid (∀ o, o = arO ya (.slice oa na na) → RbA l bv rb least n w w1.heap.size res n (w1.alloc o) ∨ RbF l bv rb n w w1.heap.size res (w1.alloc o)) := Lib.hid fun o ho => by
    subst ho
    have hrd := HRD.out
    cases r1 with
    | ok t nx =>
      obtain ⟨rfl, hi, kx, hr, hkl, rfl⟩ := HQ1.out
      exact Or.inl ⟨Nat.le_refl _, ya, kx, oa, na, hrd, K1a.out, h1s, (Tr.In.toP (fun k' hk' hk2 => ⟨by omega, by omega⟩) ya _ hi).kept (fun k' _ hk2 => alloc_at_old _ _ k' hk2) ya _, hr.next ((Below.refl _ _).alloc (Nat.le_refl _) _), hkl⟩
    | bad c q =>
      obtain ⟨hc, kx, hr, hkl⟩ := HQ1.out
      obtain ⟨c1, rfl⟩ : ∃ c1, c = c1 + 1 := ⟨c - 1, by omega⟩
      exact Or.inr ⟨ya, c1, q, kx, oa, na, (Option.some.inj hrd).symm, K1a.out, h1s, hr.next ((Below.refl _ _).alloc (Nat.le_refl _) _), hkl⟩
  clear HRD HQ1 K1 K1a
  go_wp2_with fail
  generalize w1.heap.size = A at *
  go_loopg [6, 7, 8] n (fun m _ _ _ wr => RbA l bv rb least n w A res m wr ∨ RbF l bv rb n w A res wr)
  case atStart => exact HST.out _ rfl
  case round =>
    clear HST
    rcases hrel with hA | hF
    · obtain ⟨hgn, left, kx, oa, na, hl, hkp, hAl, hin, hr, hkx⟩ := hA
      have HKP := Lib.hid hkp
      have HIN := Lib.hid hin
      have HR := Lib.hid hr
      have HLD := Lib.hid hl
      obtain ⟨e0, e1, e2, _, _⟩ := hr.cells
      have hAs := lt_of_heap hkp.blk1
      have HSG := Lib.hid (ra_sign hr)
      have hsk := skipN_le l kx hkx
      have hst := sg_stop l kx hkx
      have HTS := Lib.hid (tx_str HBY.out kx)
      have HQE : Hid (¬ sgB l kx = sEmpty → (tok l kx).stop = skipN l kx + (sgB l kx).size ∧ (tok l kx).start = skipN l kx) := Lib.hid (sg_next l kx)
      have HTC := Lib.hid (tx_cases HBY.out kx)
      have HTK := Lib.hid (tok_skip l kx)
      clear hkp hin hr hl
      go_wp2_with fail
      refine HSG.out.mono ?_
      rintro x w2 ⟨rfl, hr2, hc2⟩
      have HR2 := Lib.hid hr2
      have K2 := Lib.hid (HKP.out.next hrw hc2)
      have HIN2 := Lib.hid (HIN.out.kept (fun k' hk' hs => hc2.2 k' hs (by omega)) left _)
      clear hr2 hc2 HSG HKP HIN HR e0 e1 e2
      have HLV := Lib.hid (ra_level _ (sg_mem l kx) w2)
      obtain ⟨y, hy⟩ : ∃ y, strN (sgB l kx) = y := ⟨_, rfl⟩
      have hy10 : y ≤ 10 := by rw [← hy]; exact strN_le _
      rw [hy] at HLV
      have HY := Lib.hid hy
      clear hy
      go_wp2_with fail
      refine HLV.out.mono ?_
      rintro x w2' ⟨rfl, rfl⟩
      obtain ⟨e0, e1, e2, _, _⟩ := HR2.out.cells
      have f1 := HR2.out.fr 1
      by_cases hge : least ≤ y
      · cases gk with
        | zero =>
          have := HLD.out
          simp [rd] at this
        | succ gm =>
          have hne : ¬ sgB l kx = sEmpty := strN_txt h1 (by rw [HY.out]; exact hge)
          obtain ⟨hstop, hstart⟩ := HQE.out hne
          have hl := HLD.out
          simp only [rd] at hl
          rw [HTS.out, HY.out, if_pos hge] at hl
          have htx : (tok l kx).text = sgB l kx := by
            rcases HTC.out with e | ⟨e, _⟩
            · exact e
            · exact absurd e hne
          rw [htx, hstop, hstart] at hl
          have HHL := Lib.hid hl
          have hs3 := sg_size l kx
          obtain ⟨p1, hp1⟩ : ∃ p1, skipN l kx = p1 := ⟨_, rfl⟩
          rw [hp1] at HR2 hst hsk HHL
          clear e0 e1 e2 f1
          obtain ⟨e0, e1, e2, _, _⟩ := HR2.out.cells
          have f1 := HR2.out.fr 1
          obtain ⟨s, hs⟩ : ∃ s, sgB l kx = s := ⟨_, rfl⟩
          rw [hs] at hst hs3 HHL ⊢
          clear hl htx hstop hstart hne hp1 hs HTS HQE HTC HTK HLV HLD
          have hnl : ¬ (y : Int) < least := by omega
          have hnd : decide ((y : Int) < least) = false := by simpa using hnl
          have hy0 : ((y : Int) == 0) = false := by simp; omega
          have HR3 : Hid (RaS l bv rb (p1 + s.size) 0 0 (w2'.setCell ⟨rb, 1, none⟩ (.int .i64 ((p1 : Int) + (s.size : Int))))) := Lib.hid (HR2.out.setK (p1 + s.size) (by omega))
          have K3 := Lib.hid (K2.out.next hrw (Ch.set (rb := rb) w2' 1 (.int .i64 ((p1 : Int) + (s.size : Int)))))
          have HIN3 := Lib.hid (HIN2.out.kept (fun k' hk' hs => (Ch.set (rb := rb) w2' 1 (.int .i64 ((p1 : Int) + (s.size : Int)))).2 k' hs (by omega)) left _)
          obtain ⟨r2, hr2⟩ : ∃ r2, rd l gm (.bin (y + 1)) (tok l (p1 + s.size)) = some r2 := by
            cases h' : rd l gm (.bin (y + 1)) (tok l (p1 + s.size)) with
            | none =>
              have := HHL.out
              rw [h'] at this
              cases this
            | some r => exact ⟨r, rfl⟩
          have HR2E := Lib.hid hr2
          have HBN := Lib.hid ((IH.out gm (by omega)).bin (y + 1) (p1 + s.size) r2 (w2'.setCell ⟨rb, 1, none⟩ (.int .i64 ((p1 : Int) + (s.size : Int)))).drew hr2 (by omega) (by omega) ⟨HR3.out.blk, HR3.out.sl, HR3.out.len, HR3.out.hi, HR3.out.ap⟩ hst)
          clear hr2
          go_wp2_with fail
          generalize hW3 : w2'.setCell ⟨rb, 1, none⟩ (.int .i64 ((p1 : Int) + (s.size : Int))) = w3 at *
          clear hW3 e0 e1 e2 f1 K2 HR2 HIN2 hAs
          obtain ⟨⟨k0, k1, k2, k3, k4, k5⟩, _⟩ := six_facts K3.out.blk1
          have H3S := Lib.hid (lt_of_heap K3.out.blk1)
          have hwy : IntKind.i64.wrap ((y : Int) + 1) = ((y + 1 : Nat) : Int) := by rw [IntKind.wrap_i64]; omega
          generalize y + 1 = y1 at *
          have HAG : Hid (A ≠ w.heap.size) := Lib.hid (by omega)
          go_region_with (first | (go_at_call 108; (with_reducible refine HBN.out.mono ?_); rintro e w8 ⟨⟨yb, ob, nb, rfl, hq⟩, hch⟩; have HQ := Lib.hid hq; have K8 := Lib.hid (K3.out.drew.next hrw hch); have HC8 := Lib.hid hch; clear hq hch; obtain ⟨⟨x0, x1, x2, x3, x4, x5⟩, _⟩ := six_facts K8.out.blk1; have K9 := Lib.hid (K8.out.add hrw (.cells #[.string left.op, .int .i64 left.val, .string left.nm, .int .i64 left.pos, .int .i64 left.apos, .slice oa na na, .string yb.op, .int .i64 yb.val, .string yb.nm, .int .i64 yb.pos, .int .i64 yb.apos, .slice ob nb nb] 30)); obtain ⟨⟨z0, z1, z2, z3, z4, z5⟩, g0, g1, g2, g3, g4, g5⟩ := six_facts K9.out.blk2))
          all_goals
            have HPQ := Lib.hid (K9.out.putA2 HAG.out hrw (.string s) (.int .i64 0) (.string ⟨#[]⟩) (.int .i64 p1) (.int .i64 0) (.slice (some ⟨w8.heap.size, 0, none⟩) 2 2))
            obtain ⟨V, hV⟩ : ∃ V : World, V = putA (w8.alloc (.cells #[.string left.op, .int .i64 left.val, .string left.nm, .int .i64 left.pos, .int .i64 left.apos, .slice oa na na, .string yb.op, .int .i64 yb.val, .string yb.nm, .int .i64 yb.pos, .int .i64 yb.apos, .slice ob nb nb] 30)) A (.string s) (.int .i64 0) (.string ⟨#[]⟩) (.int .i64 p1) (.int .i64 0) (.slice (some ⟨w8.heap.size, 0, none⟩) 2 2) := ⟨_, rfl⟩
            have HVO : Hid (∀ k', k' ≠ A → k' < w8.heap.size → V.heap[k']? = w8.heap[k']?) := Lib.hid fun k' h1 h2 => by rw [hV]; exact (putA_other _ _ _ _ _ _ _ _ _ h1).trans (alloc_at_old _ _ _ h2)
            have h3s := H3S.out
            have h8s := lt_of_heap K8.out.blk1
            have h9s := HC8.out.1.size
            have hdr : w3.drew.heap.size = w3.heap.size := rfl
            have HVK : Hid (V.heap[w8.heap.size]? = some (.cells #[.string left.op, .int .i64 left.val, .string left.nm, .int .i64 left.pos, .int .i64 left.apos, .slice oa na na, .string yb.op, .int .i64 yb.val, .string yb.nm, .int .i64 yb.pos, .int .i64 yb.apos, .slice ob nb nb] 30)) := Lib.hid (by rw [hV]; exact (putA_other _ _ _ _ _ _ _ _ _ (by omega)).trans (heap_alloc_last w8 _))
            rw [← hV] at HPQ
            have hAg := HAG.out
            have HVL : Hid (left.InP V (fun b => w.heap.size + 1 ≤ b ∧ b ≠ A) (.slice oa na na)) := Lib.hid ((HIN3.out.kept (w' := w8) (fun k' hk' hs => (ch_of_drew HC8.out).2 k' hs (by omega)) left _).kept (fun k' hk' hs => HVO.out _ hk'.2 hs) left _)
            have hV' := hV
            unfold putA at hV'
            rw [← hV']
            clear hV hV' z0 z1 z2 z3 z4 z5 g0 g1 g2 g3 g4 g5 x0 x1 x2 x3 x4 x5 k0 k1 k2 k3 k4 k5
            have hh := HHL.out
            rw [HR2E.out] at hh
            have HN : Hid (RbA l bv rb least n w A res gm V ∨ RbF l bv rb n w A res V) := Lib.hid (by
              cases r2 with
              | ok t nx =>
                obtain ⟨rfl, hi, kx2, hr, hkl, rfl⟩ := HQ.out
                refine Or.inl ⟨by omega, .bin s p1 left yb, kx2, _, 2, hh, HPQ.out, by omega, ?_, ⟨(HVO.out _ (by omega) (by omega)).trans hr.blk, sl_chR HS.out HAP.out HPQ.out.ch, hr.len, hr.hi, hr.ap⟩, hkl⟩
                exact ⟨w8.heap.size, _, _, rfl, ⟨by omega, by omega⟩, HVK.out, HVL.out, (Tr.In.toP (P := fun b => w.heap.size + 1 ≤ b ∧ b ≠ A) (fun k' hk' hk2 => ⟨by omega, by omega⟩) yb _ hi).kept (fun k' hk' hs => HVO.out _ hk'.2 hs) yb _⟩
              | bad c q =>
                obtain ⟨hc, kx2, hr, hkl⟩ := HQ.out
                obtain ⟨c1, rfl⟩ : ∃ c1, c = c1 + 1 := ⟨c - 1, by omega⟩
                exact Or.inr ⟨.bin s p1 left yb, c1, q, kx2, _, 2, (Option.some.inj hh).symm, HPQ.out, by omega, ⟨(HVO.out _ (by omega) (by omega)).trans hr.blk, sl_chR HS.out HAP.out HPQ.out.ch, hr.len, hr.hi, hr.ap⟩, by omega⟩)
            clear hh HPQ HVO HVK HVL HHL HR2E HBN K9 K8 HQ HC8 K3 HR3 HIN3
            go_wp2
            go_roundg gm
            case measure => omega
            case rel => exact HN.out
      · have hyl : (y : Int) < least := by omega
        have hyd : decide ((y : Int) < least) = true := by simpa using hyl
        have hres : res = .ok left (tok l kx) := by
          have hl := HLD.out
          cases gk with
          | zero => simp [rd] at hl
          | succ m =>
            simp only [rd] at hl
            rw [HTS.out, HY.out, if_neg hge] at hl
            simpa using hl.symm
        subst hres
        have HG9 := Lib.hid K2.out.blk2
        obtain ⟨⟨k0, k1, k2, k3, k4, k5⟩, _⟩ := six_facts K2.out.blk1
        have HZQ : Hid (∀ g x, w.heap.size ≤ g → RaS l bv rb (skipN l kx) 0 0 (w2'.setRow g x)) := Lib.hid fun g x hg => HR2.out.rowN HS.out K2.out.ch hrw hg x
        have hwg : ∀ (c : Array Value), left.In (w2'.setRow w.heap.size c) w.heap.size (.slice oa na na) := fun c => Tr.InP.to (fun k' h => by omega) left _ (HIN2.out.kept (fun k' hk' _ => by
          show (w2'.heap.modify w.heap.size _)[k']? = _
          rw [Array.getElem?_modify, if_neg (by omega)]) left _)
        have HWG := Lib.hid hwg
        clear hwg HLD HTS HY HQE HTC hge
        unfold zrO at HG9
        go_wp2_with (first | (refine wpList_store_ar rfl _ _ rfl rfl w.heap.size left.op left.val left.nm left.pos left.apos (.slice oa na na) rfl rfl rfl _ HG9.out rfl ?_) | fail)
        exact bodyPost_ret (results_ar rfl _ _ w.heap.size _ rfl (setRow_self HG9.out _) rfl) rfl ⟨⟨left, oa, na, rfl, rfl, HWG.out _, _, HZQ.out _ _ (Nat.le_refl _), hsk, HTK.out⟩, K2.out.ch.rowNew (Nat.le_refl _) hrw _⟩
    · obtain ⟨y, c, q, kx, oa, na, rfl, hkp, hAl, hr, hkx⟩ := hF
      have HR := Lib.hid hr
      have K2 := Lib.hid hkp
      obtain ⟨e0, e1, e2, _, _⟩ := hr.cells
      have hcn : (((c + 1 : Nat) : Int) == 0) = false := by simp; omega
      have HG9 := Lib.hid K2.out.blk2
      obtain ⟨⟨k0, k1, k2, k3, k4, k5⟩, _⟩ := six_facts K2.out.blk1
      have HZQ : Hid (∀ g x, w.heap.size ≤ g → RaS l bv rb kx (c + 1) q (wr.setRow g x)) := Lib.hid fun g x hg => HR.out.rowN HS.out K2.out.ch hrw hg x
      clear hr hkp
      unfold zrO at HG9
      go_wp2_with (first | (refine wpList_store_ar rfl _ _ rfl rfl w.heap.size y.op y.val y.nm y.pos y.apos (.slice oa na na) rfl rfl rfl _ HG9.out rfl ?_) | fail)
      exact bodyPost_ret (results_ar rfl _ _ w.heap.size _ rfl (setRow_self HG9.out _) rfl) rfl ⟨⟨y, oa, na, rfl, by omega, _, HZQ.out _ _ (Nat.le_refl _), by omega⟩, K2.out.ch.rowNew (Nat.le_refl _) hrw _⟩
end Go.Proofs.YtacfglopionkfaaGreatDoor
