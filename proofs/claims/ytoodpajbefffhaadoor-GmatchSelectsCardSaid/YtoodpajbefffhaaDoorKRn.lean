/- KRn: several texts in one (kmerge.py). -/
import Derived.Test.YtoodpajbefffhaaDoorGmM3
import Derived.Test.YtoodpajbefffhaaDoorKMk
import Derived.Deep.OwnRows
/- The contract of the reference's ends (gen_ren.py). -/
namespace Go.Proofs.YtoodpajbefffhaaDoor
open Go.RowKit

theorem bool_row : (Tryd.prog.info? 4).map (fun i => (i.zero, i.size, i.bytes)) = some (some (.bool false), 1, 1) := by kernel_rfl
/-- Places in memory, a bool for each. -/
def BL (w : World) (b n : Nat) (P : Nat → Bool) : Prop := ∃ cs : Array Value, w.heap[b]? = some (.cells cs 4 (0, 0)) ∧ cs.size = n ∧ ∀ i, i < n → cs[i]? = some (.bool (P i))
theorem BL.cell {w : World} {b n : Nat} {P : Nat → Bool} (h : BL w b n P) {i : Nat} (hi : i < n) : w.cell? ⟨b, i, none⟩ = some (.bool (P i)) := by
  obtain ⟨cs, hb, _, hc⟩ := h
  rw [Lib.cell_of_heap hb]
  exact hc i hi
theorem BL.free {w : World} {b n : Nat} {P : Nat → Bool} (h : BL w b n P) (i : Nat) : w.frozen? ⟨b, i, none⟩ = false := by
  obtain ⟨cs, hb, _⟩ := h
  exact Lib.frozen_of_heap hb i
theorem BL.lt {w : World} {b n : Nat} {P : Nat → Bool} (h : BL w b n P) : b < w.heap.size := by
  obtain ⟨cs, hb, _⟩ := h
  exact lt_blkB hb
theorem BL.kept {w w' : World} {b n : Nat} {P : Nat → Bool} (h : BL w b n P) (hk : w'.heap[b]? = w.heap[b]?) : BL w' b n P := by
  obtain ⟨cs, hb, h1, h2⟩ := h
  exact ⟨cs, hk.trans hb, h1, h2⟩
theorem BL.congr {w : World} {b n : Nat} {P Q : Nat → Bool} (h : BL w b n P) (hq : ∀ i, i < n → P i = Q i) : BL w b n Q := by
  obtain ⟨cs, hb, h1, h2⟩ := h
  exact ⟨cs, hb, h1, fun i hi => by rw [h2 i hi, hq i hi]⟩
theorem BL.on {w : World} {b n : Nat} {P : Nat → Bool} (h : BL w b n P) (k : Nat) (Q : Nat → Bool) (hk : Q k = true) (hq : ∀ i, i < n → i ≠ k → P i = Q i) : BL (w.setCell ⟨b, k, none⟩ (.bool true)) b n Q := by
  obtain ⟨cs, hb, h1, h2⟩ := h
  refine ⟨cs.setIfInBounds k (.bool true), ?_, by simpa using h1, fun i hi => ?_⟩
  · show (w.heap.modify _ _)[b]? = _
    rw [Array.getElem?_modify, if_pos rfl, hb]
    rfl
  · rw [Array.getElem?_setIfInBounds]
    by_cases hik : k = i
    · subst hik
      rw [if_pos rfl, if_pos (by omega), hk]
    · rw [if_neg hik, h2 i hi, hq i hi (fun e => hik e.symm)]
theorem BL.next {w w' : World} {b n : Nat} {P : Nat → Bool} (h : BL w b n P) (hb : Below w.heap.size w w') : BL w' b n P := h.kept (hb.block _ h.lt)
theorem BL.other {w : World} {b n b' k : Nat} {P : Nat → Bool} (h : BL w b n P) (hne : b ≠ b') (y : Value) : BL (w.setCell ⟨b', k, none⟩ y) b n P := h.kept (Below.heap_setCell _ _ _ _ hne)
theorem BL.made (w : World) (n : Nat) : BL (w.alloc (.cells (madeCells #[.bool false] n) 4)) w.heap.size n (fun _ => false) := by
  refine ⟨madeCells #[.bool false] n, alloc_last w _, size_madeCells _ _, fun i hi => ?_⟩
  unfold madeCells
  rw [Array.getElem?_map, Array.getElem?_range, if_pos hi]
  simp [Nat.mod_one]
def isI (i k : Nat) : Bool := k == i
theorem BL.made1 (w : World) (n i : Nat) : BL (w.alloc (.cells ((madeCells #[.bool false] n).setIfInBounds i (.bool true)) 4)) w.heap.size n (isI i) := by
  obtain ⟨cs, hb, h1, h2⟩ := BL.made w n
  have e := (alloc_last w (.cells (madeCells #[.bool false] n) 4)).symm.trans hb
  simp only [Option.some.injEq, Obj.cells.injEq] at e
  have e1 := e.1
  refine ⟨(madeCells #[.bool false] n).setIfInBounds i (.bool true), alloc_last w _, by simp [size_madeCells], fun j hj => ?_⟩
  rw [Array.getElem?_setIfInBounds]
  unfold isI
  by_cases hij : i = j
  · subst hij
    rw [if_pos rfl, if_pos (by rw [size_madeCells]; exact hj)]
    simp
  · rw [if_neg hij, e1, h2 j hj, show (j == i) = false by simp; omega]
def uptoN (z k : Nat) : Bool := decide (k ≤ z)
/-- What lies while the reference goes through the pieces. -/
structure RE (s : List Int) (ps : List Pc) (w0 : World) (n i k b : Nat) (P : Nat → Bool) (X : World) : Prop where
  bel : Below w0.heap.size w0 X
  ge : w0.heap.size ≤ b
  bl : BL X b n P
  fit : Fits s P
  eq : endsP s (ps.drop k) P = endsP s ps (isI i)
/-- And through the places. -/
structure RI (s : List Int) (x : Pc) (w0 : World) (n b b2 bx : Nat) (P Q : Nat → Bool) (X : World) : Prop where
  bel : Below w0.heap.size w0 X
  bl : BL X b n P
  b2 : BL X b2 n Q
  box : X.heap[bx]? = some (.cells #[.int .i64 x.kind, .int .u64 (sw x.set 0 : Nat), .int .u64 (sw x.set 1 : Nat), .int .u64 (sw x.set 2 : Nat), .int .u64 (sw x.set 3 : Nat)] 41 (0, 0))
theorem RI.nxt {s : List Int} {x : Pc} {w0 : World} {n b b2 bx : Nat} {P Q : Nat → Bool} {X X' : World} (h : RI s x w0 n b b2 bx P Q X) (hb : Below X.heap.size X X') : RI s x w0 n b b2 bx P Q X' :=
  ⟨below_thn h.bel (Nat.le_refl _) hb, h.bl.next hb, h.b2.next hb, blk_below h.box hb⟩
theorem RI.put {s : List Int} {x : Pc} {w0 : World} {n b b2 bx : Nat} {P Q : Nat → Bool} {X : World} (h : RI s x w0 n b b2 bx P Q X) (h12 : b ≠ b2) (hg : w0.heap.size ≤ b2) (k : Nat) (Q' : Nat → Bool) (hk : Q' k = true) (hq : ∀ i, i < n → i ≠ k → Q i = Q' i) :
    RI s x w0 n b b2 bx P Q' (X.setCell ⟨b2, k, none⟩ (.bool true)) := by
  have h3 : bx ≠ b2 := fun e => by obtain ⟨cs, hb, _⟩ := h.b2; rw [← e, h.box] at hb; simp at hb
  exact ⟨h.bel.setCell hg _, h.bl.other h12 _, h.b2.on k Q' hk hq, (Below.heap_setCell _ _ _ _ h3).trans h.box⟩

set_option maxRecDepth 100000 in
set_option maxHeartbeats 16000000 in
theorem rends_any (s : List Int) (ps : List Pc) (sv v : Value) (i B : Nat) (w : World) (hs : Sl w sv s) (hi : i ≤ s.length) (hlen : s.length ≤ 1099511627776) (hrow : w.ownsRow B 41 5 v ps.length (cellsL ps)) (hl : ps.length ≤ 1048576) :
    Calls Tryd.prog 37 #[v, sv, .int .i64 i] w fun e w' => ∃ b, e = .returned (.slice (some ⟨b, 0, none⟩) (s.length + 1) (s.length + 1)) ∧ BL w' b (s.length + 1) (endsP s ps (isI i)) ∧ Below w.heap.size w w' := by
  obtain ⟨i1, ki, kz0, kz1, kz2⟩ := info_parts bool_row
  obtain ⟨n, hn⟩ : ∃ n, n = s.length + 1 := ⟨_, rfl⟩
  obtain ⟨len, hle⟩ : ∃ l, l = s.length := ⟨_, rfl⟩
  obtain ⟨sa, sc, hsv⟩ : ∃ a c, sv = .slice a len c := by
    rw [hle]
    rcases hs.2.2 with ⟨rfl, a, cap, rfl⟩ | ⟨x, o, cap, rfl, _⟩
    · exact ⟨a, cap, rfl⟩
    · exact ⟨_, cap, rfl⟩
  subst hsv
  obtain ⟨pa, pc, hpv⟩ := own_shp hrow
  obtain ⟨m, hm⟩ : ∃ m, m = ps.length := ⟨_, rfl⟩
  rw [← hm] at hpv hl
  subst hpv
  have hSR : ∀ k, k < s.length → ∃ vb vo, sa = some ⟨vb, vo, none⟩ ∧ w.cell? ⟨vb, vo + k, none⟩ = some (.int .u8 (s.getD k 0)) := fun k hk => by
    rcases hs.2.2 with ⟨rfl, _⟩ | ⟨x, o, cap, e, _, _, hr⟩
    · simp at hk
    · simp only [Value.slice.injEq] at e
      exact ⟨x, o, e.1, hr k hk⟩
  have HSR := Lib.hid hSR
  have HBY := Lib.hid hs.1
  have hnI : (len : Int) + 1 = (n : Int) := by omega
  have hnb : n ≤ 1099511627777 := by omega
  have hnl : n = len + 1 := by omega
  have HNL := Lib.hid hnl
  have hin : i < n := by omega
  rw [← hn]
  have HLE := Lib.hid hle
  have HM := Lib.hid hm
  have HROW := Lib.hid hrow
  have HI : Hid (i ≤ s.length) := Lib.hid hi
  clear hn hle hm hs hrow hSR hi hnl
  have HP0 : Hid (BL (w.alloc (.cells (madeCells #[.bool false] n) 4)) w.heap.size n (fun _ => false)) := Lib.hid (BL.made w n)
  have HR0 : Hid (RE s ps w n i 0 w.heap.size (isI i) (w.alloc (.cells ((madeCells #[.bool false] n).setIfInBounds i (.bool true)) 4))) := Lib.hid ⟨(Below.refl _ _).alloc (Nat.le_refl _) _, Nat.le_refl _, BL.made1 w n i, fun j hj => by simp only [isI, beq_iff_eq] at hj; rw [hj]; exact HI.out, rfl⟩
  have d0 := HP0.out.cell hin
  have d1 := HP0.out.free i
  have d2 := HP0.out.lt
  go_enter Tryd.func37, Tryd.ntmps37
  go_wp2_with (at_make; refine wpList_make_row _ rfl _ _ 74 rfl 4 i1 (.bool false) Tryd.underlying74 ki kz0 kz1 rfl _ _ n rfl rfl (by rw [kz2]; omega) (by omega) ?_)
  clear d0 d1 d2
  go_loopw [7, 23] (fun sl ix X => ∃ (k b : Nat) (P : Nat → Bool), sl = .slice (some ⟨b, 0, none⟩) n n ∧ ix = .int .i64 (k : Nat) ∧ k ≤ m ∧ Hid (RE s ps w n i k b P X)) (fun _ ix _ => m - (intOf ix).toNat)
  case atStart => exact ⟨0, w.heap.size, isI i, rfl, rfl, Nat.zero_le _, HR0⟩
  case round =>
    obtain ⟨k, b, P, rfl, rfl, hk, HR⟩ := hrel
    obtain ⟨wo, rfl⟩ : ∃ wo : World, wo = wr := ⟨_, rfl⟩
    by_cases hlt : k < m
    · have hltL : k < ps.length := by rw [← HM.out]; exact hlt
      obtain ⟨x, hx⟩ : ∃ x, ps[k]? = some x := ⟨ps[k], List.getElem?_eq_getElem hltL⟩
      have hro := HROW.out
      rw [← HM.out] at hro
      obtain ⟨g, hg⟩ : ∃ g, pa = some ⟨g, 0, none⟩ := by
        rcases hro.2 with ⟨_, h0⟩ | ⟨g, cap', cur, e, _⟩
        · omega
        · simp only [Value.slice.injEq] at e
          exact ⟨g, e.1⟩
      subst hg
      have hro2 := own_drop hro HR.out.bel
      have p0 := piece_at hro2 hx 0 (by decide) _ rfl
      have p1 := piece_at hro2 hx 1 (by decide) _ rfl
      have p2 := piece_at hro2 hx 2 (by decide) _ rfl
      have p3 := piece_at hro2 hx 3 (by decide) _ rfl
      have p4 := piece_at hro2 hx 4 (by decide) _ rfl
      rw [Nat.add_zero] at p0
      have hkI : (k : Int) < (m : Int) := by omega
      have HXX := Lib.hid hx
      clear hro hro2 hx
      obtain ⟨W, hW⟩ : ∃ W, W = (wo.alloc (.cells #[.int .i64 x.kind, .int .u64 (sw x.set 0 : Nat), .int .u64 (sw x.set 1 : Nat), .int .u64 (sw x.set 2 : Nat), .int .u64 (sw x.set 3 : Nat)] 41)).alloc (.cells (madeCells #[.bool false] n) 4) := ⟨_, rfl⟩
      have HRI : Hid (RI s x w n b (wo.heap.size + 1) wo.heap.size P (fun _ => false) W) := Lib.hid (by
        have h2 := BL.made (wo.alloc (.cells #[.int .i64 x.kind, .int .u64 (sw x.set 0 : Nat), .int .u64 (sw x.set 1 : Nat), .int .u64 (sw x.set 2 : Nat), .int .u64 (sw x.set 3 : Nat)] 41)) n
        rw [World.size_alloc] at h2
        rw [hW]
        refine ⟨(HR.out.bel.alloc HR.out.bel.size _).alloc (by have := HR.out.bel.size; simp; omega) _, (HR.out.bl.next ((Below.refl _ _).alloc (Nat.le_refl _) _)).next ((Below.refl _ _).alloc (Nat.le_refl _) _), h2, blk_alloc (alloc_last wo _) _⟩)
      have h12 : b ≠ wo.heap.size + 1 := by have := HR.out.bl.lt; omega
      have hg2 : w.heap.size ≤ wo.heap.size + 1 := by have := HR.out.bel.size; omega
      go_wp2_with (at_make; refine wpList_make_row _ rfl _ _ 74 rfl 4 i1 (.bool false) Tryd.underlying74 ki kz0 kz1 rfl _ _ n rfl rfl (by rw [kz2]; omega) (by omega) ?_)
      rw [← hW]
      clear hW p0 p1 p2 p3 p4
      obtain ⟨bx, hbx⟩ : ∃ bx, bx = wo.heap.size := ⟨_, rfl⟩
      rw [← hbx] at HRI h12 hg2 ⊢
      clear hbx
      by_cases hmany : x = .many
      · have hk3 : (x.kind == 3) = true := by rw [hmany]; rfl
        have HXM := Lib.hid hmany
        clear hmany
        go_loopw [33] (fun j X => ∃ q : Nat, j = .int .i64 (q : Nat) ∧ q ≤ n ∧ Hid (RI s x w n b (bx + 1) bx P (fun _ => false) X) ∧ Hid (∀ j, j < q → P j = false)) (fun j _ => n - (intOf j).toNat)
        case atStart => exact ⟨0, rfl, Nat.zero_le _, HRI, Lib.hid (fun j hj => absurd hj (by omega))⟩
        case round =>
          obtain ⟨q, rfl, hq, HQ, HNO⟩ := hrel
          obtain ⟨wi, rfl⟩ : ∃ wi : World, wi = wr := ⟨_, rfl⟩
          by_cases hqn : q < n
          · have cq := HQ.out.bl.cell hqn
            have cz := HQ.out.bl.lt
            have hqI : (q : Int) < (n : Int) := by omega
            cases hpq : P q with
            | false =>
              rw [hpq] at cq
              have HNO2 : Hid (∀ j, j < q + 1 → P j = false) := Lib.hid fun j hj => by
                by_cases hj2 : j = q
                · rw [hj2]; exact hpq
                · exact HNO.out j (by omega)
              clear hpq
              go_wp2_with fail
              go_roundw
              case rel => exact ⟨q + 1, by go_num, by omega, HQ, HNO2⟩
              case measure => simp [intOf]; omega
            | true =>
              rw [hpq] at cq
              have HPQ := Lib.hid hpq
              have hql : q ≤ len := by have := HNL.out; omega
              clear hpq
              obtain ⟨y0, _, _, _, _⟩ := cells5 HQ.out.box
              have yz := lt_blkB HQ.out.box
              have HQ0 : Hid (RI s x w n b (bx + 1) bx P (fun j => decide (q ≤ j) && decide (j < q)) wi) := Lib.hid ⟨HQ.out.bel, HQ.out.bl, HQ.out.b2.congr (fun j _ => by rw [Bool.eq_iff_iff]; simp), HQ.out.box⟩
              go_wp2_with fail
              clear cq cz y0 yz
              go_loopw [13] (fun j X => ∃ r : Nat, j = .int .i64 (r : Nat) ∧ q ≤ r ∧ r ≤ n ∧ Hid (RI s x w n b (bx + 1) bx P (fun j => decide (q ≤ j) && decide (j < r)) X)) (fun j _ => n - (intOf j).toNat)
              case atStart => exact ⟨q, rfl, Nat.le_refl _, by omega, HQ0⟩
              case round =>
                obtain ⟨r, rfl, hqr, hrn, HJ⟩ := hrel
                by_cases hrl : r ≤ len
                · have hrlN : ¬ len < r := by omega
                  have hrn2 : r < n := by have := HNL.out; omega
                  have e0 := HJ.out.b2.cell hrn2
                  have e1 := HJ.out.b2.free r
                  have e2 := HJ.out.b2.lt
                  have HJ2 : Hid (RI s x w n b (bx + 1) bx P (fun j => decide (q ≤ j) && decide (j < r + 1)) (wr.setCell ⟨bx + 1, r, none⟩ (.bool true))) := Lib.hid (HJ.out.put h12 hg2 r _ (by simp; omega) (fun j _ hj => by rw [Bool.eq_iff_iff]; simp; omega))
                  go_wp2_with fail
                  go_roundw
                  case rel => exact ⟨r + 1, by go_num, by omega, by omega, HJ2⟩
                  case measure => simp [intOf]; omega
                · have hrlN : len < r := by omega
                  have hrn3 : r = n := by have := HNL.out; omega
                  have HBL2 : Hid (BL wr (bx + 1) n (stp s x P)) := Lib.hid (HJ.out.b2.congr (fun j hj => by
                    rw [HXM.out, ← betw_many HPQ.out HNO.out]
                    unfold betw
                    have h1 := HNL.out
                    have h2 := HLE.out
                    rw [Bool.eq_iff_iff]; simp; omega))
                  have HRN : Hid (RE s ps w n i (k + 1) (bx + 1) (stp s x P) wr) := Lib.hid ⟨HJ.out.bel, hg2, HBL2.out, stp_fits s x P, by
                    have h1 := HR.out.eq
                    rw [drop_at HXX.out] at h1
                    exact h1⟩
                  clear hrn3
                  go_wp2_with fail
                  go_roundw
                  case rel => exact ⟨k + 1, bx + 1, stp s x P, rfl, by go_num, by omega, HRN⟩
                  case measure => simp [intOf]; omega
          · have hqe : q = n := by omega
            have hnqI : ¬ (q : Int) < (n : Int) := by omega
            have hall : ∀ j, P j = false := fun j => by
              cases hp : P j
              · rfl
              · have h1 := HR.out.fit j hp
                have h2 := HNL.out
                have h3 := HLE.out
                rw [HNO.out j (by omega)] at hp; cases hp
            have HBL2 : Hid (BL wi (bx + 1) n (stp s x P)) := Lib.hid (HQ.out.b2.congr (fun j _ => (stp_none s x P hall j).symm))
            have HRN : Hid (RE s ps w n i (k + 1) (bx + 1) (stp s x P) wi) := Lib.hid ⟨HQ.out.bel, hg2, HBL2.out, stp_fits s x P, by
              have h1 := HR.out.eq
              rw [drop_at HXX.out] at h1
              exact h1⟩
            clear hqe hall
            go_wp2_with fail
            go_roundw
            case rel => exact ⟨k + 1, bx + 1, stp s x P, rfl, by go_num, by omega, HRN⟩
            case measure => simp [intOf]; omega
      · have hk3 : (x.kind == 3) = false := by cases x <;> first | exact absurd rfl hmany | rfl
        have HXM := Lib.hid hmany
        clear hmany
        have HRI0 : Hid (RI s x w n b (bx + 1) bx P (andP (stp s x P) (uptoN 0)) W) := Lib.hid ⟨HRI.out.bel, HRI.out.bl, HRI.out.b2.congr (fun j _ => by
          unfold andP uptoN
          cases hs : stp s x P j
          · rfl
          · have := (stp_pred HXM.out hs).1
            rw [decide_eq_false (by omega : ¬ j ≤ 0)]; rfl), HRI.out.box⟩
        clear HRI
        go_loopw [33] (fun j X => ∃ q : Nat, j = .int .i64 (q : Nat) ∧ q ≤ n ∧ Hid (RI s x w n b (bx + 1) bx P (andP (stp s x P) (uptoN q)) X)) (fun j _ => n - (intOf j).toNat)
        case atStart => exact ⟨0, rfl, Nat.zero_le _, HRI0⟩
        case round =>
          obtain ⟨q, rfl, hq, HQ⟩ := hrel
          by_cases hqn : q < n
          · have cq := HQ.out.bl.cell hqn
            have cz := HQ.out.bl.lt
            have hqI : (q : Int) < (n : Int) := by omega
            obtain ⟨y0, _, _, _, _⟩ := cells5 HQ.out.box
            have yz := lt_blkB HQ.out.box
            cases hpq : P q with
            | false =>
              rw [hpq] at cq
              have HSY : Hid (stp s x P (q + 1) = false) := Lib.hid (by
                cases hs : stp s x P (q + 1)
                · rfl
                · have := (stp_pred HXM.out hs).2.2
                  rw [show q + 1 - 1 = q by omega, hpq] at this; cases this)
              clear hpq
              have HQ5 : Hid (RI s x w n b (bx + 1) bx P (andP (stp s x P) (uptoN (q + 1))) wr) := Lib.hid ⟨HQ.out.bel, HQ.out.bl, HQ.out.b2.congr (fun j _ => by
                unfold andP uptoN
                by_cases hj : j = q + 1
                · rw [hj, HSY.out]; rfl
                · congr 1
                  rw [Bool.eq_iff_iff]; simp; omega), HQ.out.box⟩
              go_wp2_with fail
              go_roundw
              case rel => exact ⟨q + 1, by go_num, by omega, HQ5⟩
              case measure => simp [intOf]; omega
            | true =>
              rw [hpq] at cq
              have HPQ := Lib.hid hpq
              clear hpq
              by_cases hql : q = len
              · have HSY : Hid (stp s x P (q + 1) = false) := Lib.hid (by
                  cases hs : stp s x P (q + 1)
                  · rfl
                  · have h1 := (stp_pred HXM.out hs).2.1
                    have h2 := HLE.out
                    omega)
                have hqd : decide (q < len) = false := by simp; omega
                have hqdI : decide ((q : Int) < (len : Int)) = false := by simp; omega
                clear hql
                go_wp2_with fail
                refine Reg.wp_region_vals (fun X => RI s x w n b (bx + 1) bx P (andP (stp s x P) (uptoN q)) X) (fun j => ([some (.int .i64 (q : Nat)), some (.slice sa len sc), some (.int .i64 (len : Nat)), some (.bool false), some (.bool false), some undef, some undef, some undef, some undef, some undef, some undef, some undef, some undef, some undef, some undef, some undef, some undef, some (.bool false)] : List (Option Value)).getD j none) (fun _ _ _ => True) (by kernel_rfl) (by kernel_rfl) (by kernel_rfl) (by kernel_rfl) ?rs0 ?rsE ?rsZ
                case rs0 => exact HQ.out.nxt (Below.refl _ _).drew
                case rsE =>
                  refine Reg.EachV.plain rfl (fun T X hS hk K hK => ?_) ?_
                  · skip
                    have g11 : T[11]? = some (.int .i64 (q : Nat)) := hk.old 11 (by kernel_rfl) rfl
                    have hK := hK _ X hS (Reg.Is.of_val rfl) (fun _ _ _ h => h)
                    clear hk
                    go_simp
                    exact hK
                  refine Reg.EachV.plain rfl (fun T X hS hk K hK => ?_) ?_
                  · skip
                    have g1 : T[1]? = some (.slice sa len sc) := hk.old 1 (by kernel_rfl) rfl
                    have hK := hK _ X hS (Reg.Is.of_val rfl) (fun _ _ _ h => h)
                    clear hk
                    go_simp
                    exact hK
                  refine Reg.EachV.plain rfl (fun T X hS hk K hK => ?_) ?_
                  · skip
                    have g54 : T[54]? = some (.slice sa len sc) := hk.val 1 54 (by kernel_rfl) (by kernel_rfl) rfl
                    have hK := hK _ X hS (Reg.Is.of_val rfl) (fun _ _ _ h => h)
                    clear hk
                    go_simp
                    exact hK
                  refine Reg.EachV.plain rfl (fun T X hS hk K hK => ?_) ?_
                  · skip
                    have g53 : T[53]? = some (.int .i64 (q : Nat)) := hk.val 0 53 (by kernel_rfl) (by kernel_rfl) rfl
                    have g55 : T[55]? = some (.int .i64 (len : Nat)) := hk.val 2 55 (by kernel_rfl) (by kernel_rfl) rfl
                    have hK := hK _ X hS (Reg.Is.of_val rfl) (fun _ _ _ h => h)
                    clear hk
                    go_simp
                    exact hK
                  refine Reg.EachV.plain rfl (fun T X hS hk K hK => ?_) ?_
                  · skip
                    have g56 : T[56]? = some (.bool false) := hk.val 3 56 (by kernel_rfl) (by kernel_rfl) rfl
                    have hK := hK _ X hS (Reg.Is.of_val rfl) (fun _ _ _ h => h)
                    clear hk
                    go_simp
                    exact hK
                  refine Reg.EachV.passed 4 57 false rfl (by kernel_rfl) (by kernel_rfl) rfl rfl ?_
                  refine Reg.EachV.passed 4 57 false rfl (by kernel_rfl) (by kernel_rfl) rfl rfl ?_
                  refine Reg.EachV.passed 4 57 false rfl (by kernel_rfl) (by kernel_rfl) rfl rfl ?_
                  refine Reg.EachV.passed 4 57 false rfl (by kernel_rfl) (by kernel_rfl) rfl rfl ?_
                  refine Reg.EachV.passedU 8 61 false rfl (by kernel_rfl) (by kernel_rfl) rfl rfl ?_
                  refine Reg.EachV.passedU 8 61 false rfl (by kernel_rfl) (by kernel_rfl) rfl rfl ?_
                  refine Reg.EachV.passedU 8 61 false rfl (by kernel_rfl) (by kernel_rfl) rfl rfl ?_
                  refine Reg.EachV.passedU 8 61 false rfl (by kernel_rfl) (by kernel_rfl) rfl rfl ?_
                  refine Reg.EachV.passedU 8 61 false rfl (by kernel_rfl) (by kernel_rfl) rfl rfl ?_
                  refine Reg.EachV.passedU 8 61 false rfl (by kernel_rfl) (by kernel_rfl) rfl rfl ?_
                  refine Reg.EachV.passedU 8 61 false rfl (by kernel_rfl) (by kernel_rfl) rfl rfl ?_
                  refine Reg.EachV.passed 4 57 false rfl (by kernel_rfl) (by kernel_rfl) rfl rfl ?_
                  refine Reg.EachV.plain rfl (fun T X hS hk K hK => ?_) ?_
                  · skip
                    have g57 : T[57]? = some (.bool false) := hk.val 4 57 (by kernel_rfl) (by kernel_rfl) rfl
                    have g69 : T[69]? = some (undef) := hk.val 16 69 (by kernel_rfl) (by kernel_rfl) rfl
                    have hK := hK _ X hS (Reg.Is.of_val rfl) (fun _ _ _ h => h)
                    clear hk
                    go_simp
                    exact hK
                  exact Reg.EachV.nil
                case rsZ =>
                  intro u w4 hS hI
                  have e0 : u 0 = .int .i64 (q : Nat) := (hI 0 (by decide)).val rfl
                  have e1 : u 1 = .slice sa len sc := (hI 1 (by decide)).val rfl
                  have e2 : u 2 = .int .i64 (len : Nat) := (hI 2 (by decide)).val rfl
                  have e3 : u 3 = .bool false := (hI 3 (by decide)).val rfl
                  have e4 : u 4 = .bool false := (hI 4 (by decide)).val rfl
                  have e5 : u 5 = undef := (hI 5 (by decide)).val rfl
                  have e6 : u 6 = undef := (hI 6 (by decide)).val rfl
                  have e7 : u 7 = undef := (hI 7 (by decide)).val rfl
                  have e8 : u 8 = undef := (hI 8 (by decide)).val rfl
                  have e9 : u 9 = undef := (hI 9 (by decide)).val rfl
                  have e10 : u 10 = undef := (hI 10 (by decide)).val rfl
                  have e11 : u 11 = undef := (hI 11 (by decide)).val rfl
                  have e12 : u 12 = undef := (hI 12 (by decide)).val rfl
                  have e13 : u 13 = undef := (hI 13 (by decide)).val rfl
                  have e14 : u 14 = undef := (hI 14 (by decide)).val rfl
                  have e15 : u 15 = undef := (hI 15 (by decide)).val rfl
                  have e16 : u 16 = undef := (hI 16 (by decide)).val rfl
                  have e17 : u 17 = .bool false := (hI 17 (by decide)).val rfl
                  clear hI
                  simp only [Reg.putAll, Act.put, List.setIfInBounds_toArray, List.set_cons_succ, List.set_cons_zero, Nat.zero_add, Nat.reduceAdd, e0, e1, e2, e3, e4, e5, e6, e7, e8, e9, e10, e11, e12, e13, e14, e15, e16, e17]
                  clear e0 e1 e2 e3 e4 e5 e6 e7 e8 e9 e10 e11 e12 e13 e14 e15 e16 e17
                  have HQ4 := Lib.hid hS
                  clear hS
                  have HQ5 : Hid (RI s x w n b (bx + 1) bx P (andP (stp s x P) (uptoN (q + 1))) w4) := Lib.hid ⟨HQ4.out.bel, HQ4.out.bl, HQ4.out.b2.congr (fun j _ => by
                    unfold andP uptoN
                    by_cases hj : j = q + 1
                    · rw [hj, HSY.out]; rfl
                    · congr 1
                      rw [Bool.eq_iff_iff]; simp; omega), HQ4.out.box⟩
                  go_wp2_with fail
                  go_roundw
                  case rel => exact ⟨q + 1, by go_num, by omega, HQ5⟩
                  case measure => simp [intOf]; omega
              · have hqlt : q < len := by have := HNL.out; omega
                have hqd : decide (q < len) = true := by simpa using hqlt
                have hqdI : decide ((q : Int) < (len : Int)) = true := by simp; omega
                have hqltI : (q : Int) < (len : Int) := by omega
                have hq1n : q + 1 < n := by have := HNL.out; omega
                clear hql
                have hcase : x = .one ∨ ∃ p, x = .byt p := by
                  cases hc : x with
                  | many => exact absurd hc HXM.out
                  | one => exact Or.inl rfl
                  | byt p => exact Or.inr ⟨p, rfl⟩
                rcases hcase with hxc | ⟨p, hxc⟩
                · skip
                  have HK2 : Hid (x.kind = 2) := Lib.hid (by rw [hxc]; rfl)
                  have HSY : Hid (stp s x P (q + 1) = true) := Lib.hid (by
                    rw [hxc]
                    show (decide (0 < q + 1) && (decide (q + 1 ≤ s.length) && P (q + 1 - 1))) = _
                    rw [show q + 1 - 1 = q by omega, HPQ.out, decide_eq_true (by omega : 0 < q + 1), decide_eq_true (by rw [← HLE.out]; omega : q + 1 ≤ s.length)]; rfl)
                  clear hxc
                  go_wp2_with fail
                  refine Reg.wp_region_vals (fun X => RI s x w n b (bx + 1) bx P (andP (stp s x P) (uptoN q)) X) (fun j => ([some (.int .i64 (q : Nat)), some (.slice sa len sc), some (.int .i64 (len : Nat)), some (.bool true), some (.bool true), some (.pointer (some ⟨bx, 0, none⟩)), some (.int .i64 x.kind), some (.bool true), some (.bool true), some undef, some undef, some undef, some undef, some undef, some undef, some undef, some (.bool true), some (.bool true)] : List (Option Value)).getD j none) (fun _ _ _ => True) (by kernel_rfl) (by kernel_rfl) (by kernel_rfl) (by kernel_rfl) ?rs0 ?rsE ?rsZ
                  case rs0 => exact HQ.out.nxt (Below.refl _ _).drew
                  case rsE =>
                    refine Reg.EachV.plain rfl (fun T X hS hk K hK => ?_) ?_
                    · skip
                      have g11 : T[11]? = some (.int .i64 (q : Nat)) := hk.old 11 (by kernel_rfl) rfl
                      have hK := hK _ X hS (Reg.Is.of_val rfl) (fun _ _ _ h => h)
                      clear hk
                      go_simp
                      exact hK
                    refine Reg.EachV.plain rfl (fun T X hS hk K hK => ?_) ?_
                    · skip
                      have g1 : T[1]? = some (.slice sa len sc) := hk.old 1 (by kernel_rfl) rfl
                      have hK := hK _ X hS (Reg.Is.of_val rfl) (fun _ _ _ h => h)
                      clear hk
                      go_simp
                      exact hK
                    refine Reg.EachV.plain rfl (fun T X hS hk K hK => ?_) ?_
                    · skip
                      have g54 : T[54]? = some (.slice sa len sc) := hk.val 1 54 (by kernel_rfl) (by kernel_rfl) rfl
                      have hK := hK _ X hS (Reg.Is.of_val rfl) (fun _ _ _ h => h)
                      clear hk
                      go_simp
                      exact hK
                    refine Reg.EachV.plain rfl (fun T X hS hk K hK => ?_) ?_
                    · skip
                      have g53 : T[53]? = some (.int .i64 (q : Nat)) := hk.val 0 53 (by kernel_rfl) (by kernel_rfl) rfl
                      have g55 : T[55]? = some (.int .i64 (len : Nat)) := hk.val 2 55 (by kernel_rfl) (by kernel_rfl) rfl
                      have hK := hK _ X hS (Reg.Is.of_val rfl) (fun _ _ _ h => h)
                      clear hk
                      go_simp
                      exact hK
                    refine Reg.EachV.plain rfl (fun T X hS hk K hK => ?_) ?_
                    · skip
                      have g56 : T[56]? = some (.bool true) := hk.val 3 56 (by kernel_rfl) (by kernel_rfl) rfl
                      have hK := hK _ X hS (Reg.Is.of_val rfl) (fun _ _ _ h => h)
                      clear hk
                      go_simp
                      exact hK
                    refine Reg.EachV.guarded 4 57 true rfl (by kernel_rfl) (by kernel_rfl) rfl (fun T X hS hk K hK => ?_) ?_
                    · skip
                      have g9 : T[9]? = some (.pointer (some ⟨bx, 0, none⟩)) := hk.old 9 (by kernel_rfl) rfl
                      have hK := hK _ X hS (Reg.Is.of_val rfl) (fun _ _ _ h => h)
                      clear hk
                      go_simp
                      exact hK
                    refine Reg.EachV.guarded 4 57 true rfl (by kernel_rfl) (by kernel_rfl) rfl (fun T X hS hk K hK => ?_) ?_
                    · skip
                      have g58 : T[58]? = some (.pointer (some ⟨bx, 0, none⟩)) := hk.val 5 58 (by kernel_rfl) (by kernel_rfl) rfl
                      have hbx5 := cells5 (show X.heap[bx]? = some (.cells #[.int .i64 x.kind, .int .u64 (sw x.set 0 : Nat), .int .u64 (sw x.set 1 : Nat), .int .u64 (sw x.set 2 : Nat), .int .u64 (sw x.set 3 : Nat)] 41 (0, 0)) from hS.box)
                      obtain ⟨x0c, x1c, x2c, x3c, x4c⟩ := hbx5
                      have hbz5 := lt_blkB hS.box
                      have hK := hK _ X hS (Reg.Is.of_val rfl) (fun _ _ _ h => h)
                      clear hk
                      go_simp
                      exact hK
                    refine Reg.EachV.guarded 4 57 true rfl (by kernel_rfl) (by kernel_rfl) rfl (fun T X hS hk K hK => ?_) ?_
                    · skip
                      have g59 : T[59]? = some (.int .i64 x.kind) := hk.val 6 59 (by kernel_rfl) (by kernel_rfl) rfl
                      have hk22 : (x.kind == 2) = true := by rw [HK2.out]; rfl
                      have hK := hK _ X hS (Reg.Is.of_val rfl) (fun _ _ _ h => h)
                      clear hk
                      go_simp
                      exact hK
                    refine Reg.EachV.guarded 4 57 true rfl (by kernel_rfl) (by kernel_rfl) rfl (fun T X hS hk K hK => ?_) ?_
                    · skip
                      have g60 : T[60]? = some (.bool true) := hk.val 7 60 (by kernel_rfl) (by kernel_rfl) rfl
                      have hK := hK _ X hS (Reg.Is.of_val rfl) (fun _ _ _ h => h)
                      clear hk
                      go_simp
                      exact hK
                    refine Reg.EachV.passed 8 61 true rfl (by kernel_rfl) (by kernel_rfl) rfl rfl ?_
                    refine Reg.EachV.passed 8 61 true rfl (by kernel_rfl) (by kernel_rfl) rfl rfl ?_
                    refine Reg.EachV.passed 8 61 true rfl (by kernel_rfl) (by kernel_rfl) rfl rfl ?_
                    refine Reg.EachV.passed 8 61 true rfl (by kernel_rfl) (by kernel_rfl) rfl rfl ?_
                    refine Reg.EachV.passed 8 61 true rfl (by kernel_rfl) (by kernel_rfl) rfl rfl ?_
                    refine Reg.EachV.passed 8 61 true rfl (by kernel_rfl) (by kernel_rfl) rfl rfl ?_
                    refine Reg.EachV.passed 8 61 true rfl (by kernel_rfl) (by kernel_rfl) rfl rfl ?_
                    refine Reg.EachV.guarded 4 57 true rfl (by kernel_rfl) (by kernel_rfl) rfl (fun T X hS hk K hK => ?_) ?_
                    · skip
                      have g61 : T[61]? = some (.bool true) := hk.val 8 61 (by kernel_rfl) (by kernel_rfl) rfl
                      have g68 : T[68]? = some (undef) := hk.val 15 68 (by kernel_rfl) (by kernel_rfl) rfl
                      have hK := hK _ X hS (Reg.Is.of_val rfl) (fun _ _ _ h => h)
                      clear hk
                      go_simp
                      exact hK
                    refine Reg.EachV.plain rfl (fun T X hS hk K hK => ?_) ?_
                    · skip
                      have g57 : T[57]? = some (.bool true) := hk.val 4 57 (by kernel_rfl) (by kernel_rfl) rfl
                      have g69 : T[69]? = some (.bool true) := hk.val 16 69 (by kernel_rfl) (by kernel_rfl) rfl
                      have hK := hK _ X hS (Reg.Is.of_val rfl) (fun _ _ _ h => h)
                      clear hk
                      go_simp
                      exact hK
                    exact Reg.EachV.nil
                  case rsZ =>
                    intro u w4 hS hI
                    have e0 : u 0 = .int .i64 (q : Nat) := (hI 0 (by decide)).val rfl
                    have e1 : u 1 = .slice sa len sc := (hI 1 (by decide)).val rfl
                    have e2 : u 2 = .int .i64 (len : Nat) := (hI 2 (by decide)).val rfl
                    have e3 : u 3 = .bool true := (hI 3 (by decide)).val rfl
                    have e4 : u 4 = .bool true := (hI 4 (by decide)).val rfl
                    have e5 : u 5 = .pointer (some ⟨bx, 0, none⟩) := (hI 5 (by decide)).val rfl
                    have e6 : u 6 = .int .i64 x.kind := (hI 6 (by decide)).val rfl
                    have e7 : u 7 = .bool true := (hI 7 (by decide)).val rfl
                    have e8 : u 8 = .bool true := (hI 8 (by decide)).val rfl
                    have e9 : u 9 = undef := (hI 9 (by decide)).val rfl
                    have e10 : u 10 = undef := (hI 10 (by decide)).val rfl
                    have e11 : u 11 = undef := (hI 11 (by decide)).val rfl
                    have e12 : u 12 = undef := (hI 12 (by decide)).val rfl
                    have e13 : u 13 = undef := (hI 13 (by decide)).val rfl
                    have e14 : u 14 = undef := (hI 14 (by decide)).val rfl
                    have e15 : u 15 = undef := (hI 15 (by decide)).val rfl
                    have e16 : u 16 = .bool true := (hI 16 (by decide)).val rfl
                    have e17 : u 17 = .bool true := (hI 17 (by decide)).val rfl
                    clear hI
                    simp only [Reg.putAll, Act.put, List.setIfInBounds_toArray, List.set_cons_succ, List.set_cons_zero, Nat.zero_add, Nat.reduceAdd, e0, e1, e2, e3, e4, e5, e6, e7, e8, e9, e10, e11, e12, e13, e14, e15, e16, e17]
                    clear e0 e1 e2 e3 e4 e5 e6 e7 e8 e9 e10 e11 e12 e13 e14 e15 e16 e17
                    have HQ4 := Lib.hid hS
                    clear hS
                    have e0 := HQ4.out.b2.cell hq1n
                    have e1 := HQ4.out.b2.free (q + 1)
                    have e2 := HQ4.out.b2.lt
                    have HQ5 : Hid (RI s x w n b (bx + 1) bx P (andP (stp s x P) (uptoN (q + 1))) (w4.setCell ⟨bx + 1, q + 1, none⟩ (.bool true))) := Lib.hid (HQ4.out.put h12 hg2 (q + 1) _ (by unfold andP uptoN; rw [HSY.out]; simp) (fun j _ hj => by
                      unfold andP uptoN
                      congr 1
                      rw [Bool.eq_iff_iff]; simp; omega))
                    have hj1 : (q : Int) + 1 < (n : Int) := by omega
                    go_wp2_with fail
                    go_roundw
                    case rel => exact ⟨q + 1, by go_num, by omega, HQ5⟩
                    case measure => simp [intOf]; omega
                · skip
                  obtain ⟨vb, vo, rfl, hcel⟩ := HSR.out q (by rw [← HLE.out]; exact hqlt)
                  have hvbz := World.block_lt_of_cell? _ _ hcel
                  have hbyq := HBY.out q
                  have HK1 : Hid (x.kind = 1) := Lib.hid (by rw [hxc]; rfl)
                  have hst : x.set = p := by rw [hxc]; rfl
                  have hsp : stp s x P (q + 1) = p (s.getD q 0).toNat := by
                    rw [hxc]
                    show (decide (0 < q + 1) && (decide (q + 1 ≤ s.length) && (P (q + 1 - 1) && p (s.getD (q + 1 - 1) 0).toNat))) = _
                    rw [show q + 1 - 1 = q by omega, HPQ.out, decide_eq_true (by omega : 0 < q + 1), decide_eq_true (by rw [← HLE.out]; omega : q + 1 ≤ s.length)]
                    simp
                  obtain ⟨cN, hcN⟩ : ∃ cN : Nat, s.getD q 0 = (cN : Int) := ⟨(s.getD q 0).toNat, by omega⟩
                  rw [hcN] at hcel hbyq hsp
                  rw [Int.toNat_natCast] at hsp
                  have hcN256 : cN < 256 := by omega
                  have HCEL : Hid (∀ X, Below w.heap.size w X → X.cell? ⟨vb, vo + q, none⟩ = some (.int .u8 (cN : Nat)) ∧ vb < X.heap.size) := Lib.hid fun X hX => ⟨by rw [hX.cell (p := ⟨vb, vo + q, none⟩) hvbz]; exact hcel, Nat.lt_of_lt_of_le hvbz hX.size⟩
                  have HSP := Lib.hid hsp
                  have HST := Lib.hid hst
                  clear hcel hvbz hbyq hsp hcN hst hxc
                  cases hpv : p cN with
                  | true =>
                    have HSY : Hid (stp s x P (q + 1) = true) := Lib.hid (by rw [HSP.out]; exact hpv)
                    have HHAS : Hid (∀ X, Calls Tryd.prog 48 #[.agg #[.int .u64 (sw x.set 0 : Nat), .int .u64 (sw x.set 1 : Nat), .int .u64 (sw x.set 2 : Nat), .int .u64 (sw x.set 3 : Nat)], .int .u8 (cN : Nat)] X fun e w' => e = .returned (.bool true) ∧ Below X.heap.size X w') := Lib.hid fun X => by have := rhas_any p cN hcN256 X; rw [hpv] at this; rw [HST.out]; exact this
                    clear hpv
                    go_wp2_with fail
                    refine Reg.wp_region_vals (fun X => RI s x w n b (bx + 1) bx P (andP (stp s x P) (uptoN q)) X) (fun j => ([some (.int .i64 (q : Nat)), some (.slice (some ⟨vb, vo, none⟩) len sc), some (.int .i64 (len : Nat)), some (.bool true), some (.bool true), some (.pointer (some ⟨bx, 0, none⟩)), some (.int .i64 x.kind), some (.bool false), some (.bool false), some (.pointer (some ⟨bx, 1, none⟩)), some (.agg #[.int .u64 (sw x.set 0 : Nat), .int .u64 (sw x.set 1 : Nat), .int .u64 (sw x.set 2 : Nat), .int .u64 (sw x.set 3 : Nat)]), some (.slice (some ⟨vb, vo, none⟩) len sc), some (.int .i64 (q : Nat)), some (.pointer (some ⟨vb, vo + q, none⟩)), some (.int .u8 (cN : Nat)), some (.bool true), some (.bool true), some (.bool true)] : List (Option Value)).getD j none) (fun _ _ _ => True) (by kernel_rfl) (by kernel_rfl) (by kernel_rfl) (by kernel_rfl) ?rs0 ?rsE ?rsZ
                    case rs0 => exact HQ.out.nxt (Below.refl _ _).drew
                    case rsE =>
                      refine Reg.EachV.plain rfl (fun T X hS hk K hK => ?_) ?_
                      · skip
                        have g11 : T[11]? = some (.int .i64 (q : Nat)) := hk.old 11 (by kernel_rfl) rfl
                        have hK := hK _ X hS (Reg.Is.of_val rfl) (fun _ _ _ h => h)
                        clear hk
                        go_simp
                        exact hK
                      refine Reg.EachV.plain rfl (fun T X hS hk K hK => ?_) ?_
                      · skip
                        have g1 : T[1]? = some (.slice (some ⟨vb, vo, none⟩) len sc) := hk.old 1 (by kernel_rfl) rfl
                        have hK := hK _ X hS (Reg.Is.of_val rfl) (fun _ _ _ h => h)
                        clear hk
                        go_simp
                        exact hK
                      refine Reg.EachV.plain rfl (fun T X hS hk K hK => ?_) ?_
                      · skip
                        have g54 : T[54]? = some (.slice (some ⟨vb, vo, none⟩) len sc) := hk.val 1 54 (by kernel_rfl) (by kernel_rfl) rfl
                        have hK := hK _ X hS (Reg.Is.of_val rfl) (fun _ _ _ h => h)
                        clear hk
                        go_simp
                        exact hK
                      refine Reg.EachV.plain rfl (fun T X hS hk K hK => ?_) ?_
                      · skip
                        have g53 : T[53]? = some (.int .i64 (q : Nat)) := hk.val 0 53 (by kernel_rfl) (by kernel_rfl) rfl
                        have g55 : T[55]? = some (.int .i64 (len : Nat)) := hk.val 2 55 (by kernel_rfl) (by kernel_rfl) rfl
                        have hK := hK _ X hS (Reg.Is.of_val rfl) (fun _ _ _ h => h)
                        clear hk
                        go_simp
                        exact hK
                      refine Reg.EachV.plain rfl (fun T X hS hk K hK => ?_) ?_
                      · skip
                        have g56 : T[56]? = some (.bool true) := hk.val 3 56 (by kernel_rfl) (by kernel_rfl) rfl
                        have hK := hK _ X hS (Reg.Is.of_val rfl) (fun _ _ _ h => h)
                        clear hk
                        go_simp
                        exact hK
                      refine Reg.EachV.guarded 4 57 true rfl (by kernel_rfl) (by kernel_rfl) rfl (fun T X hS hk K hK => ?_) ?_
                      · skip
                        have g9 : T[9]? = some (.pointer (some ⟨bx, 0, none⟩)) := hk.old 9 (by kernel_rfl) rfl
                        have hK := hK _ X hS (Reg.Is.of_val rfl) (fun _ _ _ h => h)
                        clear hk
                        go_simp
                        exact hK
                      refine Reg.EachV.guarded 4 57 true rfl (by kernel_rfl) (by kernel_rfl) rfl (fun T X hS hk K hK => ?_) ?_
                      · skip
                        have g58 : T[58]? = some (.pointer (some ⟨bx, 0, none⟩)) := hk.val 5 58 (by kernel_rfl) (by kernel_rfl) rfl
                        have hbx5 := cells5 (show X.heap[bx]? = some (.cells #[.int .i64 x.kind, .int .u64 (sw x.set 0 : Nat), .int .u64 (sw x.set 1 : Nat), .int .u64 (sw x.set 2 : Nat), .int .u64 (sw x.set 3 : Nat)] 41 (0, 0)) from hS.box)
                        obtain ⟨x0c, x1c, x2c, x3c, x4c⟩ := hbx5
                        have hbz5 := lt_blkB hS.box
                        have hK := hK _ X hS (Reg.Is.of_val rfl) (fun _ _ _ h => h)
                        clear hk
                        go_simp
                        exact hK
                      refine Reg.EachV.guarded 4 57 true rfl (by kernel_rfl) (by kernel_rfl) rfl (fun T X hS hk K hK => ?_) ?_
                      · skip
                        have g59 : T[59]? = some (.int .i64 x.kind) := hk.val 6 59 (by kernel_rfl) (by kernel_rfl) rfl
                        have hk12 : (x.kind == 2) = false := by rw [HK1.out]; rfl
                        have hK := hK _ X hS (Reg.Is.of_val rfl) (fun _ _ _ h => h)
                        clear hk
                        go_simp
                        exact hK
                      refine Reg.EachV.guarded 4 57 true rfl (by kernel_rfl) (by kernel_rfl) rfl (fun T X hS hk K hK => ?_) ?_
                      · skip
                        have g60 : T[60]? = some (.bool false) := hk.val 7 60 (by kernel_rfl) (by kernel_rfl) rfl
                        have hK := hK _ X hS (Reg.Is.of_val rfl) (fun _ _ _ h => h)
                        clear hk
                        go_simp
                        exact hK
                      refine Reg.EachV.guarded 8 61 false rfl (by kernel_rfl) (by kernel_rfl) rfl (fun T X hS hk K hK => ?_) ?_
                      · skip
                        have g9 : T[9]? = some (.pointer (some ⟨bx, 0, none⟩)) := hk.old 9 (by kernel_rfl) rfl
                        have hK := hK _ X hS (Reg.Is.of_val rfl) (fun _ _ _ h => h)
                        clear hk
                        go_simp
                        exact hK
                      refine Reg.EachV.guarded 8 61 false rfl (by kernel_rfl) (by kernel_rfl) rfl (fun T X hS hk K hK => ?_) ?_
                      · skip
                        have g62 : T[62]? = some (.pointer (some ⟨bx, 1, none⟩)) := hk.val 9 62 (by kernel_rfl) (by kernel_rfl) rfl
                        have hbx5 := cells5 (show X.heap[bx]? = some (.cells #[.int .i64 x.kind, .int .u64 (sw x.set 0 : Nat), .int .u64 (sw x.set 1 : Nat), .int .u64 (sw x.set 2 : Nat), .int .u64 (sw x.set 3 : Nat)] 41 (0, 0)) from hS.box)
                        obtain ⟨x0c, x1c, x2c, x3c, x4c⟩ := hbx5
                        have hbz5 := lt_blkB hS.box
                        have hK := hK _ X hS (Reg.Is.of_val rfl) (fun _ _ _ h => h)
                        clear hk
                        go_simp
                        exact hK
                      refine Reg.EachV.guarded 8 61 false rfl (by kernel_rfl) (by kernel_rfl) rfl (fun T X hS hk K hK => ?_) ?_
                      · skip
                        have g1 : T[1]? = some (.slice (some ⟨vb, vo, none⟩) len sc) := hk.old 1 (by kernel_rfl) rfl
                        have hK := hK _ X hS (Reg.Is.of_val rfl) (fun _ _ _ h => h)
                        clear hk
                        go_simp
                        exact hK
                      refine Reg.EachV.guarded 8 61 false rfl (by kernel_rfl) (by kernel_rfl) rfl (fun T X hS hk K hK => ?_) ?_
                      · skip
                        have g11 : T[11]? = some (.int .i64 (q : Nat)) := hk.old 11 (by kernel_rfl) rfl
                        have hK := hK _ X hS (Reg.Is.of_val rfl) (fun _ _ _ h => h)
                        clear hk
                        go_simp
                        exact hK
                      refine Reg.EachV.guarded 8 61 false rfl (by kernel_rfl) (by kernel_rfl) rfl (fun T X hS hk K hK => ?_) ?_
                      · skip
                        have g64 : T[64]? = some (.slice (some ⟨vb, vo, none⟩) len sc) := hk.val 11 64 (by kernel_rfl) (by kernel_rfl) rfl
                        have g65 : T[65]? = some (.int .i64 (q : Nat)) := hk.val 12 65 (by kernel_rfl) (by kernel_rfl) rfl
                        have hK := hK _ X hS (Reg.Is.of_val rfl) (fun _ _ _ h => h)
                        clear hk
                        go_simp
                        exact hK
                      refine Reg.EachV.guarded 8 61 false rfl (by kernel_rfl) (by kernel_rfl) rfl (fun T X hS hk K hK => ?_) ?_
                      · skip
                        have g66 : T[66]? = some (.pointer (some ⟨vb, vo + q, none⟩)) := hk.val 13 66 (by kernel_rfl) (by kernel_rfl) rfl
                        obtain ⟨hcl, hvz⟩ := HCEL.out X hS.bel
                        have hK := hK _ X hS (Reg.Is.of_val rfl) (fun _ _ _ h => h)
                        clear hk
                        go_simp
                        exact hK
                      refine Reg.EachV.guarded 8 61 false rfl (by kernel_rfl) (by kernel_rfl) rfl (fun T X hS hk K hK => ?_) ?_
                      · skip
                        have g63 : T[63]? = some (.agg #[.int .u64 (sw x.set 0 : Nat), .int .u64 (sw x.set 1 : Nat), .int .u64 (sw x.set 2 : Nat), .int .u64 (sw x.set 3 : Nat)]) := hk.val 10 63 (by kernel_rfl) (by kernel_rfl) rfl
                        have g67 : T[67]? = some (.int .u8 (cN : Nat)) := hk.val 14 67 (by kernel_rfl) (by kernel_rfl) rfl
                        clear hk
                        go_simp
                        refine (HHAS.out X).mono ?_
                        rintro e w1 ⟨rfl, hb⟩
                        exact hK _ _ (hS.nxt hb) (Reg.Is.of_val rfl) (fun _ _ _ h => h)
                      refine Reg.EachV.guarded 4 57 true rfl (by kernel_rfl) (by kernel_rfl) rfl (fun T X hS hk K hK => ?_) ?_
                      · skip
                        have g61 : T[61]? = some (.bool false) := hk.val 8 61 (by kernel_rfl) (by kernel_rfl) rfl
                        have g68 : T[68]? = some (.bool true) := hk.val 15 68 (by kernel_rfl) (by kernel_rfl) rfl
                        have hK := hK _ X hS (Reg.Is.of_val rfl) (fun _ _ _ h => h)
                        clear hk
                        go_simp
                        exact hK
                      refine Reg.EachV.plain rfl (fun T X hS hk K hK => ?_) ?_
                      · skip
                        have g57 : T[57]? = some (.bool true) := hk.val 4 57 (by kernel_rfl) (by kernel_rfl) rfl
                        have g69 : T[69]? = some (.bool true) := hk.val 16 69 (by kernel_rfl) (by kernel_rfl) rfl
                        have hK := hK _ X hS (Reg.Is.of_val rfl) (fun _ _ _ h => h)
                        clear hk
                        go_simp
                        exact hK
                      exact Reg.EachV.nil
                    case rsZ =>
                      intro u w4 hS hI
                      have e0 : u 0 = .int .i64 (q : Nat) := (hI 0 (by decide)).val rfl
                      have e1 : u 1 = .slice (some ⟨vb, vo, none⟩) len sc := (hI 1 (by decide)).val rfl
                      have e2 : u 2 = .int .i64 (len : Nat) := (hI 2 (by decide)).val rfl
                      have e3 : u 3 = .bool true := (hI 3 (by decide)).val rfl
                      have e4 : u 4 = .bool true := (hI 4 (by decide)).val rfl
                      have e5 : u 5 = .pointer (some ⟨bx, 0, none⟩) := (hI 5 (by decide)).val rfl
                      have e6 : u 6 = .int .i64 x.kind := (hI 6 (by decide)).val rfl
                      have e7 : u 7 = .bool false := (hI 7 (by decide)).val rfl
                      have e8 : u 8 = .bool false := (hI 8 (by decide)).val rfl
                      have e9 : u 9 = .pointer (some ⟨bx, 1, none⟩) := (hI 9 (by decide)).val rfl
                      have e10 : u 10 = .agg #[.int .u64 (sw x.set 0 : Nat), .int .u64 (sw x.set 1 : Nat), .int .u64 (sw x.set 2 : Nat), .int .u64 (sw x.set 3 : Nat)] := (hI 10 (by decide)).val rfl
                      have e11 : u 11 = .slice (some ⟨vb, vo, none⟩) len sc := (hI 11 (by decide)).val rfl
                      have e12 : u 12 = .int .i64 (q : Nat) := (hI 12 (by decide)).val rfl
                      have e13 : u 13 = .pointer (some ⟨vb, vo + q, none⟩) := (hI 13 (by decide)).val rfl
                      have e14 : u 14 = .int .u8 (cN : Nat) := (hI 14 (by decide)).val rfl
                      have e15 : u 15 = .bool true := (hI 15 (by decide)).val rfl
                      have e16 : u 16 = .bool true := (hI 16 (by decide)).val rfl
                      have e17 : u 17 = .bool true := (hI 17 (by decide)).val rfl
                      clear hI
                      simp only [Reg.putAll, Act.put, List.setIfInBounds_toArray, List.set_cons_succ, List.set_cons_zero, Nat.zero_add, Nat.reduceAdd, e0, e1, e2, e3, e4, e5, e6, e7, e8, e9, e10, e11, e12, e13, e14, e15, e16, e17]
                      clear e0 e1 e2 e3 e4 e5 e6 e7 e8 e9 e10 e11 e12 e13 e14 e15 e16 e17
                      have HQ4 := Lib.hid hS
                      clear hS
                      have e0 := HQ4.out.b2.cell hq1n
                      have e1 := HQ4.out.b2.free (q + 1)
                      have e2 := HQ4.out.b2.lt
                      have HQ5 : Hid (RI s x w n b (bx + 1) bx P (andP (stp s x P) (uptoN (q + 1))) (w4.setCell ⟨bx + 1, q + 1, none⟩ (.bool true))) := Lib.hid (HQ4.out.put h12 hg2 (q + 1) _ (by unfold andP uptoN; rw [HSY.out]; simp) (fun j _ hj => by
                        unfold andP uptoN
                        congr 1
                        rw [Bool.eq_iff_iff]; simp; omega))
                      have hj1 : (q : Int) + 1 < (n : Int) := by omega
                      go_wp2_with fail
                      go_roundw
                      case rel => exact ⟨q + 1, by go_num, by omega, HQ5⟩
                      case measure => simp [intOf]; omega
                  | false =>
                    have HSY : Hid (stp s x P (q + 1) = false) := Lib.hid (by rw [HSP.out]; exact hpv)
                    have HHAS : Hid (∀ X, Calls Tryd.prog 48 #[.agg #[.int .u64 (sw x.set 0 : Nat), .int .u64 (sw x.set 1 : Nat), .int .u64 (sw x.set 2 : Nat), .int .u64 (sw x.set 3 : Nat)], .int .u8 (cN : Nat)] X fun e w' => e = .returned (.bool false) ∧ Below X.heap.size X w') := Lib.hid fun X => by have := rhas_any p cN hcN256 X; rw [hpv] at this; rw [HST.out]; exact this
                    clear hpv
                    go_wp2_with fail
                    refine Reg.wp_region_vals (fun X => RI s x w n b (bx + 1) bx P (andP (stp s x P) (uptoN q)) X) (fun j => ([some (.int .i64 (q : Nat)), some (.slice (some ⟨vb, vo, none⟩) len sc), some (.int .i64 (len : Nat)), some (.bool true), some (.bool true), some (.pointer (some ⟨bx, 0, none⟩)), some (.int .i64 x.kind), some (.bool false), some (.bool false), some (.pointer (some ⟨bx, 1, none⟩)), some (.agg #[.int .u64 (sw x.set 0 : Nat), .int .u64 (sw x.set 1 : Nat), .int .u64 (sw x.set 2 : Nat), .int .u64 (sw x.set 3 : Nat)]), some (.slice (some ⟨vb, vo, none⟩) len sc), some (.int .i64 (q : Nat)), some (.pointer (some ⟨vb, vo + q, none⟩)), some (.int .u8 (cN : Nat)), some (.bool false), some (.bool false), some (.bool false)] : List (Option Value)).getD j none) (fun _ _ _ => True) (by kernel_rfl) (by kernel_rfl) (by kernel_rfl) (by kernel_rfl) ?rs0 ?rsE ?rsZ
                    case rs0 => exact HQ.out.nxt (Below.refl _ _).drew
                    case rsE =>
                      refine Reg.EachV.plain rfl (fun T X hS hk K hK => ?_) ?_
                      · skip
                        have g11 : T[11]? = some (.int .i64 (q : Nat)) := hk.old 11 (by kernel_rfl) rfl
                        have hK := hK _ X hS (Reg.Is.of_val rfl) (fun _ _ _ h => h)
                        clear hk
                        go_simp
                        exact hK
                      refine Reg.EachV.plain rfl (fun T X hS hk K hK => ?_) ?_
                      · skip
                        have g1 : T[1]? = some (.slice (some ⟨vb, vo, none⟩) len sc) := hk.old 1 (by kernel_rfl) rfl
                        have hK := hK _ X hS (Reg.Is.of_val rfl) (fun _ _ _ h => h)
                        clear hk
                        go_simp
                        exact hK
                      refine Reg.EachV.plain rfl (fun T X hS hk K hK => ?_) ?_
                      · skip
                        have g54 : T[54]? = some (.slice (some ⟨vb, vo, none⟩) len sc) := hk.val 1 54 (by kernel_rfl) (by kernel_rfl) rfl
                        have hK := hK _ X hS (Reg.Is.of_val rfl) (fun _ _ _ h => h)
                        clear hk
                        go_simp
                        exact hK
                      refine Reg.EachV.plain rfl (fun T X hS hk K hK => ?_) ?_
                      · skip
                        have g53 : T[53]? = some (.int .i64 (q : Nat)) := hk.val 0 53 (by kernel_rfl) (by kernel_rfl) rfl
                        have g55 : T[55]? = some (.int .i64 (len : Nat)) := hk.val 2 55 (by kernel_rfl) (by kernel_rfl) rfl
                        have hK := hK _ X hS (Reg.Is.of_val rfl) (fun _ _ _ h => h)
                        clear hk
                        go_simp
                        exact hK
                      refine Reg.EachV.plain rfl (fun T X hS hk K hK => ?_) ?_
                      · skip
                        have g56 : T[56]? = some (.bool true) := hk.val 3 56 (by kernel_rfl) (by kernel_rfl) rfl
                        have hK := hK _ X hS (Reg.Is.of_val rfl) (fun _ _ _ h => h)
                        clear hk
                        go_simp
                        exact hK
                      refine Reg.EachV.guarded 4 57 true rfl (by kernel_rfl) (by kernel_rfl) rfl (fun T X hS hk K hK => ?_) ?_
                      · skip
                        have g9 : T[9]? = some (.pointer (some ⟨bx, 0, none⟩)) := hk.old 9 (by kernel_rfl) rfl
                        have hK := hK _ X hS (Reg.Is.of_val rfl) (fun _ _ _ h => h)
                        clear hk
                        go_simp
                        exact hK
                      refine Reg.EachV.guarded 4 57 true rfl (by kernel_rfl) (by kernel_rfl) rfl (fun T X hS hk K hK => ?_) ?_
                      · skip
                        have g58 : T[58]? = some (.pointer (some ⟨bx, 0, none⟩)) := hk.val 5 58 (by kernel_rfl) (by kernel_rfl) rfl
                        have hbx5 := cells5 (show X.heap[bx]? = some (.cells #[.int .i64 x.kind, .int .u64 (sw x.set 0 : Nat), .int .u64 (sw x.set 1 : Nat), .int .u64 (sw x.set 2 : Nat), .int .u64 (sw x.set 3 : Nat)] 41 (0, 0)) from hS.box)
                        obtain ⟨x0c, x1c, x2c, x3c, x4c⟩ := hbx5
                        have hbz5 := lt_blkB hS.box
                        have hK := hK _ X hS (Reg.Is.of_val rfl) (fun _ _ _ h => h)
                        clear hk
                        go_simp
                        exact hK
                      refine Reg.EachV.guarded 4 57 true rfl (by kernel_rfl) (by kernel_rfl) rfl (fun T X hS hk K hK => ?_) ?_
                      · skip
                        have g59 : T[59]? = some (.int .i64 x.kind) := hk.val 6 59 (by kernel_rfl) (by kernel_rfl) rfl
                        have hk12 : (x.kind == 2) = false := by rw [HK1.out]; rfl
                        have hK := hK _ X hS (Reg.Is.of_val rfl) (fun _ _ _ h => h)
                        clear hk
                        go_simp
                        exact hK
                      refine Reg.EachV.guarded 4 57 true rfl (by kernel_rfl) (by kernel_rfl) rfl (fun T X hS hk K hK => ?_) ?_
                      · skip
                        have g60 : T[60]? = some (.bool false) := hk.val 7 60 (by kernel_rfl) (by kernel_rfl) rfl
                        have hK := hK _ X hS (Reg.Is.of_val rfl) (fun _ _ _ h => h)
                        clear hk
                        go_simp
                        exact hK
                      refine Reg.EachV.guarded 8 61 false rfl (by kernel_rfl) (by kernel_rfl) rfl (fun T X hS hk K hK => ?_) ?_
                      · skip
                        have g9 : T[9]? = some (.pointer (some ⟨bx, 0, none⟩)) := hk.old 9 (by kernel_rfl) rfl
                        have hK := hK _ X hS (Reg.Is.of_val rfl) (fun _ _ _ h => h)
                        clear hk
                        go_simp
                        exact hK
                      refine Reg.EachV.guarded 8 61 false rfl (by kernel_rfl) (by kernel_rfl) rfl (fun T X hS hk K hK => ?_) ?_
                      · skip
                        have g62 : T[62]? = some (.pointer (some ⟨bx, 1, none⟩)) := hk.val 9 62 (by kernel_rfl) (by kernel_rfl) rfl
                        have hbx5 := cells5 (show X.heap[bx]? = some (.cells #[.int .i64 x.kind, .int .u64 (sw x.set 0 : Nat), .int .u64 (sw x.set 1 : Nat), .int .u64 (sw x.set 2 : Nat), .int .u64 (sw x.set 3 : Nat)] 41 (0, 0)) from hS.box)
                        obtain ⟨x0c, x1c, x2c, x3c, x4c⟩ := hbx5
                        have hbz5 := lt_blkB hS.box
                        have hK := hK _ X hS (Reg.Is.of_val rfl) (fun _ _ _ h => h)
                        clear hk
                        go_simp
                        exact hK
                      refine Reg.EachV.guarded 8 61 false rfl (by kernel_rfl) (by kernel_rfl) rfl (fun T X hS hk K hK => ?_) ?_
                      · skip
                        have g1 : T[1]? = some (.slice (some ⟨vb, vo, none⟩) len sc) := hk.old 1 (by kernel_rfl) rfl
                        have hK := hK _ X hS (Reg.Is.of_val rfl) (fun _ _ _ h => h)
                        clear hk
                        go_simp
                        exact hK
                      refine Reg.EachV.guarded 8 61 false rfl (by kernel_rfl) (by kernel_rfl) rfl (fun T X hS hk K hK => ?_) ?_
                      · skip
                        have g11 : T[11]? = some (.int .i64 (q : Nat)) := hk.old 11 (by kernel_rfl) rfl
                        have hK := hK _ X hS (Reg.Is.of_val rfl) (fun _ _ _ h => h)
                        clear hk
                        go_simp
                        exact hK
                      refine Reg.EachV.guarded 8 61 false rfl (by kernel_rfl) (by kernel_rfl) rfl (fun T X hS hk K hK => ?_) ?_
                      · skip
                        have g64 : T[64]? = some (.slice (some ⟨vb, vo, none⟩) len sc) := hk.val 11 64 (by kernel_rfl) (by kernel_rfl) rfl
                        have g65 : T[65]? = some (.int .i64 (q : Nat)) := hk.val 12 65 (by kernel_rfl) (by kernel_rfl) rfl
                        have hK := hK _ X hS (Reg.Is.of_val rfl) (fun _ _ _ h => h)
                        clear hk
                        go_simp
                        exact hK
                      refine Reg.EachV.guarded 8 61 false rfl (by kernel_rfl) (by kernel_rfl) rfl (fun T X hS hk K hK => ?_) ?_
                      · skip
                        have g66 : T[66]? = some (.pointer (some ⟨vb, vo + q, none⟩)) := hk.val 13 66 (by kernel_rfl) (by kernel_rfl) rfl
                        obtain ⟨hcl, hvz⟩ := HCEL.out X hS.bel
                        have hK := hK _ X hS (Reg.Is.of_val rfl) (fun _ _ _ h => h)
                        clear hk
                        go_simp
                        exact hK
                      refine Reg.EachV.guarded 8 61 false rfl (by kernel_rfl) (by kernel_rfl) rfl (fun T X hS hk K hK => ?_) ?_
                      · skip
                        have g63 : T[63]? = some (.agg #[.int .u64 (sw x.set 0 : Nat), .int .u64 (sw x.set 1 : Nat), .int .u64 (sw x.set 2 : Nat), .int .u64 (sw x.set 3 : Nat)]) := hk.val 10 63 (by kernel_rfl) (by kernel_rfl) rfl
                        have g67 : T[67]? = some (.int .u8 (cN : Nat)) := hk.val 14 67 (by kernel_rfl) (by kernel_rfl) rfl
                        clear hk
                        go_simp
                        refine (HHAS.out X).mono ?_
                        rintro e w1 ⟨rfl, hb⟩
                        exact hK _ _ (hS.nxt hb) (Reg.Is.of_val rfl) (fun _ _ _ h => h)
                      refine Reg.EachV.guarded 4 57 true rfl (by kernel_rfl) (by kernel_rfl) rfl (fun T X hS hk K hK => ?_) ?_
                      · skip
                        have g61 : T[61]? = some (.bool false) := hk.val 8 61 (by kernel_rfl) (by kernel_rfl) rfl
                        have g68 : T[68]? = some (.bool false) := hk.val 15 68 (by kernel_rfl) (by kernel_rfl) rfl
                        have hK := hK _ X hS (Reg.Is.of_val rfl) (fun _ _ _ h => h)
                        clear hk
                        go_simp
                        exact hK
                      refine Reg.EachV.plain rfl (fun T X hS hk K hK => ?_) ?_
                      · skip
                        have g57 : T[57]? = some (.bool true) := hk.val 4 57 (by kernel_rfl) (by kernel_rfl) rfl
                        have g69 : T[69]? = some (.bool false) := hk.val 16 69 (by kernel_rfl) (by kernel_rfl) rfl
                        have hK := hK _ X hS (Reg.Is.of_val rfl) (fun _ _ _ h => h)
                        clear hk
                        go_simp
                        exact hK
                      exact Reg.EachV.nil
                    case rsZ =>
                      intro u w4 hS hI
                      have e0 : u 0 = .int .i64 (q : Nat) := (hI 0 (by decide)).val rfl
                      have e1 : u 1 = .slice (some ⟨vb, vo, none⟩) len sc := (hI 1 (by decide)).val rfl
                      have e2 : u 2 = .int .i64 (len : Nat) := (hI 2 (by decide)).val rfl
                      have e3 : u 3 = .bool true := (hI 3 (by decide)).val rfl
                      have e4 : u 4 = .bool true := (hI 4 (by decide)).val rfl
                      have e5 : u 5 = .pointer (some ⟨bx, 0, none⟩) := (hI 5 (by decide)).val rfl
                      have e6 : u 6 = .int .i64 x.kind := (hI 6 (by decide)).val rfl
                      have e7 : u 7 = .bool false := (hI 7 (by decide)).val rfl
                      have e8 : u 8 = .bool false := (hI 8 (by decide)).val rfl
                      have e9 : u 9 = .pointer (some ⟨bx, 1, none⟩) := (hI 9 (by decide)).val rfl
                      have e10 : u 10 = .agg #[.int .u64 (sw x.set 0 : Nat), .int .u64 (sw x.set 1 : Nat), .int .u64 (sw x.set 2 : Nat), .int .u64 (sw x.set 3 : Nat)] := (hI 10 (by decide)).val rfl
                      have e11 : u 11 = .slice (some ⟨vb, vo, none⟩) len sc := (hI 11 (by decide)).val rfl
                      have e12 : u 12 = .int .i64 (q : Nat) := (hI 12 (by decide)).val rfl
                      have e13 : u 13 = .pointer (some ⟨vb, vo + q, none⟩) := (hI 13 (by decide)).val rfl
                      have e14 : u 14 = .int .u8 (cN : Nat) := (hI 14 (by decide)).val rfl
                      have e15 : u 15 = .bool false := (hI 15 (by decide)).val rfl
                      have e16 : u 16 = .bool false := (hI 16 (by decide)).val rfl
                      have e17 : u 17 = .bool false := (hI 17 (by decide)).val rfl
                      clear hI
                      simp only [Reg.putAll, Act.put, List.setIfInBounds_toArray, List.set_cons_succ, List.set_cons_zero, Nat.zero_add, Nat.reduceAdd, e0, e1, e2, e3, e4, e5, e6, e7, e8, e9, e10, e11, e12, e13, e14, e15, e16, e17]
                      clear e0 e1 e2 e3 e4 e5 e6 e7 e8 e9 e10 e11 e12 e13 e14 e15 e16 e17
                      have HQ4 := Lib.hid hS
                      clear hS
                      have HQ5 : Hid (RI s x w n b (bx + 1) bx P (andP (stp s x P) (uptoN (q + 1))) w4) := Lib.hid ⟨HQ4.out.bel, HQ4.out.bl, HQ4.out.b2.congr (fun j _ => by
                        unfold andP uptoN
                        by_cases hj : j = q + 1
                        · rw [hj, HSY.out]; rfl
                        · congr 1
                          rw [Bool.eq_iff_iff]; simp; omega), HQ4.out.box⟩
                      go_wp2_with fail
                      go_roundw
                      case rel => exact ⟨q + 1, by go_num, by omega, HQ5⟩
                      case measure => simp [intOf]; omega
          · have hqe : q = n := by omega
            have hnqI : ¬ (q : Int) < (n : Int) := by omega
            have HBL2 : Hid (BL wr (bx + 1) n (stp s x P)) := Lib.hid (HQ.out.b2.congr (fun j hj => by
              unfold andP uptoN
              rw [decide_eq_true (by omega : j ≤ q), Bool.and_true]))
            have HRN : Hid (RE s ps w n i (k + 1) (bx + 1) (stp s x P) wr) := Lib.hid ⟨HQ.out.bel, hg2, HBL2.out, stp_fits s x P, by
              have h1 := HR.out.eq
              rw [drop_at HXX.out] at h1
              exact h1⟩
            clear hqe
            go_wp2_with fail
            go_roundw
            case rel => exact ⟨k + 1, bx + 1, stp s x P, rfl, by go_num, by omega, HRN⟩
            case measure => simp [intOf]; omega
    · have hkm : k = ps.length := by rw [← HM.out]; omega
      have HRES : Hid (BL wo b n (endsP s ps (isI i)) ∧ Below w.heap.size w wo) := Lib.hid ⟨by
        have h1 := HR.out.eq
        rw [hkm, List.drop_length] at h1
        rw [← h1]; exact HR.out.bl, HR.out.bel⟩
      clear hkm
      go_wp2
      go_ret
      exact ⟨b, rfl, HRES.out.1, HRES.out.2⟩
end Go.Proofs.YtoodpajbefffhaaDoor
/- The contracts of the reference's Match, Prefix and Suffix. -/
namespace Go.Proofs.YtoodpajbefffhaaDoor
open Go.RowKit

theorem Sl.shapeN {w : World} {v : Value} {l : List Int} (h : Sl w v l) : ∃ a cap, v = .slice a l.length cap := by
  rcases h.2.2 with ⟨rfl, ad, cap, rfl⟩ | ⟨x, o, cap, rfl, _⟩
  · exact ⟨ad, cap, rfl⟩
  · exact ⟨_, cap, rfl⟩
set_option maxRecDepth 100000 in
set_option maxHeartbeats 4000000 in
theorem rmatch_any (s : List Int) (ps : List Pc) (sv v : Value) (B : Nat) (w : World) (hs : Sl w sv s) (hlen : s.length ≤ 1099511627776) (hrow : w.ownsRow B 41 5 v ps.length (cellsL ps)) (hl : ps.length ≤ 1048576) :
    Calls Tryd.prog 21 #[v, sv] w fun e w' => e = .returned (.bool (mtc ps s)) ∧ Below w.heap.size w w' := by
  have HE := Lib.hid (rends_any s ps sv v 0 B w hs (Nat.zero_le _) hlen hrow hl)
  obtain ⟨sa, sc, rfl⟩ := hs.shapeN
  have HM : Hid (endsP s ps (isI 0) s.length = mtc ps s) := Lib.hid rfl
  generalize endsP s ps (isI ((0 : Nat))) = P at *
  generalize mtc ps s = m at *
  clear hs hrow
  generalize s.length = n at *
  have h0 : ((0 : Nat) : Int) = 0 := rfl
  rw [h0] at HE
  go_enter Tryd.func21, Tryd.ntmps21
  go_wp2_with fail
  refine HE.out.mono ?_
  rintro e w1 ⟨b, rfl, hbl, hb1⟩
  have c0 := hbl.cell (i := n) (by omega)
  rw [HM.out] at c0
  have cz := hbl.lt
  have HB1 := Lib.hid hb1
  clear hbl hb1
  go_wp2
  go_ret
  exact ⟨rfl, HB1.out⟩

end Go.Proofs.YtoodpajbefffhaaDoor
