/- GmatchSelects: its walk, opened (gen_gse.py). -/
import Derived.Test.YtoodpajbefffhaaDoorSlcR
import Derived.Test.YtoodpajbefffhaaDoorSeCy
import Derived.Test.YtoodpajbefffhaaDoorGmO
import Derived.SliceStrings
namespace Go.Proofs.YtoodpajbefffhaaDoor
open Go.RowKit

set_option maxRecDepth 100000 in
theorem select_nil2 (v : Value) (w : World) :
    Calls Tryd.prog 5 #[.pointer none, v] w fun x w' => x = .returned (.slice none 0 0) ∧ w' = w := by
  go_enter Tryd.func5, Tryd.ntmps5
  go_wp2
  go_ret
  exact ⟨rfl, rfl⟩
theorem own_ss {X : World} {B : Nat} {v : Value} {L : List (List UInt8)} (h : X.ownsRow B 9 1 v L.length (L.map nmV)) : Ss X v L := by
  rcases h.2 with ⟨rfl, h0⟩ | ⟨g, cap, cur, rfl, hg, hb, hn, hm, hs, ht⟩
  · exact Or.inl ⟨List.length_eq_zero_iff.1 h0, _, _, rfl⟩
  · refine Or.inr ⟨g, 0, cap, rfl, fun j x hj => ?_⟩
    have := h.cells (g := g) rfl j (nmV x) (by rw [List.getElem?_map, hj]; rfl)
    rw [WideShapes.add_plain] at this
    exact this
theorem Ss.take {w : World} {a : Option Addr} {n c : Nat} {L : List (List UInt8)} (h : Ss w (.slice a n c) L) (h40 : 40 ≤ L.length) : Ss w (.slice a 40 c) (L.take 40) := by
  rcases h with ⟨rfl, _⟩ | ⟨b, o, cap, hv, hc⟩
  · simp at h40
  · simp only [Value.slice.injEq] at hv
    obtain ⟨rfl, _, rfl⟩ := hv
    refine Or.inr ⟨b, o, c, by rw [List.length_take, Nat.min_eq_left h40], fun j x hj => hc j x ?_⟩
    rw [List.getElem?_take] at hj
    split at hj
    · exact hj
    · cases hj
def shB60 (x : List UInt8) : Bool := decide (x.length ≤ 60)
structure GeI (w : World) (F : List (List UInt8)) (v : Value) (X : World) : Prop where
  bel : Below w.heap.size w X
  own : X.ownsRow w.heap.size 9 1 v F.length (F.map nmV)

set_option maxRecDepth 100000 in
set_option maxHeartbeats 16000000 in
theorem gse_so (w : World) (v0 : Value) (ps : List Pc) (hps : ps.length ≤ 256) (na : Option Addr) (n0 nc : Nat) (L : List (List UInt8)) (hn : Ss w (.slice na n0 nc) L) (hn0 : n0 = L.length) (h40 : n0 ≤ 40)
    (HA : Hid (∀ X, Below w.heap.size w X → Calls Tryd.prog 7 #[] X fun x w' => x = .returned (.bool true) ∧ Below X.heap.size X w'))
    (HR : Hid (∀ X, Below w.heap.size w X → Calls Tryd.prog 6 #[v0] X fun x w' => ∃ b, x = .returned (.pointer (some ⟨b, 0, none⟩)) ∧ PatAt X.heap.size b ps w' ∧ Below X.heap.size X w'))
    (HRP : Hid (∀ X, Below w.heap.size w X → Calls Tryd.prog 4 #[v0] X fun e w' => ∃ r, e = .returned (.tuple #[r, .agg #[.int .i64 0, .int .i64 0, .int .i64 0]]) ∧ w'.ownsRow X.heap.size 41 5 r ps.length (cellsL ps) ∧ Below X.heap.size X w'))
    (hT : TZ w) :
    Calls Tryd.prog 3 #[v0, .slice na n0 nc] w fun x w' => x = .returned (.bool true) ∧ Below w.heap.size w w' := by
  obtain ⟨i1, ki, kz0, kz1, kz2⟩ := info_parts strq_row
  have hs40 := hn
  have hl40 : L.length = n0 := hn0.symm
  have hI : ¬ (40 : Int) < (n0 : Int) := by omega
  generalize L = M at *
  have HNS := Lib.hid hs40
  have HML := Lib.hid hl40
  clear hn hn0 hs40 hl40 
  go_enter Tryd.func3, Tryd.ntmps3
  go_wp2_with fail
  go_loopw [5, 17] (fun v i X => ∃ k : Nat, i = .int .i64 (k : Nat) ∧ k ≤ n0 ∧ Hid (GeI w ((M.take k).filter shB60) v X)) (fun _ i _ => n0 - (intOf i).toNat)
  case atStart => exact ⟨0, rfl, Nat.zero_le _, Lib.hid ⟨Below.refl _ _, World.ownsRow_nil _ _ _ _⟩⟩
  case round =>
    obtain ⟨k, rfl, hk, HI⟩ := hrel
    have hfl : ((M.take k).filter shB60).length ≤ 40 := Nat.le_trans (List.length_filter_le _ _) (by rw [List.length_take, HML.out]; omega)
    obtain ⟨a0, cap0, hv0⟩ := own_shapeK HI.out.own
    subst hv0
    by_cases hlt : k < n0
    · obtain ⟨nb, no, x, rfl, hx, hcell⟩ := (HNS.out.below HI.out.bel).at (k := k) (by rw [HML.out]; exact hlt)
      have HTF := Lib.hid (take_filter shB60 hx)
      unfold nmV at hcell
      obtain ⟨s, hs⟩ : ∃ s, s = (⟨x.toArray⟩ : ByteArray) := ⟨_, rfl⟩
      rw [← hs] at hcell
      have HXN : Hid (nmV x = .string s) := Lib.hid (by rw [hs]; rfl)
      have HXS : Hid (s.size = x.length) := Lib.hid (by rw [hs]; rfl)
      have hkI : (k : Int) < (n0 : Int) := by omega
      have hcz := World.block_lt_of_cell? _ _ hcell
      clear hx hs
      by_cases h60 : s.size ≤ 60
      · have HSB : Hid (shB60 x = true) := Lib.hid (by unfold shB60; rw [← HXS.out]; exact decide_eq_true h60)
        have HF2 : Hid ((M.take (k + 1)).filter shB60 = (M.take k).filter shB60 ++ [x]) := Lib.hid (by rw [HTF.out, if_pos HSB.out])
        have h6I : (s.size : Int) ≤ 60 := by omega
        go_wp2_with (at_builtin; refine wpList_append_own _ rfl _ _ 23 rfl w.heap.size 9 i1 (.string ⟨#[]⟩) 1 16 Tryd.underlying23 ki kz0 kz1 kz2 rfl (by decide) _ _ _ rfl (HI.out.own.alloc _) ⟨wr.heap.size, 0, none⟩ 1 1 [.string s] rfl rfl ?c1 ?c2 ?c3 ?c4 ?c5 ?_)
        try case c1 =>
          intro j u hj
          match j, hj with
          | 0, hj => simp at hj; subst hj; simp [Addr.add]
        try case c2 => first | rfl | (intro u hu; simp at hu; subst hu; rfl)
        try case c3 => first | omega | (unfold maxLen; simp; omega)
        try case c4 => first | omega | (simp; omega)
        try case c5 => have := HI.out.bel.size; simp; omega
        intro v' w4 hown' hgr _
        have HN4 : Hid (GeI w ((M.take (k + 1)).filter shB60) v' w4) := Lib.hid ⟨(HI.out.bel.alloc HI.out.bel.size _).grown hgr (by have := HI.out.bel.size; simp; omega) (fun j hj => (HI.out.own.lt j hj).1), by rw [HF2.out, List.map_append, List.length_append, List.map_singleton, HXN.out]; exact hown'⟩
        clear hown' hgr
        go_wp2_with fail
        go_roundw
        case rel => exact ⟨k + 1, by go_num, by omega, HN4⟩
        case measure => simp [intOf]; omega
      · have HSB : Hid (shB60 x = false) := Lib.hid (by unfold shB60; rw [← HXS.out]; exact decide_eq_false h60)
        have HF2 : Hid ((M.take (k + 1)).filter shB60 = (M.take k).filter shB60) := Lib.hid (by rw [HTF.out, HSB.out]; simp)
        have h6I : ¬ (s.size : Int) ≤ 60 := by omega
        go_wp2_with fail
        go_roundw
        case rel => exact ⟨k + 1, by go_num, by omega, by rw [HF2.out]; exact HI⟩
        case measure => simp [intOf]; omega
    · have hkn : k = n0 := by omega
      have hkI : ¬ (k : Int) < (n0 : Int) := by omega
      have HFF : Hid ((M.take k).filter shB60 = M.filter shB60) := Lib.hid (by rw [List.take_of_length_le (by rw [HML.out]; omega)])
      have HIF := HI.out
      rw [HFF.out] at HIF hfl
      have hf60 : ∀ x ∈ M.filter shB60, x.length ≤ 60 := fun x hx => by have := (List.mem_filter.1 hx).2; unfold shB60 at this; simpa using this
      have H60 := Lib.hid hf60
      have HII := Lib.hid HIF
      rw [HFF.out]
      clear HI HFF HIF hkn hf60
      generalize M.filter shB60 = F at *
      have HRP1 := Lib.hid (HRP.out wr HII.out.bel)
      go_wp2_with fail
      refine HRP1.out.mono ?_
      rintro e w2 ⟨r, rfl, hr2, hb2⟩
      have HB2 : Hid (Below wr.heap.size wr (w2.alloc (.cells #[.int .i64 0, .int .i64 0, .int .i64 0] 26))) := Lib.hid (hb2.alloc hb2.size _)
      have HR2 := Lib.hid (hr2.alloc (.cells #[.int .i64 0, .int .i64 0, .int .i64 0] 26))
      clear hr2 hb2
      have HBw := Lib.hid (below_thn HII.out.bel (Nat.le_refl _) HB2.out)
      have HRD := Lib.hid (HR.out _ HBw.out)
      go_wp2_with fail
      refine HRD.out.mono ?_
      rintro e w4 ⟨b, rfl, hp4, hb4⟩
      have HB4 := Lib.hid (HB2.out.trans (hb4.mono HB2.out.size))
      have HBw4 := Lib.hid (below_thn HII.out.bel (Nat.le_refl _) HB4.out)
      have HS4 := Lib.hid ((own_ss HII.out.own).below HB4.out)
      have HR4 := Lib.hid (own_drop HR2.out hb4)
      have HSE := Lib.hid (gsel_any ps F _ _ b w4 (hT.below HBw4.out) hp4 (by omega) HS4.out hfl H60.out)
      clear hp4 hb4
      go_wp2_with fail
      refine HSE.out.mono ?_
      rintro e w5 ⟨va, rfl, hs5, hb5⟩
      have HSA := Lib.hid hs5
      have HR5 := Lib.hid (own_drop HR4.out hb5)
      have HN5 := Lib.hid (HS4.out.below hb5)
      have HBw5 := Lib.hid (below_thn HBw4.out (Nat.le_refl _) hb5)
      have HRS := Lib.hid (rsel_any ps F r _ _ w5 HR5.out (by omega) HN5.out hfl H60.out)
      clear hs5 hb5
      go_wp2_with fail
      refine HRS.out.mono ?_
      rintro e w6 ⟨vb, rfl, ho6, hb6⟩
      have HBw6 := Lib.hid (below_thn HBw5.out (Nat.le_refl _) hb6)
      have HST := Lib.hid (rstrings_any va vb _ w6 (HSA.out.below hb6) (own_ss ho6) (by have := putAll_len (F.filter (selB ps)) []; have h2 := List.length_filter_le (selB ps) F; simp at this; omega))
      clear ho6 hb6
      go_wp2_with fail
      refine HST.out.mono ?_
      rintro e w7 ⟨rfl, hb7⟩
      have HBw7 := Lib.hid (below_thn HBw6.out (Nat.le_refl _) hb7)
      clear hb7
      go_wp2_with fail
      refine (HA.out _ HBw7.out).mono ?_
      rintro e w8 ⟨rfl, hb8⟩
      have HZ := Lib.hid (below_thn HBw7.out (Nat.le_refl _) hb8)
      clear hb8
      go_wp2
      go_ret
      exact ⟨rfl, HZ.out⟩

set_option maxRecDepth 100000 in
set_option maxHeartbeats 16000000 in
theorem gse_lo (w : World) (v0 : Value) (ps : List Pc) (hps : ps.length ≤ 256) (na : Option Addr) (n0 nc : Nat) (L : List (List UInt8)) (hn : Ss w (.slice na n0 nc) L) (hn0 : n0 = L.length) (h40 : 40 < n0) (hnc : n0 ≤ nc)
    (HA : Hid (∀ X, Below w.heap.size w X → Calls Tryd.prog 7 #[] X fun x w' => x = .returned (.bool true) ∧ Below X.heap.size X w'))
    (HR : Hid (∀ X, Below w.heap.size w X → Calls Tryd.prog 6 #[v0] X fun x w' => ∃ b, x = .returned (.pointer (some ⟨b, 0, none⟩)) ∧ PatAt X.heap.size b ps w' ∧ Below X.heap.size X w'))
    (HRP : Hid (∀ X, Below w.heap.size w X → Calls Tryd.prog 4 #[v0] X fun e w' => ∃ r, e = .returned (.tuple #[r, .agg #[.int .i64 0, .int .i64 0, .int .i64 0]]) ∧ w'.ownsRow X.heap.size 41 5 r ps.length (cellsL ps) ∧ Below X.heap.size X w'))
    (hT : TZ w) :
    Calls Tryd.prog 3 #[v0, .slice na n0 nc] w fun x w' => x = .returned (.bool true) ∧ Below w.heap.size w w' := by
  obtain ⟨i1, ki, kz0, kz1, kz2⟩ := info_parts strq_row
  have hs40 := hn.take (by omega)
  have hl40 : (L.take 40).length = 40 := by rw [List.length_take]; omega
  have hI : (40 : Int) < (n0 : Int) := by omega
  have hcc : 40 ≤ nc := by omega
  obtain ⟨n, hn1⟩ : ∃ n, n = 40 := ⟨_, rfl⟩
  have hcn : n ≤ nc := by omega
  generalize L.take 40 = M at *
  have HNS := Lib.hid hs40
  have HML := Lib.hid hl40
  clear hn1 hcn
  clear hn hn0 hs40 hl40 
  go_enter Tryd.func3, Tryd.ntmps3
  go_wp2_with fail
  go_loopw [5, 17] (fun v i X => ∃ k : Nat, i = .int .i64 (k : Nat) ∧ k ≤ 40 ∧ Hid (GeI w ((M.take k).filter shB60) v X)) (fun _ i _ => 40 - (intOf i).toNat)
  case atStart => exact ⟨0, rfl, Nat.zero_le _, Lib.hid ⟨Below.refl _ _, World.ownsRow_nil _ _ _ _⟩⟩
  case round =>
    obtain ⟨k, rfl, hk, HI⟩ := hrel
    have hfl : ((M.take k).filter shB60).length ≤ 40 := Nat.le_trans (List.length_filter_le _ _) (by rw [List.length_take, HML.out]; omega)
    obtain ⟨a0, cap0, hv0⟩ := own_shapeK HI.out.own
    subst hv0
    by_cases hlt : k < 40
    · obtain ⟨nb, no, x, rfl, hx, hcell⟩ := (HNS.out.below HI.out.bel).at (k := k) (by rw [HML.out]; exact hlt)
      have HTF := Lib.hid (take_filter shB60 hx)
      unfold nmV at hcell
      obtain ⟨s, hs⟩ : ∃ s, s = (⟨x.toArray⟩ : ByteArray) := ⟨_, rfl⟩
      rw [← hs] at hcell
      have HXN : Hid (nmV x = .string s) := Lib.hid (by rw [hs]; rfl)
      have HXS : Hid (s.size = x.length) := Lib.hid (by rw [hs]; rfl)
      have hkI : (k : Int) < (40 : Int) := by omega
      have hcz := World.block_lt_of_cell? _ _ hcell
      clear hx hs
      by_cases h60 : s.size ≤ 60
      · have HSB : Hid (shB60 x = true) := Lib.hid (by unfold shB60; rw [← HXS.out]; exact decide_eq_true h60)
        have HF2 : Hid ((M.take (k + 1)).filter shB60 = (M.take k).filter shB60 ++ [x]) := Lib.hid (by rw [HTF.out, if_pos HSB.out])
        have h6I : (s.size : Int) ≤ 60 := by omega
        go_wp2_with (at_builtin; refine wpList_append_own _ rfl _ _ 23 rfl w.heap.size 9 i1 (.string ⟨#[]⟩) 1 16 Tryd.underlying23 ki kz0 kz1 kz2 rfl (by decide) _ _ _ rfl (HI.out.own.alloc _) ⟨wr.heap.size, 0, none⟩ 1 1 [.string s] rfl rfl ?c1 ?c2 ?c3 ?c4 ?c5 ?_)
        try case c1 =>
          intro j u hj
          match j, hj with
          | 0, hj => simp at hj; subst hj; simp [Addr.add]
        try case c2 => first | rfl | (intro u hu; simp at hu; subst hu; rfl)
        try case c3 => first | omega | (unfold maxLen; simp; omega)
        try case c4 => first | omega | (simp; omega)
        try case c5 => have := HI.out.bel.size; simp; omega
        intro v' w4 hown' hgr _
        have HN4 : Hid (GeI w ((M.take (k + 1)).filter shB60) v' w4) := Lib.hid ⟨(HI.out.bel.alloc HI.out.bel.size _).grown hgr (by have := HI.out.bel.size; simp; omega) (fun j hj => (HI.out.own.lt j hj).1), by rw [HF2.out, List.map_append, List.length_append, List.map_singleton, HXN.out]; exact hown'⟩
        clear hown' hgr
        go_wp2_with fail
        go_roundw
        case rel => exact ⟨k + 1, by go_num, by omega, HN4⟩
        case measure => simp [intOf]; omega
      · have HSB : Hid (shB60 x = false) := Lib.hid (by unfold shB60; rw [← HXS.out]; exact decide_eq_false h60)
        have HF2 : Hid ((M.take (k + 1)).filter shB60 = (M.take k).filter shB60) := Lib.hid (by rw [HTF.out, HSB.out]; simp)
        have h6I : ¬ (s.size : Int) ≤ 60 := by omega
        go_wp2_with fail
        go_roundw
        case rel => exact ⟨k + 1, by go_num, by omega, by rw [HF2.out]; exact HI⟩
        case measure => simp [intOf]; omega
    · have hkn : k = 40 := by omega
      have hkI : ¬ (k : Int) < (40 : Int) := by omega
      have HFF : Hid ((M.take k).filter shB60 = M.filter shB60) := Lib.hid (by rw [List.take_of_length_le (by rw [HML.out]; omega)])
      have HIF := HI.out
      rw [HFF.out] at HIF hfl
      have hf60 : ∀ x ∈ M.filter shB60, x.length ≤ 60 := fun x hx => by have := (List.mem_filter.1 hx).2; unfold shB60 at this; simpa using this
      have H60 := Lib.hid hf60
      have HII := Lib.hid HIF
      rw [HFF.out]
      clear HI HFF HIF hkn hf60
      generalize M.filter shB60 = F at *
      have HRP1 := Lib.hid (HRP.out wr HII.out.bel)
      go_wp2_with fail
      refine HRP1.out.mono ?_
      rintro e w2 ⟨r, rfl, hr2, hb2⟩
      have HB2 : Hid (Below wr.heap.size wr (w2.alloc (.cells #[.int .i64 0, .int .i64 0, .int .i64 0] 26))) := Lib.hid (hb2.alloc hb2.size _)
      have HR2 := Lib.hid (hr2.alloc (.cells #[.int .i64 0, .int .i64 0, .int .i64 0] 26))
      clear hr2 hb2
      have HBw := Lib.hid (below_thn HII.out.bel (Nat.le_refl _) HB2.out)
      have HRD := Lib.hid (HR.out _ HBw.out)
      go_wp2_with fail
      refine HRD.out.mono ?_
      rintro e w4 ⟨b, rfl, hp4, hb4⟩
      have HB4 := Lib.hid (HB2.out.trans (hb4.mono HB2.out.size))
      have HBw4 := Lib.hid (below_thn HII.out.bel (Nat.le_refl _) HB4.out)
      have HS4 := Lib.hid ((own_ss HII.out.own).below HB4.out)
      have HR4 := Lib.hid (own_drop HR2.out hb4)
      have HSE := Lib.hid (gsel_any ps F _ _ b w4 (hT.below HBw4.out) hp4 (by omega) HS4.out hfl H60.out)
      clear hp4 hb4
      go_wp2_with fail
      refine HSE.out.mono ?_
      rintro e w5 ⟨va, rfl, hs5, hb5⟩
      have HSA := Lib.hid hs5
      have HR5 := Lib.hid (own_drop HR4.out hb5)
      have HN5 := Lib.hid (HS4.out.below hb5)
      have HBw5 := Lib.hid (below_thn HBw4.out (Nat.le_refl _) hb5)
      have HRS := Lib.hid (rsel_any ps F r _ _ w5 HR5.out (by omega) HN5.out hfl H60.out)
      clear hs5 hb5
      go_wp2_with fail
      refine HRS.out.mono ?_
      rintro e w6 ⟨vb, rfl, ho6, hb6⟩
      have HBw6 := Lib.hid (below_thn HBw5.out (Nat.le_refl _) hb6)
      have HST := Lib.hid (rstrings_any va vb _ w6 (HSA.out.below hb6) (own_ss ho6) (by have := putAll_len (F.filter (selB ps)) []; have h2 := List.length_filter_le (selB ps) F; simp at this; omega))
      clear ho6 hb6
      go_wp2_with fail
      refine HST.out.mono ?_
      rintro e w7 ⟨rfl, hb7⟩
      have HBw7 := Lib.hid (below_thn HBw6.out (Nat.le_refl _) hb7)
      clear hb7
      go_wp2_with fail
      refine (HA.out _ HBw7.out).mono ?_
      rintro e w8 ⟨rfl, hb8⟩
      have HZ := Lib.hid (below_thn HBw7.out (Nat.le_refl _) hb8)
      clear hb8
      go_wp2
      go_ret
      exact ⟨rfl, HZ.out⟩

set_option maxRecDepth 100000 in
set_option maxHeartbeats 16000000 in
theorem gse_sl (w : World) (v0 : Value) (na : Option Addr) (n0 nc : Nat) (L : List (List UInt8)) (hn : Ss w (.slice na n0 nc) L) (hn0 : n0 = L.length) (h40 : n0 ≤ 40)
    (HA : Hid (∀ X, Below w.heap.size w X → Calls Tryd.prog 7 #[] X fun x w' => x = .returned (.bool true) ∧ Below X.heap.size X w'))
    (HR : Hid (∀ X, Below w.heap.size w X → Calls Tryd.prog 6 #[v0] X fun x w' => x = .returned (.pointer none) ∧ Below X.heap.size X w'))
    (HRP : Hid (∀ X, Calls Tryd.prog 4 #[v0] X fun e w' => e = .returned (.tuple #[.slice none 0 0, .agg #[.int .i64 2, .int .i64 0, .int .i64 2]]) ∧ Below X.heap.size X w')) :
    Calls Tryd.prog 3 #[v0, .slice na n0 nc] w fun x w' => x = .returned (.bool true) ∧ Below w.heap.size w w' := by
  obtain ⟨i1, ki, kz0, kz1, kz2⟩ := info_parts strq_row
  have hs40 := hn
  have hl40 : L.length = n0 := hn0.symm
  have hI : ¬ (40 : Int) < (n0 : Int) := by omega
  generalize L = M at *
  have HNS := Lib.hid hs40
  have HML := Lib.hid hl40
  clear hn hn0 hs40 hl40 
  go_enter Tryd.func3, Tryd.ntmps3
  go_wp2_with fail
  go_loopw [5, 17] (fun v i X => ∃ k : Nat, i = .int .i64 (k : Nat) ∧ k ≤ n0 ∧ Hid (GeI w ((M.take k).filter shB60) v X)) (fun _ i _ => n0 - (intOf i).toNat)
  case atStart => exact ⟨0, rfl, Nat.zero_le _, Lib.hid ⟨Below.refl _ _, World.ownsRow_nil _ _ _ _⟩⟩
  case round =>
    obtain ⟨k, rfl, hk, HI⟩ := hrel
    have hfl : ((M.take k).filter shB60).length ≤ 40 := Nat.le_trans (List.length_filter_le _ _) (by rw [List.length_take, HML.out]; omega)
    obtain ⟨a0, cap0, hv0⟩ := own_shapeK HI.out.own
    subst hv0
    by_cases hlt : k < n0
    · obtain ⟨nb, no, x, rfl, hx, hcell⟩ := (HNS.out.below HI.out.bel).at (k := k) (by rw [HML.out]; exact hlt)
      have HTF := Lib.hid (take_filter shB60 hx)
      unfold nmV at hcell
      obtain ⟨s, hs⟩ : ∃ s, s = (⟨x.toArray⟩ : ByteArray) := ⟨_, rfl⟩
      rw [← hs] at hcell
      have HXN : Hid (nmV x = .string s) := Lib.hid (by rw [hs]; rfl)
      have HXS : Hid (s.size = x.length) := Lib.hid (by rw [hs]; rfl)
      have hkI : (k : Int) < (n0 : Int) := by omega
      have hcz := World.block_lt_of_cell? _ _ hcell
      clear hx hs
      by_cases h60 : s.size ≤ 60
      · have HSB : Hid (shB60 x = true) := Lib.hid (by unfold shB60; rw [← HXS.out]; exact decide_eq_true h60)
        have HF2 : Hid ((M.take (k + 1)).filter shB60 = (M.take k).filter shB60 ++ [x]) := Lib.hid (by rw [HTF.out, if_pos HSB.out])
        have h6I : (s.size : Int) ≤ 60 := by omega
        go_wp2_with (at_builtin; refine wpList_append_own _ rfl _ _ 23 rfl w.heap.size 9 i1 (.string ⟨#[]⟩) 1 16 Tryd.underlying23 ki kz0 kz1 kz2 rfl (by decide) _ _ _ rfl (HI.out.own.alloc _) ⟨wr.heap.size, 0, none⟩ 1 1 [.string s] rfl rfl ?c1 ?c2 ?c3 ?c4 ?c5 ?_)
        try case c1 =>
          intro j u hj
          match j, hj with
          | 0, hj => simp at hj; subst hj; simp [Addr.add]
        try case c2 => first | rfl | (intro u hu; simp at hu; subst hu; rfl)
        try case c3 => first | omega | (unfold maxLen; simp; omega)
        try case c4 => first | omega | (simp; omega)
        try case c5 => have := HI.out.bel.size; simp; omega
        intro v' w4 hown' hgr _
        have HN4 : Hid (GeI w ((M.take (k + 1)).filter shB60) v' w4) := Lib.hid ⟨(HI.out.bel.alloc HI.out.bel.size _).grown hgr (by have := HI.out.bel.size; simp; omega) (fun j hj => (HI.out.own.lt j hj).1), by rw [HF2.out, List.map_append, List.length_append, List.map_singleton, HXN.out]; exact hown'⟩
        clear hown' hgr
        go_wp2_with fail
        go_roundw
        case rel => exact ⟨k + 1, by go_num, by omega, HN4⟩
        case measure => simp [intOf]; omega
      · have HSB : Hid (shB60 x = false) := Lib.hid (by unfold shB60; rw [← HXS.out]; exact decide_eq_false h60)
        have HF2 : Hid ((M.take (k + 1)).filter shB60 = (M.take k).filter shB60) := Lib.hid (by rw [HTF.out, HSB.out]; simp)
        have h6I : ¬ (s.size : Int) ≤ 60 := by omega
        go_wp2_with fail
        go_roundw
        case rel => exact ⟨k + 1, by go_num, by omega, by rw [HF2.out]; exact HI⟩
        case measure => simp [intOf]; omega
    · have hkn : k = n0 := by omega
      have hkI : ¬ (k : Int) < (n0 : Int) := by omega
      have HFF : Hid ((M.take k).filter shB60 = M.filter shB60) := Lib.hid (by rw [List.take_of_length_le (by rw [HML.out]; omega)])
      have HIF := HI.out
      rw [HFF.out] at HIF hfl
      have hf60 : ∀ x ∈ M.filter shB60, x.length ≤ 60 := fun x hx => by have := (List.mem_filter.1 hx).2; unfold shB60 at this; simpa using this
      have H60 := Lib.hid hf60
      have HII := Lib.hid HIF
      rw [HFF.out]
      clear HI HFF HIF hkn hf60
      generalize M.filter shB60 = F at *
      go_wp2_with fail
      refine (HRP.out _).mono ?_
      rintro e w2 ⟨rfl, hb2⟩
      have HB2 : Hid (Below w.heap.size w (w2.alloc (.cells #[.int .i64 2, .int .i64 0, .int .i64 2] 26))) := Lib.hid ((below_thn HII.out.bel (Nat.le_refl _) hb2).alloc (below_thn HII.out.bel (Nat.le_refl _) hb2).size _)
      clear hb2
      have HRD := Lib.hid (HR.out _ HB2.out)
      go_wp2_with fail
      refine HRD.out.mono ?_
      rintro e w4 ⟨rfl, hb4⟩
      have HB4 := Lib.hid (below_thn HB2.out (Nat.le_refl _) hb4)
      clear hb4
      go_wp2_with fail
      refine (select_nil2 _ _).mono ?_
      rintro e w5 ⟨rfl, rfl⟩
      go_wp2_with fail
      refine (HA.out _ HB4.out).mono ?_
      rintro e w8 ⟨rfl, hb8⟩
      have HZ := Lib.hid (below_thn HB4.out (Nat.le_refl _) hb8)
      clear hb8
      go_wp2
      go_ret
      exact ⟨rfl, HZ.out⟩

set_option maxRecDepth 100000 in
set_option maxHeartbeats 16000000 in
theorem gse_ll (w : World) (v0 : Value) (na : Option Addr) (n0 nc : Nat) (L : List (List UInt8)) (hn : Ss w (.slice na n0 nc) L) (hn0 : n0 = L.length) (h40 : 40 < n0) (hnc : n0 ≤ nc)
    (HA : Hid (∀ X, Below w.heap.size w X → Calls Tryd.prog 7 #[] X fun x w' => x = .returned (.bool true) ∧ Below X.heap.size X w'))
    (HR : Hid (∀ X, Below w.heap.size w X → Calls Tryd.prog 6 #[v0] X fun x w' => x = .returned (.pointer none) ∧ Below X.heap.size X w'))
    (HRP : Hid (∀ X, Calls Tryd.prog 4 #[v0] X fun e w' => e = .returned (.tuple #[.slice none 0 0, .agg #[.int .i64 2, .int .i64 0, .int .i64 2]]) ∧ Below X.heap.size X w')) :
    Calls Tryd.prog 3 #[v0, .slice na n0 nc] w fun x w' => x = .returned (.bool true) ∧ Below w.heap.size w w' := by
  obtain ⟨i1, ki, kz0, kz1, kz2⟩ := info_parts strq_row
  have hs40 := hn.take (by omega)
  have hl40 : (L.take 40).length = 40 := by rw [List.length_take]; omega
  have hI : (40 : Int) < (n0 : Int) := by omega
  have hcc : 40 ≤ nc := by omega
  obtain ⟨n, hn1⟩ : ∃ n, n = 40 := ⟨_, rfl⟩
  have hcn : n ≤ nc := by omega
  generalize L.take 40 = M at *
  have HNS := Lib.hid hs40
  have HML := Lib.hid hl40
  clear hn1 hcn
  clear hn hn0 hs40 hl40 
  go_enter Tryd.func3, Tryd.ntmps3
  go_wp2_with fail
  go_loopw [5, 17] (fun v i X => ∃ k : Nat, i = .int .i64 (k : Nat) ∧ k ≤ 40 ∧ Hid (GeI w ((M.take k).filter shB60) v X)) (fun _ i _ => 40 - (intOf i).toNat)
  case atStart => exact ⟨0, rfl, Nat.zero_le _, Lib.hid ⟨Below.refl _ _, World.ownsRow_nil _ _ _ _⟩⟩
  case round =>
    obtain ⟨k, rfl, hk, HI⟩ := hrel
    have hfl : ((M.take k).filter shB60).length ≤ 40 := Nat.le_trans (List.length_filter_le _ _) (by rw [List.length_take, HML.out]; omega)
    obtain ⟨a0, cap0, hv0⟩ := own_shapeK HI.out.own
    subst hv0
    by_cases hlt : k < 40
    · obtain ⟨nb, no, x, rfl, hx, hcell⟩ := (HNS.out.below HI.out.bel).at (k := k) (by rw [HML.out]; exact hlt)
      have HTF := Lib.hid (take_filter shB60 hx)
      unfold nmV at hcell
      obtain ⟨s, hs⟩ : ∃ s, s = (⟨x.toArray⟩ : ByteArray) := ⟨_, rfl⟩
      rw [← hs] at hcell
      have HXN : Hid (nmV x = .string s) := Lib.hid (by rw [hs]; rfl)
      have HXS : Hid (s.size = x.length) := Lib.hid (by rw [hs]; rfl)
      have hkI : (k : Int) < (40 : Int) := by omega
      have hcz := World.block_lt_of_cell? _ _ hcell
      clear hx hs
      by_cases h60 : s.size ≤ 60
      · have HSB : Hid (shB60 x = true) := Lib.hid (by unfold shB60; rw [← HXS.out]; exact decide_eq_true h60)
        have HF2 : Hid ((M.take (k + 1)).filter shB60 = (M.take k).filter shB60 ++ [x]) := Lib.hid (by rw [HTF.out, if_pos HSB.out])
        have h6I : (s.size : Int) ≤ 60 := by omega
        go_wp2_with (at_builtin; refine wpList_append_own _ rfl _ _ 23 rfl w.heap.size 9 i1 (.string ⟨#[]⟩) 1 16 Tryd.underlying23 ki kz0 kz1 kz2 rfl (by decide) _ _ _ rfl (HI.out.own.alloc _) ⟨wr.heap.size, 0, none⟩ 1 1 [.string s] rfl rfl ?c1 ?c2 ?c3 ?c4 ?c5 ?_)
        try case c1 =>
          intro j u hj
          match j, hj with
          | 0, hj => simp at hj; subst hj; simp [Addr.add]
        try case c2 => first | rfl | (intro u hu; simp at hu; subst hu; rfl)
        try case c3 => first | omega | (unfold maxLen; simp; omega)
        try case c4 => first | omega | (simp; omega)
        try case c5 => have := HI.out.bel.size; simp; omega
        intro v' w4 hown' hgr _
        have HN4 : Hid (GeI w ((M.take (k + 1)).filter shB60) v' w4) := Lib.hid ⟨(HI.out.bel.alloc HI.out.bel.size _).grown hgr (by have := HI.out.bel.size; simp; omega) (fun j hj => (HI.out.own.lt j hj).1), by rw [HF2.out, List.map_append, List.length_append, List.map_singleton, HXN.out]; exact hown'⟩
        clear hown' hgr
        go_wp2_with fail
        go_roundw
        case rel => exact ⟨k + 1, by go_num, by omega, HN4⟩
        case measure => simp [intOf]; omega
      · have HSB : Hid (shB60 x = false) := Lib.hid (by unfold shB60; rw [← HXS.out]; exact decide_eq_false h60)
        have HF2 : Hid ((M.take (k + 1)).filter shB60 = (M.take k).filter shB60) := Lib.hid (by rw [HTF.out, HSB.out]; simp)
        have h6I : ¬ (s.size : Int) ≤ 60 := by omega
        go_wp2_with fail
        go_roundw
        case rel => exact ⟨k + 1, by go_num, by omega, by rw [HF2.out]; exact HI⟩
        case measure => simp [intOf]; omega
    · have hkn : k = 40 := by omega
      have hkI : ¬ (k : Int) < (40 : Int) := by omega
      have HFF : Hid ((M.take k).filter shB60 = M.filter shB60) := Lib.hid (by rw [List.take_of_length_le (by rw [HML.out]; omega)])
      have HIF := HI.out
      rw [HFF.out] at HIF hfl
      have hf60 : ∀ x ∈ M.filter shB60, x.length ≤ 60 := fun x hx => by have := (List.mem_filter.1 hx).2; unfold shB60 at this; simpa using this
      have H60 := Lib.hid hf60
      have HII := Lib.hid HIF
      rw [HFF.out]
      clear HI HFF HIF hkn hf60
      generalize M.filter shB60 = F at *
      go_wp2_with fail
      refine (HRP.out _).mono ?_
      rintro e w2 ⟨rfl, hb2⟩
      have HB2 : Hid (Below w.heap.size w (w2.alloc (.cells #[.int .i64 2, .int .i64 0, .int .i64 2] 26))) := Lib.hid ((below_thn HII.out.bel (Nat.le_refl _) hb2).alloc (below_thn HII.out.bel (Nat.le_refl _) hb2).size _)
      clear hb2
      have HRD := Lib.hid (HR.out _ HB2.out)
      go_wp2_with fail
      refine HRD.out.mono ?_
      rintro e w4 ⟨rfl, hb4⟩
      have HB4 := Lib.hid (below_thn HB2.out (Nat.le_refl _) hb4)
      clear hb4
      go_wp2_with fail
      refine (select_nil2 _ _).mono ?_
      rintro e w5 ⟨rfl, rfl⟩
      go_wp2_with fail
      refine (HA.out _ HB4.out).mono ?_
      rintro e w8 ⟨rfl, hb8⟩
      have HZ := Lib.hid (below_thn HB4.out (Nat.le_refl _) hb8)
      clear hb8
      go_wp2
      go_ret
      exact ⟨rfl, HZ.out⟩

theorem nm_str (z : ByteArray) : nmV z.data.toList = .string z := by unfold nmV; simp
set_option maxRecDepth 100000 in
/-- A slice of names that came in. -/
theorem ss_of_w {H : Type} {enc : TypeId × Value → H} {W : World} {base : Nat} {v : Value} {d : DataW H} {ps : List MemPlace}
    (hk : Value.okWide Tryd.prog W .any base 23 v) (h : DataW.Trod enc Tryd.prog W 0 (fun _ => true) true 23 v d ps) :
    ∃ na nc L, v = .slice na (List.length L) nc ∧ L.length ≤ nc ∧ Ss W v L := by
  obtain ⟨a0, len, cap, rfl⟩ := WideShapes.okWide_slice Tryd.underlying23 hk
  obtain ⟨fuel, hf⟩ := h
  rcases ChangeShapes.open_strings Tryd.underlying23 Tryd.underlying9 (by kernel_rfl) hf with ⟨hcs, _⟩ | ⟨a, len', cap', zs, hcs, _, hl, hm, hzl, hx, hcell, hwf⟩
  · simp [Value.cells] at hcs
    obtain ⟨rfl, rfl, rfl⟩ := hcs
    exact ⟨none, 0, [], rfl, Nat.le_refl _, Or.inl ⟨rfl, _, _, rfl⟩⟩
  · simp [Value.cells] at hcs
    obtain ⟨rfl, rfl, rfl⟩ := hcs
    simp only [if_true] at hzl
    have hlt : (zs.take len).length = len := by simp; omega
    by_cases h0 : len = 0
    · subst h0
      exact ⟨some a, cap, [], rfl, Nat.zero_le _, Or.inl ⟨rfl, _, _, rfl⟩⟩
    · obtain ⟨b, o, spot⟩ := a
      have hspot : spot = none := by simpa [Addr.add] using World.cell?_spot (hcell 0 (by omega))
      subst hspot
      refine ⟨_, cap, (zs.take len).map (fun s => s.data.toList), by rw [List.length_map, hlt], by rw [List.length_map, hlt]; exact hl, Or.inr ⟨b, o, cap, by rw [List.length_map, hlt], fun j x hj => ?_⟩⟩
      rw [List.getElem?_map] at hj
      cases hz : (zs.take len)[j]? with
      | none => rw [hz] at hj; cases hj
      | some z =>
        rw [hz] at hj
        simp only [Option.map_some, Option.some.injEq] at hj
        have hjl := (List.getElem?_eq_some_iff.1 hz).1
        rw [hlt] at hjl
        have hc := hcell j (by omega)
        rw [WideShapes.add_plain] at hc
        have hg : zs.getD j ByteArray.empty = z := by
          rw [List.getElem?_take_of_lt hjl] at hz
          rw [List.getD_eq_getElem?_getD, hz]; rfl
        rw [hg] at hc
        rw [← hj, nm_str]
        exact hc

set_option maxRecDepth 100000 in
theorem gmatchSelects_open {H : Type} {enc : TypeId × Value → H} {d0 d1 : DataW H} {p0 p1 : List MemPlace} {q : Prop} (W : World) (base : Nat) (v0 v1 : Value)
    (h0 : DataW.Trod enc Tryd.prog W 0 (fun _ => true) true 22 v0 d0 p0) (h1 : DataW.Trod enc Tryd.prog W 0 (fun _ => true) true 23 v1 d1 p1)
    (k0 : Value.okWide Tryd.prog W .any base 22 v0) (k1 : Value.okWide Tryd.prog W .any base 23 v1) (_ : q) (hL : laidMetH Tryd.prog Rows.gmatchSelectsRow.laid W) :
    Calls Tryd.prog 3 #[v0, v1] W fun e W' => e = .returned (.bool true) ∧ Below W.heap.size W W' := by
  obtain ⟨e, he, hT⟩ := gm_of_laid (by kernel_rfl) (by kernel_rfl) hL
  obtain ⟨cf, hcf, hrf⟩ := classes_ok2
  obtain ⟨l, hs, _⟩ := sl_of_w k0 h0
  obtain ⟨na, nc, L, rfl, hnc, hss⟩ := ss_of_w k1 h1
  have hes : ∀ X, Below W.heap.size W X → Es X X.heap.size e := fun X hX => ⟨(he.below hX).var, Nat.lt_of_lt_of_le he.low hX.size, Nat.le_refl _⟩
  have HA : Hid (∀ X, Below W.heap.size W X → Calls Tryd.prog 7 #[] X fun x w' => x = .returned (.bool true) ∧ Below X.heap.size X w') := Lib.hid fun X hX => awake7_any cf hcf e X (hes X hX) (hT.below hX)
  by_cases hp : l.length ≤ 256
  · have hpl : (glP cf l).length ≤ 256 := Nat.le_trans (glP_len cf l) hp
    have HR := Lib.hid (fun X (hX : Below W.heap.size W X) => read_ok cf hcf e v0 l X (hes X hX) (hT.below hX) (hs.below hX) hp)
    have HRP := Lib.hid (fun X (hX : Below W.heap.size W X) => rpat_any cf hrf v0 l X (hs.below hX) hp)
    by_cases h40 : L.length ≤ 40
    · exact gse_so W v0 (glP cf l) hpl na _ nc L hss rfl h40 HA HR HRP hT
    · exact gse_lo W v0 (glP cf l) hpl na _ nc L hss rfl (by omega) hnc HA HR HRP hT
  · obtain ⟨a0, c0, rfl⟩ := hs.shapeN
    have HR := Lib.hid (fun X (hX : Below W.heap.size W X) => read_long e a0 l.length c0 (by omega) X (hes X hX))
    have HRP := Lib.hid (fun X => rpat_long a0 l.length c0 (by omega) X)
    by_cases h40 : L.length ≤ 40
    · exact gse_sl W _ na _ nc L hss rfl h40 HA HR HRP
    · exact gse_ll W _ na _ nc L hss rfl (by omega) hnc HA HR HRP
end Go.Proofs.YtoodpajbefffhaaDoor
