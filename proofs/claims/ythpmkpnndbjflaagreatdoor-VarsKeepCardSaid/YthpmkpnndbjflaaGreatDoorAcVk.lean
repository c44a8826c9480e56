/- The list of variables, rising by names. -/
import Derived.Test.YthpmkpnndbjflaaGreatDoorAcVj
import Derived.Test.YthpmkpnndbjflaaGreatDoorShelf
import Derived.Sort.Walk0
namespace Go.Proofs.YthpmkpnndbjflaaGreatDoor
open Go.RowKit Go.WideMaps Go.Maps Go.Shelf Go.Sort

theorem cmp_lt : ∀ x y : List UInt8, decide (Lib.compareBytes x y < 0) = decide (x < y)
  | [], [] => by simp [Lib.compareBytes]
  | [], _ :: _ => by simp [Lib.compareBytes]
  | _ :: _, [] => by simp [Lib.compareBytes]
  | a :: x, b :: y => by
    rw [Lib.compareBytes]
    have ih := cmp_lt x y
    by_cases h1 : a < b
    · simp [h1, List.cons_lt_cons_iff]
    · by_cases h2 : b < a
      · have hne : ¬ a = b := fun e => by subst e; exact h1 h2
        simp [h1, h2, hne, List.cons_lt_cons_iff]
      · have he : a = b := UInt8.le_antisymm (UInt8.not_lt.1 h2) (UInt8.not_lt.1 h1)
        subst he
        rw [if_neg h1, if_neg h2, ih]
        simp
/-- How the list's closure compares. -/
def cfV (x y : ByteArray × ByteArray) : Int := Lib.compareBytes x.1.data.toList y.1.data.toList
theorem lt_cfV (x y : ByteArray × ByteArray) : ltOf cfV x y = decide (nmL x.1 < nmL y.1) := cmp_lt _ _
theorem swoV : SWO (ltOf cfV) where
  irrefl x := by rw [lt_cfV]; exact decide_eq_false (nl_irrefl _)
  trans x y z h k := by rw [lt_cfV, decide_eq_true_eq] at *; exact nl_trans h k
  ntrans x y z h k := by
    rw [lt_cfV, decide_eq_false_iff_not] at *
    intro e
    rcases nl_tri (nmL y.1) (nmL z.1) with q | q | q
    · exact k q
    · rw [← q] at e; exact h e
    · exact h (nl_trans e q)

theorem flat_atV (ps : Vl) (t : Nat) (ht : t < ps.length * 2) : (Sort.flatK cVr 2 ps.toArray)[t]! = (rowV ps)[t]! := by
  rw [Sort.get_flatK _ _ _ t (by simpa using ht)]
  have hd : t / 2 < ps.length := by omega
  obtain ⟨h0, h1⟩ := rowV_at ps (t / 2) ps[t / 2] (List.getElem?_eq_getElem hd)
  have h2 : (ps.toArray)[t / 2]! = ps[t / 2] := by simp [getElem!_pos, hd]
  rw [h2]
  rcases Nat.mod_two_eq_zero_or_one t with e | e
  · have e2 : t / 2 * 2 = t := by omega
    rw [e2] at h0
    simp only [List.getElem!_eq_getElem?_getD, h0, e]
    rfl
  · have e2 : t / 2 * 2 + 1 = t := by omega
    rw [e2] at h1
    simp only [List.getElem!_eq_getElem?_getD, h1, e]
    rfl
theorem flat_allV (ps : Vl) : (Sort.flatK cVr 2 ps.toArray) = (rowV ps).toArray := by
  refine Sort.ext_get! (by rw [Sort.size_flatK]; simp [rowV_len]) fun t ht => ?_
  rw [Sort.size_flatK] at ht
  rw [flat_atV ps t (by simpa using ht)]
  have hlt : t < (rowV ps).length := by rw [rowV_len]; simpa using ht
  simp [getElem!_pos, hlt]
theorem holdsV {w : World} {B g cap n : Nat} {ps : Vl} (h : w.ownsRow B 74 2 (.slice (some ⟨g, 0, none⟩) n cap) n (rowV ps)) : Sort.HoldsK cVr 2 w g 0 ps.toArray := by
  unfold Sort.HoldsK
  rw [flat_allV]
  intro j hj
  have hj' : j < (rowV ps).length := by simpa using hj
  have := h.cells (g := g) rfl j (rowV ps)[j] (List.getElem?_eq_getElem hj')
  rw [Nat.zero_add]
  refine ⟨?_, h.frozenAt j⟩
  rw [WideShapes.add_plain, Nat.zero_add] at this
  rw [this]
  simp [getElem!_pos, hj']
theorem own_putV {w : World} {B g cap n q : Nat} {ps qs : Vl} (h : w.ownsRow B 74 2 (.slice (some ⟨g, 0, none⟩) n cap) n (rowV ps)) (hl : qs.length = n) :
    (Sort.putRowK cVr 2 (Sort.ahead w q) g 0 qs.toArray).ownsRow B 74 2 (.slice (some ⟨g, 0, none⟩) n cap) n (rowV qs) := by
  unfold Sort.putRowK
  rw [flat_allV]
  rcases h.2 with ⟨e0, _⟩ | ⟨g', cap', cur, e0, hb, hg, hn, hm, hs, ht⟩
  · cases e0
  · injection e0 with e1 _ e3
    injection e1 with e1
    injection e1 with e1
    subst e1; subst e3
    refine ⟨by rw [rowV_len, hl], .inr ⟨g, cap, Sort.putCells id 0 (rowV qs).toArray cur, rfl, hb, ?_, hn, hm, by simpa [Sort.putCells] using hs, ?_⟩⟩
    · simp [Sort.putRow, Sort.mapBlock, Sort.ahead, Array.getElem?_modify, hg, Sort.onCells]
    · have hcl := rowV_len qs
      apply List.ext_getElem?
      intro j
      rw [List.getElem?_take, Array.getElem?_toList]
      by_cases hj : j < n * 2
      · have hjc : j < cur.size := by rw [hs]; omega
        have hjq : j < (rowV qs).length := by omega
        rw [if_pos hj]
        simp only [Sort.putCells, Array.getElem?_mapIdx, Array.getElem?_eq_getElem hjc, Option.map_some]
        rw [if_pos (by simp; omega), List.getElem?_eq_getElem hjq]
        simp [getElem!_pos, hjq]
      · rw [if_neg hj, List.getElem?_eq_none (by omega)]
theorem below_grow (w : World) (os : Array Obj) : Below w.heap.size w (grow w os) := ⟨rfl, rfl, rfl, by simp [grow], fun k hk => by simp only [grow]; rw [Array.getElem?_append_left hk]⟩
theorem grown_putV (w : World) (g q : Nat) (d : Array (ByteArray × ByteArray)) : w.grownBy (Sort.putRowK cVr 2 (Sort.ahead w q) g 0 d) (some g) :=
  ⟨rfl, rfl, rfl, by simp [Sort.putRowK, Sort.putRow, Sort.mapBlock, Sort.ahead], fun k _ hne => by
    have : g ≠ k := fun e => hne (by rw [e])
    simp [Sort.putRowK, Sort.putRow, Sort.mapBlock, Sort.ahead, Array.getElem?_modify, this]⟩

set_option maxHeartbeats 2000000 in
theorem closureV (x y : ByteArray × ByteArray) (W : World) : Calls Tryz.prog 40 #[.agg #[.string x.1, .string x.2], .agg #[.string y.1, .string y.2]] W fun e w' => e = .returned (.int .i64 (cfV x y)) ∧ ∃ q os', w' = grow (W.drewN q) os' := by
  have hcon := fun W' => Tryz.strings_Compare x.1 y.1 W'
  unfold cfV
  generalize Lib.compareBytes x.1.data.toList y.1.data.toList = r at hcon ⊢
  go_enter Tryz.func40, Tryz.ntmps40
  go_wp2_with fail
  refine (hcon _).mono ?_
  rintro e w' ⟨rfl, rfl⟩
  go_wp2_with fail
  go_ret
  exact ⟨rfl, 0, _, by rw [alloc_eq_grow, alloc_eq_grow, grow_grow]; rfl⟩
theorem agg_var : ∀ w : World, (isAgg 74).run Tryz.prog w = .ok true w := fun _ => by kernel_rfl
theorem size_var : ∀ w : World, (Go.sizeOf 74).run Tryz.prog w = .ok 2 w := fun _ => by kernel_rfl
theorem sorted_is {xs vl : Vl} {d' : Array (ByteArray × ByteArray)} (hp : xs.Perm vl) (hr : vl.Ris) (hP : PermIn 0 xs.toArray.size xs.toArray d') (hS : SortedIn (ltOf cfV) 0 xs.toArray.size d') : d' = vl.toArray := by
  have hsz : d'.size = xs.length := by rw [hP.1]; simp
  have hpe : d'.toList.Perm xs := by
    have := hP.2.2
    rw [Array.extract_eq_self_of_le (by rw [hsz]; simp), Array.extract_eq_self_of_le (by simp)] at this
    simpa using this
  have hpv := hpe.trans hp
  have hnd : d'.toList.Nodup := hpv.nodup_iff.2 (vl_nodup hr)
  have hri : Vl.Ris d'.toList := by
    unfold Vl.Ris
    rw [List.pairwise_iff_getElem]
    intro i j hi hj hij
    have h1 := hS i j (Nat.zero_le _) hij (by simp at hj ⊢; omega)
    have gi : d'[i]! = d'.toList[i] := by simp at hi; simp [getElem!_pos, hi]
    have gj : d'[j]! = d'.toList[j] := by simp at hj; simp [getElem!_pos, hj]
    rw [lt_cfV, decide_eq_false_iff_not, gi, gj] at h1
    rcases nl_tri (nmL d'.toList[i].1) (nmL d'.toList[j].1) with q | q | q
    · exact q
    · exfalso
      have mi := (look_mem hr).2 (show (d'.toList[i].1, d'.toList[i].2) ∈ vl from hpv.mem_iff.1 (List.getElem_mem hi))
      have mj := (look_mem hr).2 (show (d'.toList[j].1, d'.toList[j].2) ∈ vl from hpv.mem_iff.1 (List.getElem_mem hj))
      have en := nmL_inj q
      rw [en, mj] at mi
      have e : d'.toList[i] = d'.toList[j] := Prod.ext en (Option.some.inj mi).symm
      exact (List.pairwise_iff_getElem.1 hnd) i j hi hj hij e
    · exact absurd q h1
  have := vl_ext hri hr (fun x => hpv.mem_iff)
  rw [← this]

set_option maxHeartbeats 2000000 in
theorem collect_vars (Bm mb N : Nat) (D0 : DataW Unit) (vl : Vl) (hris : vl.Ris) (hrep : VRep D0 vl) (hN : N ≤ 1000000) (w : World) (hBm : Bm < w.heap.size) (hm : w.cell? ⟨Bm, 0, none⟩ = some (.map (some mb))) (hown : w.ownsMap Tryz.prog 9 rdV mb N D0) :
    Calls Tryz.prog 69 #[.func (.func 71) #[] #[.pointer (some ⟨Bm, 0, none⟩)]] w fun e W' => (∃ v xs, e = .returned v ∧ xs.Perm vl ∧ W'.ownsRow w.heap.size 74 2 v xs.length (rowV xs)) ∧ Below w.heap.size w W' := by
  have HA := Lib.hid (appendSeq_vars Bm mb N D0 vl hris hrep hN w hBm hm hown)
  clear hris hrep hBm hm hown
  go_enter Tryz.func69, Tryz.ntmps69
  go_wp2_with fail
  refine HA.out.mono ?_
  rintro e w1 ⟨⟨v, xs, rfl, hp, ho⟩, hb1⟩
  obtain ⟨va, vc, rfl⟩ := own_shapeA ho
  have HB1 := Lib.hid hb1
  have HO := Lib.hid ho
  clear hb1 ho
  go_wp2_with fail
  go_ret
  exact ⟨⟨_, xs, rfl, hp, HO.out⟩, HB1.out⟩
theorem sort_vars (B : Nat) (v : Value) (xs vl : Vl) (w : World) (h : w.ownsRow B 74 2 v xs.length (rowV xs)) (hp : xs.Perm vl) (hr : vl.Ris) (hl : vl.length ≤ 1000000) :
    Calls Tryz.prog 70 #[v, .func (.func 40) #[] #[]] w fun e w' => e = .returned (.tuple #[]) ∧ w'.ownsRow B 74 2 v vl.length (rowV vl) ∧ Below B w w' := by
  have hlen := hp.length_eq
  rcases h.2 with ⟨rfl, h0⟩ | ⟨g, cap, cur, rfl, hB, hg, _⟩
  · obtain rfl : xs = [] := List.length_eq_zero_iff.1 h0
    obtain rfl : vl = [] := List.length_eq_zero_iff.1 (by rw [← hlen]; rfl)
    refine (sort_nil _ w).mono ?_
    rintro e w' ⟨rfl, rfl⟩
    exact ⟨rfl, h, Below.refl _ _⟩
  · have eg : ∀ args w, (callFunc 40 args).run Tryz.prog w = .ok (.enter 40 args) w := enters_of Tryz.func40 (by kernel_rfl) rfl
    have hS := Go.Proofs.AnyQ.slices_SortFunc Tryz.lsort 2 agg_var size_var cVr (fun _ => rfl) cVr_one cfV swoV 40 #[] g 0 cap xs.toArray w eg (fun _ _ _ _ x y => closureV x y _) (holdsV h) (lt_blkA hg) (by simp; omega)
    rw [List.size_toArray] at hS
    refine Calls.mono (show Calls Tryz.prog 70 _ _ _ from hS) ?_
    rintro e w' ⟨rfl, d', n, os, hP, hSd, rfl⟩
    obtain rfl := sorted_is hp hr (by rw [List.size_toArray]; exact hP) (by rw [List.size_toArray]; exact hSd)
    have ho := own_putV (q := n) h (qs := vl) hlen.symm
    have hgr := grown_putV w g n vl.toArray
    have hbw := below_grow (Sort.putRowK cVr 2 (Sort.ahead w n) g 0 vl.toArray) os
    refine ⟨rfl, ?_, ((Below.refl B w).grown hgr (by have := lt_blkA hg; omega) (fun k e => by rw [← Option.some.inj e]; exact hB)).trans (hbw.mono (by have := hgr.size; have := lt_blkA hg; omega))⟩
    rw [← hlen]
    exact own_belowV ho hbw
set_option maxHeartbeats 2000000 in
theorem sorted_vars (Bm mb N : Nat) (D0 : DataW Unit) (vl : Vl) (hris : vl.Ris) (hrep : VRep D0 vl) (hN : N ≤ 1000000) (hl : vl.length ≤ 1000000) (w : World) (hBm : Bm < w.heap.size) (hm : w.cell? ⟨Bm, 0, none⟩ = some (.map (some mb))) (hown : w.ownsMap Tryz.prog 9 rdV mb N D0) :
    Calls Tryz.prog 38 #[.func (.func 71) #[] #[.pointer (some ⟨Bm, 0, none⟩)], .func (.func 40) #[] #[]] w fun e W' => (∃ v, e = .returned v ∧ W'.ownsRow w.heap.size 74 2 v vl.length (rowV vl)) ∧ Below w.heap.size w W' := by
  have HC := Lib.hid (collect_vars Bm mb N D0 vl hris hrep hN w hBm hm hown)
  have HS : Hid (∀ (v : Value) (xs : Vl) (X : World), X.ownsRow w.heap.size 74 2 v xs.length (rowV xs) → xs.Perm vl → Calls Tryz.prog 70 #[v, .func (.func 40) #[] #[]] X fun e w' => e = .returned (.tuple #[]) ∧ w'.ownsRow w.heap.size 74 2 v vl.length (rowV vl) ∧ Below w.heap.size X w') := Lib.hid (fun v xs X h1 h2 => sort_vars w.heap.size v xs vl X h1 h2 hris hl)
  clear hris hrep hBm hm hown
  go_enter Tryz.func38, Tryz.ntmps38
  go_wp2_with fail
  refine HC.out.mono ?_
  rintro e w1 ⟨⟨v, xs, rfl, hp, ho⟩, hb1⟩
  obtain ⟨va, vc, rfl⟩ := own_shapeA ho
  have HB1 := Lib.hid hb1
  have HSX := Lib.hid (HS.out _ xs w1 ho hp)
  clear hb1 ho hp
  go_wp2_with fail
  refine HSX.out.mono ?_
  rintro e w2 ⟨rfl, ho2, hb2⟩
  have HB2 := Lib.hid hb2
  have HO2 := Lib.hid ho2
  clear hb2 ho2
  go_wp2_with fail
  go_ret
  exact ⟨⟨_, rfl, HO2.out⟩, HB1.out.trans HB2.out⟩
set_option maxHeartbeats 2000000 in
/-- LIST of any variables. -/
theorem list_any (vb N : Nat) (mo : Option Nat) (l : Vl) (w : World) (hv : VarsAt w vb mo N l) (hN : N ≤ 1000000) (hl : l.length ≤ 1000000) : Calls Tryz.prog 11 #[.pointer (some ⟨vb, 0, none⟩)] w fun e w' => (∃ v, e = .returned v ∧ VS w' v l) ∧ Below w.heap.size w w' := by
  cases mo with
  | none =>
    obtain rfl := hv.none rfl
    refine (list_new vb w hv.blk).mono ?_
    rintro e w' ⟨rfl, hb⟩
    exact ⟨⟨_, rfl, Or.inl ⟨rfl, _, _, rfl⟩⟩, hb⟩
  | some mb =>
    obtain ⟨D, hown, hrep⟩ := hv.own mb rfl
    have HV := Lib.hid values_any
    obtain ⟨W0, hW0⟩ : ∃ W0, W0 = w.alloc (.cells #[.map (some mb)] 79) := ⟨_, rfl⟩
    have hs0 : W0.heap.size = w.heap.size + 1 := by rw [hW0]; simp
    have hb0 : Below w.heap.size w W0 := by rw [hW0]; exact (Below.refl _ _).alloc (Nat.le_refl _) _
    have HS : Hid (Calls Tryz.prog 38 #[.func (.func 71) #[] #[.pointer (some ⟨w.heap.size, 0, none⟩)], .func (.func 40) #[] #[]] W0 fun e W' => (∃ v, e = .returned v ∧ W'.ownsRow W0.heap.size 74 2 v l.length (rowV l)) ∧ Below W0.heap.size W0 W') :=
      Lib.hid (sorted_vars w.heap.size mb N D l hv.ris hrep hN hl W0 (by omega) (by rw [hW0]; exact (cells1A (last_A w _)).1) (own_same hown (hb0.block mb hown.lt)))
    obtain ⟨c0, _, hz⟩ := cells1A hv.blk
    have HW0 := Lib.hid hW0
    have HB0 := Lib.hid hb0
    clear hv hown hrep hW0 hb0 hs0
    go_enter Tryz.func11, Tryz.ntmps11
    go_wp2_with fail
    refine (HV.out _ _).mono ?_
    rintro e w1 ⟨rfl, rfl⟩
    go_wp2_with fail
    rw [← HW0.out]
    refine HS.out.mono ?_
    rintro e w2 ⟨⟨v, rfl, ho⟩, hb2⟩
    obtain ⟨va, vc, rfl⟩ := own_shapeA ho
    have HB2 := Lib.hid hb2
    have HO := Lib.hid ho
    clear hb2 ho
    go_wp2_with fail
    go_ret
    exact ⟨⟨_, rfl, VS.of_own HO.out⟩, HB0.out.trans (HB2.out.mono HB0.out.size)⟩
set_option maxHeartbeats 2000000 in
/-- A COPY of variables keeps to itself: blocks of its own. -/
theorem copy_any (vb N : Nat) (mo : Option Nat) (l : Vl) (w : World) (hv : VarsAt w vb mo N l) : Calls Tryz.prog 12 #[.pointer (some ⟨vb, 0, none⟩)] w fun e w' => (∃ cb mo', e = .returned (.pointer (some ⟨cb, 0, none⟩)) ∧ w.heap.size ≤ cb ∧ (∀ mb, mo' = some mb → w.heap.size ≤ mb) ∧ VarsAt w' cb mo' N l) ∧ Below w.heap.size w w' := by
  have HV := Lib.hid hv
  obtain ⟨c0, _, hz⟩ := cells1A hv.blk
  clear hv
  cases mo with
  | none =>
    have HC := Lib.hid (show Calls Tryz.prog 42 #[.map none] w _ from Go.Proofs.AnyW.maps_Clone_nil Tryz.lclone w)
    go_enter Tryz.func12, Tryz.ntmps12
    go_wp2_with fail
    refine HC.out.mono ?_
    rintro e w1 ⟨rfl, rfl⟩
    go_wp2_with fail
    go_ret
    exact ⟨⟨_, none, rfl, Nat.le_refl _, fun _ e => (by cases e), last_A _ _, HV.out.ris, HV.out.none, fun _ e => (by cases e)⟩, (Below.refl _ _).alloc (Nat.le_refl _) _⟩
  | some mb =>
    obtain ⟨D, hown, hrep⟩ := HV.out.own mb rfl
    have HC := Lib.hid (show Calls Tryz.prog 42 #[.map (some mb)] w _ from Go.Proofs.AnyW.maps_Clone_owns Tryz.lclone 9 rdV mb N D w hown)
    have HR := Lib.hid hrep
    clear hown hrep
    go_enter Tryz.func12, Tryz.ntmps12
    go_wp2_with fail
    refine HC.out.mono ?_
    rintro e w1 ⟨rfl, hc, _, hb1⟩
    have HB1 := Lib.hid hb1
    have HO := Lib.hid hc
    clear hc hb1
    go_wp2_with fail
    go_ret
    have hsz := HB1.out.size
    refine ⟨⟨_, some w.heap.size, rfl, hsz, fun mb e => (by rw [← Option.some.inj e]; exact Nat.le_refl _), last_A _ _, HV.out.ris, fun e => (by cases e), fun mb' e => ?_⟩, HB1.out.trans ((Below.refl _ _).alloc hsz _)⟩
    obtain rfl := Option.some.inj e
    exact ⟨D, own_same HO.out (Below.heap_alloc _ _ _ HO.out.lt), HR.out⟩
end Go.Proofs.YthpmkpnndbjflaaGreatDoor
