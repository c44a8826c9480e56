/- KVy: several texts in one (kmerge.py). -/
import Derived.Test.YthpmkpnndbjflaaGreatDoorAcLa
import Derived.Test.YthpmkpnndbjflaaGreatDoorAcRs
import Derived.Test.YthpmkpnndbjflaaGreatDoorKSn
import Derived.Test.YthpmkpnndbjflaaGreatDoorRows
/- VarsKeep: any variables that are set and unset; a copy keeps to itself. -/
namespace Go.Proofs.YthpmkpnndbjflaaGreatDoor
open Go.RowKit Go.WideMaps Go.Maps

theorem VS.shape {w : World} {v : Value} {l : Vl} (h : VS w v l) : ∃ a c, v = .slice a l.length c := by
  rcases h with ⟨rfl, x, y, h⟩ | ⟨x, y, z, h, _⟩
  · exact ⟨x, y, h⟩
  · exact ⟨_, z, h⟩
theorem same_yes (va vb : Value) (a : Vl) (w : World) (ha : VS w va a) (hb : VS w vb a) (hl : a.length ≤ 1000000) : Calls Tryz.prog 10 #[va, vb] w fun e w' => e = .returned (.bool true) ∧ Below w.heap.size w w' := by
  refine (same_vars va vb a a w ha hb hl hl).mono ?_
  rintro e w' ⟨rfl, hb⟩
  exact ⟨by rw [decide_eq_true (rfl : a = a)], hb⟩
/-- Two sets of variables, the second younger: what is done to it leaves the first. -/
theorem VarsAt.apart {X X' : World} {vb cb N : Nat} {mo co : Option Nat} {l : Vl} (h : VarsAt X vb mo N l) (hb : But (VB cb co) X X') (B : Nat) (hv : vb < B) (hm : ∀ mb, mo = some mb → mb < B) (hc : B ≤ cb) (hd : ∀ mb, co = some mb → B ≤ mb) : VarsAt X' vb mo N l := by
  refine h.but hb ?_ ?_
  · rintro (e | e)
    · omega
    · have := hd _ e.symm; omega
  · rintro mb hmb (e | e)
    · have := hm mb hmb; omega
    · have := hm mb hmb; have := hd _ e.symm; omega
theorem get_set (l : Vl) (h : l.Ris) (n v : ByteArray) : valV (setV n v l) n = v ∧ (lookV (setV n v l) n).isSome = true := by
  have e := look_set h n v n
  rw [if_pos rfl] at e
  unfold valV
  rw [e]
  exact ⟨rfl, rfl⟩
theorem get_unset (l : Vl) (h : l.Ris) (n : ByteArray) : valV (unsetV n l) n = ⟨#[]⟩ ∧ (lookV (unsetV n l) n).isSome = false := by
  have e := look_unset h n n
  rw [if_pos rfl] at e
  unfold valV
  rw [e]
  exact ⟨rfl, rfl⟩

set_option maxRecDepth 100000 in
set_option maxHeartbeats 8000000 in
theorem varskeep_any (v : Value) (LV : Vl) (nm val : ByteArray) (s : Nat → Addr) (w : World) (hv : VS w v LV) (hlen : LV.length ≤ 9223372036854775807) (hsz : ∀ x ∈ LV, x.1.size ≤ maxLen) (hn : nm.size ≤ maxLen) (hs : Er w s) (hT : TP w) :
    Calls Tryz.prog 3 #[v, .string nm, .string val] w fun e w' => e = .returned (.bool true) ∧ Below w.heap.size w w' := by
  obtain ⟨ad, ac, rfl⟩ := hv.shape
  have HLA := Lib.hid (laid_any _ LV w hv hlen hsz)
  have HN := Lib.hid hn
  have HER := Lib.hid hs
  have HTP := Lib.hid hT
  obtain ⟨M, hM⟩ : ∃ M, M = laidV (LV.take 40) := ⟨_, rfl⟩
  have HL : Hid (M.length ≤ 40) := Lib.hid (by have h1 := laidV_len (LV.take 40); have h2 := List.length_take_le 40 LV; rw [hM]; omega)
  rw [← hM] at HLA
  have tlv := tl_eq (rfl : val = val)
  clear hv hlen hsz hn hs hT hM
  go_enter Tryz.func3, Tryz.ntmps3
  go_wp2_with fail
  refine HLA.out.mono ?_
  rintro e X0 ⟨vb, mo, vm, rfl, hi⟩
  obtain ⟨va, vc, rfl⟩ := own_shapeA hi.row
  have HI := Lib.hid hi
  clear hi HLA
  go_wp2_with fail
  refine (list_any vb 40 mo M X0 HI.out.va (by omega) (by have := HL.out; omega)).mono ?_
  rintro e X1 ⟨⟨v1, rfl, hvs1⟩, hb1⟩
  obtain ⟨a1, c1, rfl⟩ := hvs1.shape
  have HI1 := Lib.hid (HI.out.below hb1)
  have HV1 := Lib.hid hvs1
  clear hvs1 hb1 HI
  go_wp2_with fail
  refine (same_yes _ _ M X1 HV1.out (VS.of_own HI1.out.row) (by have := HL.out; omega)).mono ?_
  rintro e X2 ⟨rfl, hb2⟩
  have HI2 := Lib.hid (HI1.out.below hb2)
  clear hb2 HI1 HV1
  go_wp2_with fail
  refine (copy_any vb 40 mo M X2 HI2.out.va).mono ?_
  rintro e X3 ⟨⟨cb, co, rfl, hcb, hcm, hc⟩, hb3⟩
  have HI3 := Lib.hid (HI2.out.below hb3)
  have HC3 := Lib.hid hc
  have HCB := Lib.hid hcb
  have HCM := Lib.hid hcm
  have HVB : Hid (vb < X2.heap.size) := Lib.hid HI2.out.va.lt
  have HMB : Hid (∀ mb, mo = some mb → mb < X2.heap.size) := Lib.hid (fun mb e => HI2.out.va.ltm e)
  have HW2 : Hid (w.heap.size ≤ X2.heap.size) := Lib.hid HI2.out.bel.size
  clear hb3 hc hcb hcm HI2
  go_wp2_with fail
  refine (set_any cb 40 co M nm val X3 HC3.out (by decide) HN.out).mono ?_
  rintro e X4 ⟨rfl, ⟨co4, hco4, hc4⟩, hb4⟩
  have HVA4 := Lib.hid (HI3.out.va.apart hb4 X2.heap.size HVB.out HMB.out HCB.out HCM.out)
  have HRW4 := Lib.hid (own_butV HI3.out.row HC3.out hb4)
  have HBL4 := Lib.hid (below_butV HI3.out.bel hb4 HI3.out.bel.size (Nat.le_trans HW2.out HCB.out) (fun mb e => Nat.le_trans HW2.out (HCM.out mb e)))
  have HI4 : Hid (LaI w vb mo 40 M M (.slice va M.length vc) X4) := Lib.hid ⟨HVA4.out, HRW4.out, HBL4.out, HI3.out.lo, HI3.out.lom⟩
  have HC4 := Lib.hid hc4
  have HCM4 : Hid (∀ mb, co4 = some mb → X2.heap.size ≤ mb) := Lib.hid (fun mb e => by
    rcases hco4 with rfl | ⟨_, b, hb', hlt⟩
    · exact HCM.out mb e
    · rw [hb'] at e
      obtain rfl := Option.some.inj e
      have h1 := HC3.out.lt
      have h2 := HCB.out
      omega)
  clear hco4 hc4 hb4 HVA4 HRW4 HBL4 HI3 HC3 HCM
  go_wp2_with fail
  refine (isName2_any nm X4 HN.out).mono ?_
  rintro e X5 ⟨rfl, hb5⟩
  have HI5 := Lib.hid (HI4.out.below hb5)
  have HC5 := Lib.hid (HC4.out.below hb5)
  clear hb5 HI4 HC4
  generalize hnm : nmB nm = q at *
  have hqq : (q != q) = false := by cases q <;> rfl
  have HNM := Lib.hid hnm
  clear hnm
  go_wp2_with fail
  refine (list_any vb 40 mo M X5 HI5.out.va (by omega) (by have := HL.out; omega)).mono ?_
  rintro e X6 ⟨⟨v6, rfl, hvs6⟩, hb6⟩
  obtain ⟨a6, c6, rfl⟩ := hvs6.shape
  have HI6 := Lib.hid (HI5.out.below hb6)
  have HC6 := Lib.hid (HC5.out.below hb6)
  have HV6 := Lib.hid hvs6
  clear hvs6 hb6 HI5 HC5
  go_wp2_with fail
  refine (same_yes _ _ M X6 HV6.out (VS.of_own HI6.out.row) (by have := HL.out; omega)).mono ?_
  rintro e X7 ⟨rfl, hb7⟩
  have HI7 := Lib.hid (HI6.out.below hb7)
  have HC7 := Lib.hid (HC6.out.below hb7)
  clear hb7 HI6 HC6 HV6
  go_wp2_with fail
  have hN8 := isName2_any nm X7 HN.out
  rw [HNM.out] at hN8
  refine hN8.mono ?_
  rintro e X8 ⟨rfl, hb8⟩
  clear hN8
  have HI8 := Lib.hid (HI7.out.below hb8)
  have HC8 := Lib.hid (HC7.out.below hb8)
  clear hb8 HI7 HC7
  cases q with
  | false =>
    have HIt := HI8
    clear HI8 HC8
    go_wp2_with fail
    refine (unset_any vb 40 mo M nm X8 HIt.out.va HN.out).mono ?_
    rintro e Y1 ⟨rfl, hu, hbu⟩
    have HROW1 := Lib.hid (own_butV HIt.out.row HIt.out.va hbu)
    have HBE1 := Lib.hid (below_butV HIt.out.bel hbu HIt.out.bel.size HIt.out.lo HIt.out.lom)
    have HU1 := Lib.hid hu
    have HRI := Lib.hid HIt.out.va.ris
    clear hu hbu HIt
    go_wp2_with fail
    have hg := get_any vb 40 mo (unsetV nm M) nm Y1 HU1.out HN.out
    rw [(get_unset M HRI.out nm).1, (get_unset M HRI.out nm).2] at hg
    refine hg.mono ?_
    rintro e Y2 ⟨rfl, hb⟩
    clear hg
    have HU2 := Lib.hid (HU1.out.below hb)
    have HROW2 := Lib.hid (own_belowV HROW1.out hb)
    have HBE2 := Lib.hid (HBE1.out.trans (hb.mono HBE1.out.size))
    clear hb HU1 HROW1 HBE1
    go_wp2_with fail
    refine (list_any vb 40 mo (unsetV nm M) Y2 HU2.out (by omega) (by have := HL.out; have := unsetV_len nm M; omega)).mono ?_
    rintro e Y3 ⟨⟨v3, rfl, hv3⟩, hb⟩
    obtain ⟨a3, c3, rfl⟩ := hv3.shape
    have HROW3 := Lib.hid (own_belowV HROW2.out hb)
    have HBE3 := Lib.hid (HBE2.out.trans (hb.mono HBE2.out.size))
    have HV3 := Lib.hid hv3
    clear hv3 hb HU2 HROW2 HBE2
    go_wp2_with fail
    refine (ref_unset _ M nm Y3 (VS.of_own HROW3.out) (by have := HL.out; omega)).mono ?_
    rintro e Y4 ⟨v4, rfl, ho4, hb⟩
    obtain ⟨a4, c4, rfl⟩ := own_shapeA ho4
    have HV4 := Lib.hid (HV3.out.below hb)
    have HO4 := Lib.hid ho4
    have HBE4 := Lib.hid (HBE3.out.trans (hb.mono HBE3.out.size))
    clear ho4 hb HV3 HROW3 HBE3
    go_wp2_with fail
    refine (same_yes _ _ (unsetV nm M) Y4 HV4.out (VS.of_own HO4.out) (by have := HL.out; have := unsetV_len nm M; omega)).mono ?_
    rintro e Y5 ⟨rfl, hb⟩
    have HBE5 := Lib.hid (HBE4.out.trans (hb.mono HBE4.out.size))
    clear hb HV4 HO4 HBE4
    go_wp2_with fail
    refine (awake4_any s Y5 (HER.out.below HBE5.out) (HTP.out.below HBE5.out)).mono ?_
    rintro e Y6 ⟨rfl, hb⟩
    have HBE6 := Lib.hid (HBE5.out.trans (hb.mono HBE5.out.size))
    clear hb HBE5
    go_wp2_with fail
    go_ret
    exact ⟨rfl, HBE6.out⟩
  | true =>
    have HC9 : Hid (VarsAt X8 cb co4 41 (setV nm val M)) := HC8
    clear HC8
    have HLS : Hid ((setV nm val M).length ≤ 41) := Lib.hid (by have := HL.out; have := setV_len nm val M false; unfold setV; omega)
    go_wp2_with fail
    refine (list_any cb 41 co4 (setV nm val M) X8 HC9.out (by omega) (by have := HLS.out; omega)).mono ?_
    rintro e X9 ⟨⟨v9, rfl, hvs9⟩, hb9⟩
    obtain ⟨a9, c9, rfl⟩ := hvs9.shape
    have HI9 := Lib.hid (HI8.out.below hb9)
    have HCa := Lib.hid (HC9.out.below hb9)
    have HV9 := Lib.hid hvs9
    clear hvs9 hb9 HI8 HC9
    go_wp2_with fail
    refine (ref_set _ M nm val X9 (VS.of_own HI9.out.row) (by have := HL.out; omega)).mono ?_
    rintro e Xa ⟨va', rfl, hoa, hba⟩
    obtain ⟨aa, ca, rfl⟩ := own_shapeA hoa
    have HIa := Lib.hid (HI9.out.below hba)
    have HCb := Lib.hid (HCa.out.below hba)
    have HVa := Lib.hid (HV9.out.below hba)
    have HOa := Lib.hid hoa
    clear hoa hba HI9 HCa HV9
    go_wp2_with fail
    refine (same_yes _ _ (setV nm val M) Xa HVa.out (VS.of_own HOa.out) (by have := HLS.out; omega)).mono ?_
    rintro e Xb ⟨rfl, hbb⟩
    have HIb := Lib.hid (HIa.out.below hbb)
    have HCc := Lib.hid (HCb.out.below hbb)
    clear hbb HIa HCb HVa HOa
    go_wp2_with fail
    have hg0 := get_any cb 41 co4 (setV nm val M) nm Xb HCc.out HN.out
    rw [(get_set M HIb.out.va.ris nm val).1, (get_set M HIb.out.va.ris nm val).2] at hg0
    refine hg0.mono ?_
    rintro e Xc ⟨rfl, hbc⟩
    have HIt := Lib.hid (HIb.out.below hbc)
    clear hg0 hbc HIb HCc
    go_wp2_with fail
    refine (unset_any vb 40 mo M nm Xc HIt.out.va HN.out).mono ?_
    rintro e Y1 ⟨rfl, hu, hbu⟩
    have HROW1 := Lib.hid (own_butV HIt.out.row HIt.out.va hbu)
    have HBE1 := Lib.hid (below_butV HIt.out.bel hbu HIt.out.bel.size HIt.out.lo HIt.out.lom)
    have HU1 := Lib.hid hu
    have HRI := Lib.hid HIt.out.va.ris
    clear hu hbu HIt
    go_wp2_with fail
    have hg := get_any vb 40 mo (unsetV nm M) nm Y1 HU1.out HN.out
    rw [(get_unset M HRI.out nm).1, (get_unset M HRI.out nm).2] at hg
    refine hg.mono ?_
    rintro e Y2 ⟨rfl, hb⟩
    clear hg
    have HU2 := Lib.hid (HU1.out.below hb)
    have HROW2 := Lib.hid (own_belowV HROW1.out hb)
    have HBE2 := Lib.hid (HBE1.out.trans (hb.mono HBE1.out.size))
    clear hb HU1 HROW1 HBE1
    go_wp2_with fail
    refine (list_any vb 40 mo (unsetV nm M) Y2 HU2.out (by omega) (by have := HL.out; have := unsetV_len nm M; omega)).mono ?_
    rintro e Y3 ⟨⟨v3, rfl, hv3⟩, hb⟩
    obtain ⟨a3, c3, rfl⟩ := hv3.shape
    have HROW3 := Lib.hid (own_belowV HROW2.out hb)
    have HBE3 := Lib.hid (HBE2.out.trans (hb.mono HBE2.out.size))
    have HV3 := Lib.hid hv3
    clear hv3 hb HU2 HROW2 HBE2
    go_wp2_with fail
    refine (ref_unset _ M nm Y3 (VS.of_own HROW3.out) (by have := HL.out; omega)).mono ?_
    rintro e Y4 ⟨v4, rfl, ho4, hb⟩
    obtain ⟨a4, c4, rfl⟩ := own_shapeA ho4
    have HV4 := Lib.hid (HV3.out.below hb)
    have HO4 := Lib.hid ho4
    have HBE4 := Lib.hid (HBE3.out.trans (hb.mono HBE3.out.size))
    clear ho4 hb HV3 HROW3 HBE3
    go_wp2_with fail
    refine (same_yes _ _ (unsetV nm M) Y4 HV4.out (VS.of_own HO4.out) (by have := HL.out; have := unsetV_len nm M; omega)).mono ?_
    rintro e Y5 ⟨rfl, hb⟩
    have HBE5 := Lib.hid (HBE4.out.trans (hb.mono HBE4.out.size))
    clear hb HV4 HO4 HBE4
    go_wp2_with fail
    refine (awake4_any s Y5 (HER.out.below HBE5.out) (HTP.out.below HBE5.out)).mono ?_
    rintro e Y6 ⟨rfl, hb⟩
    have HBE6 := Lib.hid (HBE5.out.trans (hb.mono HBE5.out.size))
    clear hb HBE5
    go_wp2_with fail
    go_ret
    exact ⟨rfl, HBE6.out⟩
end Go.Proofs.YthpmkpnndbjflaaGreatDoor
/- VarsKeep, opened: a slice of variables that came in. -/
namespace Go.Proofs.YthpmkpnndbjflaaGreatDoor
open Go.RowKit

set_option maxRecDepth 100000 in
/-- A slice of variables that came in, as the walks want it. -/
theorem vars_of {H : Type} {enc : TypeId × Value → H} {W : World} {base : Nat} {v : Value} {d : DataW H} {ps : List MemPlace}
    (hk : Value.okWide Tryz.prog W .any base 22 v) (h : DataW.Trod enc Tryz.prog W 0 (fun _ => true) true 22 v d ps) : ∃ l : Vl, VS W v l ∧ l.length ≤ maxLen ∧ ∀ x ∈ l, x.1.size ≤ maxLen ∧ x.2.size ≤ maxLen := by
  obtain ⟨a0, len, cap, rfl⟩ := WideShapes.okWide_slice Tryz.underlying22 hk
  obtain ⟨fuel, hf⟩ := h
  by_cases hl0 : len = 0
  · subst hl0; exact ⟨[], Or.inl ⟨rfl, a0, cap, rfl⟩, Nat.zero_le _, fun x hx => (by cases hx)⟩
  rcases Deep.open_slice Tryz.underlying22 hf with ⟨hcs, hx⟩ | ⟨a, len', cap', m, n, D, Pl, hcs, hb, hl, hm, hmm, hx, hi⟩
  · simp [Value.cells] at hcs
    exact absurd hcs.2.1 hl0
  · simp [Value.cells] at hcs
    obtain ⟨rfl, rfl, rfl⟩ := hcs
    simp only [if_true] at hmm
    have hC : Tryz.prog.cellsOf 74 = 2 := by kernel_rfl
    rw [hC] at hi
    have hel : ∀ i, i < len → ∃ x : ByteArray × ByteArray, W.cell? (a.add (i * 2)) = some (.string x.1) ∧ W.cell? (a.add (i * 2 + 1)) = some (.string x.2) ∧ x.1.size ≤ maxLen ∧ x.2.size ≤ maxLen := by
      intro i him
      obtain ⟨cs', hc, ht⟩ := hi i (by omega)
      obtain ⟨_, hlen, hat⟩ := World.cells?_some hc
      obtain ⟨xs, n', _, hy, hcl, hxl, hg⟩ := DataW.trod_struct Tryz.underlying74 ht
      match cs', hlen with
      | [c0, c1], _ =>
        match xs, hxl with
        | [y0, y1], _ =>
          have o0 : Tryz.prog.cellsOf 9 = 1 := by kernel_rfl
          have g0 : DataW.trod enc Tryz.prog W 0 (fun _ => true) true n' 9 (([c0, c1].drop 0).take (Tryz.prog.cellsOf 9)) = some y0 := hg 0 _ rfl
          have g1 : DataW.trod enc Tryz.prog W 0 (fun _ => true) true n' 9 (([c0, c1].drop 1).take (Tryz.prog.cellsOf 9)) = some y1 := hg 1 _ rfl
          rw [o0] at g0 g1
          simp only [List.drop_zero, List.take_succ_cons, List.take_zero, List.drop_succ_cons] at g0 g1
          obtain ⟨sv, hsv, _, hz0⟩ := DataW.trod_string Tryz.underlying9 g0
          obtain ⟨tv, htv, _, hz1⟩ := DataW.trod_string Tryz.underlying9 g1
          simp only [List.cons.injEq, and_true] at hsv htv
          subst hsv htv
          have c0' := hat 0 (by omega)
          have c1' := hat 1 (by omega)
          simp only [List.getElem?_cons_zero, List.getElem?_cons_succ] at c0' c1'
          rw [Deep.add_add] at c0' c1'
          exact ⟨(sv, tv), c0', c1', hz0, hz1⟩
    obtain ⟨ws, hws⟩ := Deep.choose_lt hel
    obtain ⟨b, off, spot⟩ := a
    have hspot : spot = none := by simpa [Addr.add] using World.cell?_spot (hws 0 (by omega)).1
    subst hspot
    have hw : ∀ (j : Nat) (p : ByteArray × ByteArray), ((List.range len).map ws)[j]? = some p → j < len ∧ ws j = p := by
      intro j p hj
      rw [List.getElem?_map] at hj
      obtain ⟨i, h1, h2⟩ := Option.map_eq_some_iff.1 hj
      have h3 := List.getElem?_eq_some_iff.1 h1
      obtain ⟨h4, h5⟩ := h3
      rw [List.getElem_range] at h5
      subst h5
      exact ⟨by simpa using h4, h2⟩
    refine ⟨(List.range len).map ws, Or.inr ⟨b, off, cap, by simp, ?_, fun j p hj => ?_⟩, by simp only [List.length_map, List.length_range]; omega, fun x hx => ?_⟩
    · have h0 := (hws 0 (by omega)).1
      exact cell_ltA (by simpa [WideShapes.add_plain] using h0)
    · obtain ⟨hj1, rfl⟩ := hw j p hj
      obtain ⟨h1, h2, _⟩ := hws j hj1
      rw [WideShapes.add_plain] at h1 h2
      rw [Nat.add_assoc]
      exact ⟨h1, h2⟩
    · obtain ⟨i, hi1, rfl⟩ := List.mem_map.1 hx
      exact (hws i (by simpa using hi1)).2.2

set_option maxRecDepth 100000 in
theorem varsKeep_open {H : Type} {enc : TypeId × Value → H} {d0 d1 d2 : DataW H} {p0 p1 p2 : List MemPlace} {q : Prop} (W : World) (base : Nat) (v0 v1 v2 : Value)
    (h0 : DataW.Trod enc Tryz.prog W 0 (fun _ => true) true 22 v0 d0 p0) (h1 : DataW.Trod enc Tryz.prog W 0 (fun _ => true) true 9 v1 d1 p1) (h2 : DataW.Trod enc Tryz.prog W 0 (fun _ => true) true 9 v2 d2 p2)
    (k0 : Value.okWide Tryz.prog W .any base 22 v0) (k1 : Value.okWide Tryz.prog W .any base 9 v1) (k2 : Value.okWide Tryz.prog W .any base 9 v2) (_ : q)
    (hL : laidMetH Tryz.prog Rows.varsKeepRow.laid W) :
    Calls Tryz.prog 3 #[v0, v1, v2] W fun e W' => e = .returned (.bool true) ∧ Below W.heap.size W W' := by
  obtain ⟨nm, rfl, rfl, _, hz⟩ := Go.ChangeMaps.open_string Tryz.underlying9 k1 h1
  obtain ⟨val, rfl, rfl, _, _⟩ := Go.ChangeMaps.open_string Tryz.underlying9 k2 h2
  obtain ⟨l, hl, hlen, hsz⟩ := vars_of k0 h0
  obtain ⟨sn, hs, hT⟩ := ac_er (by kernel_rfl) ⟨("math/bits.deBruijn32tab", Rows.laid_math_bits_deBruijn32tab), ("math/bits.deBruijn64tab", Rows.laid_math_bits_deBruijn64tab), by kernel_rfl⟩ hL
  exact varskeep_any v0 l nm val sn W hl (by unfold maxLen at hlen; omega) (fun x hx => (hsz x hx).1) hz hs hT
end Go.Proofs.YthpmkpnndbjflaaGreatDoor
