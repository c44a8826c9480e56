/- KO: several texts in one (kmerge.py). -/
import Derived.Test.YthpmkpnndbjflaaGreatDoorKVa
import Derived.Test.YthpmkpnndbjflaaGreatDoorKSn
import Derived.Test.YthpmkpnndbjflaaGreatDoorKDg
import Derived.ChangeSlices
import Derived.ProofKit
import Derived.Deep.Slices
import Derived.Below
import Derived.SizedLaws
import Derived.Test.YthpmkpnndbjflaaGreatDoorAcLwX
/- A slice of variables that came in. -/
namespace Go.Proofs.YthpmkpnndbjflaaGreatDoor
open Go.RowKit

set_option maxRecDepth 100000 in
/-- A slice of variables that came in, as the walks want it. -/
theorem vars_of {H : Type} {enc : TypeId × Value → H} {W : World} {base : Nat} {v : Value} {d : DataW H} {ps : List MemPlace}
    (hk : Value.okWide Tryz.prog W .any base 22 v) (h : DataW.Trod enc Tryz.prog W 0 (fun _ => true) true 22 v d ps) : ∃ l : Vl, VS W v l ∧ l.length ≤ maxLen ∧ ∀ x ∈ l, x.1.size ≤ maxLen ∧ x.2.size ≤ maxLen := by
  obtain ⟨a0, len, cap, rfl⟩ := WideShapes.okWide_slice Tryz.underlying22 hk
  obtain ⟨fuel, hf⟩ := h
  by_cases hl0 : len = 0
  · subst hl0; exact ⟨[], Or.inl ⟨rfl, a0, cap, rfl⟩, Nat.zero_le _, fun x hx => (by cases hx)⟩
  rcases Deep.open_slice Tryz.underlying22 hf with ⟨hcs, hx⟩ | ⟨a, len', cap', m, n, D, Pl, hcs, hb, hl, hm, hmm, hx, hi⟩
  · simp [Value.cells] at hcs
    exact absurd hcs.2.1 hl0
  · simp [Value.cells] at hcs
    obtain ⟨rfl, rfl, rfl⟩ := hcs
    simp only [if_true] at hmm
    have hC : Tryz.prog.cellsOf 74 = 2 := by kernel_rfl
    rw [hC] at hi
    have hel : ∀ i, i < len → ∃ x : ByteArray × ByteArray, W.cell? (a.add (i * 2)) = some (.string x.1) ∧ W.cell? (a.add (i * 2 + 1)) = some (.string x.2) ∧ x.1.size ≤ maxLen ∧ x.2.size ≤ maxLen := by
      intro i him
      obtain ⟨cs', hc, ht⟩ := hi i (by omega)
      obtain ⟨_, hlen, hat⟩ := World.cells?_some hc
      obtain ⟨xs, n', _, hy, hcl, hxl, hg⟩ := DataW.trod_struct Tryz.underlying74 ht
      match cs', hlen with
      | [c0, c1], _ =>
        match xs, hxl with
        | [y0, y1], _ =>
          have o0 : Tryz.prog.cellsOf 9 = 1 := by kernel_rfl
          have g0 : DataW.trod enc Tryz.prog W 0 (fun _ => true) true n' 9 (([c0, c1].drop 0).take (Tryz.prog.cellsOf 9)) = some y0 := hg 0 _ rfl
          have g1 : DataW.trod enc Tryz.prog W 0 (fun _ => true) true n' 9 (([c0, c1].drop 1).take (Tryz.prog.cellsOf 9)) = some y1 := hg 1 _ rfl
          rw [o0] at g0 g1
          simp only [List.drop_zero, List.take_succ_cons, List.take_zero, List.drop_succ_cons] at g0 g1
          obtain ⟨sv, hsv, _, hz0⟩ := DataW.trod_string Tryz.underlying9 g0
          obtain ⟨tv, htv, _, hz1⟩ := DataW.trod_string Tryz.underlying9 g1
          simp only [List.cons.injEq, and_true] at hsv htv
          subst hsv htv
          have c0' := hat 0 (by omega)
          have c1' := hat 1 (by omega)
          simp only [List.getElem?_cons_zero, List.getElem?_cons_succ] at c0' c1'
          rw [Deep.add_add] at c0' c1'
          exact ⟨(sv, tv), c0', c1', hz0, hz1⟩
    obtain ⟨ws, hws⟩ := Deep.choose_lt hel
    obtain ⟨b, off, spot⟩ := a
    have hspot : spot = none := by simpa [Addr.add] using World.cell?_spot (hws 0 (by omega)).1
    subst hspot
    have hw : ∀ (j : Nat) (p : ByteArray × ByteArray), ((List.range len).map ws)[j]? = some p → j < len ∧ ws j = p := by
      intro j p hj
      rw [List.getElem?_map] at hj
      obtain ⟨i, h1, h2⟩ := Option.map_eq_some_iff.1 hj
      have h3 := List.getElem?_eq_some_iff.1 h1
      obtain ⟨h4, h5⟩ := h3
      rw [List.getElem_range] at h5
      subst h5
      exact ⟨by simpa using h4, h2⟩
    refine ⟨(List.range len).map ws, Or.inr ⟨b, off, cap, by simp, ?_, fun j p hj => ?_⟩, by simp only [List.length_map, List.length_range]; omega, fun x hx => ?_⟩
    · have h0 := (hws 0 (by omega)).1
      exact cell_ltA (by simpa [WideShapes.add_plain] using h0)
    · obtain ⟨hj1, rfl⟩ := hw j p hj
      obtain ⟨h1, h2, _⟩ := hws j hj1
      rw [WideShapes.add_plain] at h1 h2
      rw [Nat.add_assoc]
      exact ⟨h1, h2⟩
    · obtain ⟨i, hi1, rfl⟩ := List.mem_map.1 hx
      exact (hws i (by simpa using hi1)).2.2
end Go.Proofs.YthpmkpnndbjflaaGreatDoor
/- What comes in, opened: slices of bytes, strings. -/
namespace Go.Proofs.YthpmkpnndbjflaaGreatDoor
open Go.RowKit

theorem byte_wf {n : Int} (h : (Lit.int .u8 n).wf = true) : 0 ≤ n ∧ n ≤ 255 := by
  simpa [Lit.wf, IntKind.min, IntKind.max, IntKind.signed, IntKind.bits] using h

set_option maxRecDepth 100000 in
theorem sl_of_w {H : Type} {enc : TypeId × Value → H} {W : World} {base : Nat} {v : Value} {d : DataW H} {ps : List MemPlace}
    (hk : Value.okWide Tryz.prog W .any base 39 v) (h : DataW.Trod enc Tryz.prog W 0 (fun _ => true) true 39 v d ps) :
    ∃ l, Sl W v l ∧ ∀ (ts : List TypeId) (ds : List (DataW H)) (j : Nat), (DataW.weightsEach Tryz.prog ts ds).all (· ≤ reachBytes) = true → ts[j]? = some 39 → ds[j]? = some d → l.length ≤ 140737488351232 := by
  obtain ⟨a0, len, cap, rfl⟩ := WideShapes.okWide_slice Tryz.underlying39 hk
  obtain ⟨fuel, hf⟩ := h
  by_cases hl0 : len = 0
  · subst hl0; exact ⟨[], ⟨fun i => by simp, by simp, Or.inl ⟨rfl, a0, cap, rfl⟩⟩, fun _ _ _ _ _ _ => by simp⟩
  rcases ChangeShapes.open_ints Tryz.underlying39 Tryz.underlying5 (by kernel_rfl) hf with ⟨hcs, _⟩ | ⟨a, len', cap', zs, hcs, _, hl, hm, hzl, hx, hcell, hwf⟩
  · simp [Value.cells] at hcs
    exact absurd hcs.2.1 hl0
  · simp [Value.cells] at hcs
    obtain ⟨rfl, rfl, rfl⟩ := hcs
    simp only [if_true] at hzl
    obtain ⟨b, o, spot⟩ := a
    have hspot : spot = none := by simpa [Addr.add] using World.cell?_spot (hcell 0 (by omega))
    subst hspot
    have hlt : (zs.take len).length = len := by simp; omega
    have hg : ∀ i, i < len → (zs.take len).getD i 0 = zs.getD i 0 := fun i hi => by simp [List.getD, hi]
    unfold maxLen at hm
    refine ⟨zs.take len, ⟨fun i => ?_, by omega, Or.inr ⟨b, o, cap, by rw [hlt], by omega, by omega, fun i hi => ?_⟩⟩, fun ts ds j hw ht hd => ?_⟩
    · by_cases hi : i < len
      · rw [hg i hi]
        have : zs.getD i 0 ∈ zs := by
          rw [List.getD, List.getElem?_eq_getElem (by omega)]
          exact List.getElem_mem _
        exact byte_wf (hwf _ this)
      · rw [List.getD, List.getElem?_eq_none (by omega)]; simp
    · rw [hlt] at hi
      have := hcell i (by omega)
      rw [WideShapes.add_plain] at this
      rw [hg i hi]
      exact this
    · simp only [Prod.mk.injEq] at hx
      rw [hx.1] at hd
      have h1 := sized_slice hw ht hd Tryz.underlying39
      have hb : Tryz.prog.bytesOf 5 = 1 := by kernel_rfl
      rw [hb] at h1
      unfold reachBytes at h1
      simp [ChangeShapes.lits] at h1
      rw [hlt]
      omega

set_option maxRecDepth 100000 in
theorem sl_of {H : Type} {enc : TypeId × Value → H} {W : World} {base : Nat} {v : Value} {d : DataW H} {ps : List MemPlace}
    (hk : Value.okWide Tryz.prog W .any base 39 v) (h : DataW.Trod enc Tryz.prog W 0 (fun _ => true) true 39 v d ps) : ∃ l, Sl W v l := by
  obtain ⟨l, hs, _⟩ := sl_of_w hk h
  exact ⟨l, hs⟩
end Go.Proofs.YthpmkpnndbjflaaGreatDoor
/- ArithLaws, opened. -/
namespace Go.Proofs.YthpmkpnndbjflaaGreatDoor
open Go.RowKit

set_option maxRecDepth 100000 in
theorem arithLaws_open {H : Type} {enc : TypeId × Value → H} {d0 d1 d2 : DataW H} {p0 p1 p2 : List MemPlace} {q : Prop} (W : World) (base : Nat) (v0 v1 v2 : Value)
    (h0 : DataW.Trod enc Tryz.prog W 0 (fun _ => true) true 39 v0 d0 p0) (h1 : DataW.Trod enc Tryz.prog W 0 (fun _ => true) true 39 v1 d1 p1) (h2 : DataW.Trod enc Tryz.prog W 0 (fun _ => true) true 22 v2 d2 p2)
    (k0 : Value.okWide Tryz.prog W .any base 39 v0) (k1 : Value.okWide Tryz.prog W .any base 39 v1) (k2 : Value.okWide Tryz.prog W .any base 22 v2) (_ : q)
    (hL : laidMetH Tryz.prog Rows.arithLawsRow.laid W) :
    Calls Tryz.prog 6 #[v0, v1, v2] W fun e W' => e = .returned (.bool true) ∧ Below W.heap.size W W' := by
  obtain ⟨a, ha⟩ := sl_of k0 h0
  obtain ⟨b, hb⟩ := sl_of k1 h1
  obtain ⟨l, hl, hlen, hsz⟩ := vars_of k2 h2
  obtain ⟨sn, hs, hT⟩ := ac_er (by kernel_rfl) ⟨("math/bits.deBruijn32tab", Rows.laid_math_bits_deBruijn32tab), ("math/bits.deBruijn64tab", Rows.laid_math_bits_deBruijn64tab), by kernel_rfl⟩ hL
  exact laws_any v0 v1 v2 a b l sn W ha hb hl (by unfold maxLen at hlen; omega) hsz hs hT
end Go.Proofs.YthpmkpnndbjflaaGreatDoor
