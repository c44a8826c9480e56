/- KNo: several texts in one (kmerge.py). -/
import Derived.Test.YtcceiblmdjbhjaaGreatDoorScOpen
import Derived.Test.YtcceiblmdjbhjaaGreatDoorRows
import Derived.Test.YtcceiblmdjbhjaaGreatDoorKGg
import Derived.Test.YtcceiblmdjbhjaaGreatDoorKFs
/- What comes in is no longer than its bulk. -/
namespace Go.Proofs.YtcceiblmdjbhjaaGreatDoor
open Go.RowKit

theorem bulk_one {H : Type} (d : DataW H) : 1 ≤ Rows.uptoBulk d := by
  cases d with
  | lit l => cases l <;> simp [Rows.uptoBulk]
  | nil => simp [Rows.uptoBulk]
  | ptr d => simp [Rows.uptoBulk]
  | slice elems spare => simp [Rows.uptoBulk]
  | agg parts => simp [Rows.uptoBulk]
  | iface t d => simp [Rows.uptoBulk]
  | map entries => simp [Rows.uptoBulk]
  | held h => simp [Rows.uptoBulk]
theorem bulk_len {H : Type} (l : List (DataW H)) : l.length ≤ Rows.uptoBulkAll l := by
  induction l with
  | nil => simp [Rows.uptoBulkAll]
  | cons x r ih => have := bulk_one x; simp only [Rows.uptoBulkAll, List.length_cons]; omega
theorem bulk_slice {H : Type} (elems spare : List (DataW H)) : elems.length ≤ Rows.uptoBulk (.slice elems spare) := by
  have h1 := bulk_len elems
  simp only [Rows.uptoBulk]
  omega

set_option maxRecDepth 100000 in
/-- A slice of bytes that came in: no longer than its bulk. -/
theorem sl_of_b {H : Type} {enc : TypeId × Value → H} {W : World} {base : Nat} {v : Value} {d : DataW H} {ps : List MemPlace}
    (hk : Value.okWide Tryz.prog W .any base 22 v) (h : DataW.Trod enc Tryz.prog W 0 (fun _ => true) true 22 v d ps) :
    ∃ l, Sl W v l ∧ l.length ≤ Rows.uptoBulk d := by
  obtain ⟨a0, len, cap, rfl⟩ := WideShapes.okWide_slice Tryz.underlying22 hk
  obtain ⟨fuel, hf⟩ := h
  by_cases hl0 : len = 0
  · subst hl0; exact ⟨[], ⟨fun i => by simp, by simp, Or.inl ⟨rfl, a0, cap, rfl⟩⟩, by simp⟩
  rcases ChangeShapes.open_ints Tryz.underlying22 Tryz.underlying5 (by kernel_rfl) hf with ⟨hcs, _⟩ | ⟨a, len', cap', zs, hcs, _, hl, hm, hzl, hx, hcell, hwf⟩
  · simp [Value.cells] at hcs
    exact absurd hcs.2.1 hl0
  · simp [Value.cells] at hcs
    obtain ⟨rfl, rfl, rfl⟩ := hcs
    simp only [if_true] at hzl
    obtain ⟨b, o, spot⟩ := a
    have hspot : spot = none := by simpa [Addr.add] using World.cell?_spot (hcell 0 (by omega))
    subst hspot
    have hlt : (zs.take len).length = len := by simp; omega
    have hg : ∀ i, i < len → (zs.take len).getD i 0 = zs.getD i 0 := fun i hi => by simp [List.getD, hi]
    unfold maxLen at hm
    refine ⟨zs.take len, ⟨fun i => ?_, by omega, Or.inr ⟨b, o, cap, by rw [hlt], by omega, by omega, fun i hi => ?_⟩⟩, ?_⟩
    · by_cases hi : i < len
      · rw [hg i hi]
        have : zs.getD i 0 ∈ zs := by
          rw [List.getD, List.getElem?_eq_getElem (by omega)]
          exact List.getElem_mem _
        exact byte_wf (hwf _ this)
      · rw [List.getD, List.getElem?_eq_none (by omega)]; simp
    · rw [hlt] at hi
      have := hcell i (by omega)
      rw [WideShapes.add_plain] at this
      rw [hg i hi]
      exact this
    · simp only [Prod.mk.injEq] at hx
      rw [hx.1]
      refine Nat.le_trans ?_ (bulk_slice _ _)
      simp [ChangeShapes.lits]
end Go.Proofs.YtcceiblmdjbhjaaGreatDoor
/- NfaGrammars: its walk, opened. -/
namespace Go.Proofs.YtcceiblmdjbhjaaGreatDoor
open Go.RowKit

set_option maxRecDepth 100000 in
theorem nfaGrammars_open {H : Type} {enc : TypeId × Value → H} {d0 d1 : DataW H} {p0 p1 : List MemPlace} {q : Prop} (W : World) (base : Nat) (v0 v1 : Value)
    (h0 : DataW.Trod enc Tryz.prog W 0 (fun _ => true) true 22 v0 d0 p0) (h1 : DataW.Trod enc Tryz.prog W 0 (fun _ => true) true 22 v1 d1 p1)
    (k0 : Value.okWide Tryz.prog W .any base 22 v0) (k1 : Value.okWide Tryz.prog W .any base 22 v1) (_ : q)
    (hk : Rows.uptoSmall H [d0, d1] = true) (hL : laidMetH Tryz.prog Rows.nfaGrammarsUptoRow.laid W) :
    Calls Tryz.prog 7 #[v0, v1] W fun e W' => e = .returned (.bool true) ∧ Below W.heap.size W W' := by
  obtain ⟨l, hs, hl⟩ := sl_of_b k0 h0
  obtain ⟨r, hr, hlr⟩ := sl_of_b k1 h1
  obtain ⟨s, hsn⟩ := snt_of_laid2 (by kernel_rfl) (by kernel_rfl) hL
  have hb : Rows.uptoBulkAll [d0, d1] ≤ 1048576 := of_decide_eq_true hk
  simp only [Rows.uptoBulkAll] at hb
  refine ngr_any s v0 v1 l r W ⟨hsn.var, ?_, Nat.le_refl _⟩ hsn.ety hs hr (by omega) (by omega)
  have a := World.block_lt_of_cell? _ _ (hsn.var 21 (by omega) (by omega))
  have b := World.block_lt_of_cell? _ _ hsn.ety
  simp at a b
  omega
end Go.Proofs.YtcceiblmdjbhjaaGreatDoor
