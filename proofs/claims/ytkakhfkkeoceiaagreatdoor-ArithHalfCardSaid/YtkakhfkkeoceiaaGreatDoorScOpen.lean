import Derived.Test.YtkakhfkkeoceiaaGreatDoorKDg
import Derived.ChangeSlices
import Derived.ProofKit
import Derived.Deep.Slices
import Derived.Below
import Derived.SizedLaws
namespace Go.Proofs.YtkakhfkkeoceiaaGreatDoor
set_option maxRecDepth 100000
open Go.RowKit
theorem byte_wf {n : Int} (h : (Lit.int .u8 n).wf = true) : 0 ≤ n ∧ n ≤ 255 := by
 simpa [Lit.wf, IntKind.min, IntKind.max, IntKind.signed, IntKind.bits] using h
theorem sl_of_w {H : Type} {enc : TypeId × Value → H} {W : World} {base : Nat} {v : Value} {d : DataW H} {ps : List MemPlace}
  (hk : Value.okWide Tryz.prog W .any base 39 v) (h : DataW.Trod enc Tryz.prog W 0 (fun _ => true) true 39 v d ps) :
  ∃ l, Sl W v l ∧ ∀ (ts : List TypeId) (ds : List (DataW H)) (j : Nat), (DataW.weightsEach Tryz.prog ts ds).all (· ≤ reachBytes) = true → ts[j]? = some 39 → ds[j]? = some d → l.length ≤ 140737488351232 := by
 obtain ⟨a0, len, cap, rfl⟩ := WideShapes.okWide_slice Tryz.underlying39 hk
 obtain ⟨fuel, hf⟩ := h
 by_cases hl0 : len = 0
 ·subst hl0; exact ⟨[], ⟨fun i => by simp, by simp, Or.inl ⟨rfl, a0, cap, rfl⟩⟩, fun _ _ _ _ _ _ => by simp⟩
 rcases ChangeShapes.open_ints Tryz.underlying39 Tryz.underlying5 (by kernel_rfl) hf with ⟨hcs, _⟩ | ⟨a, len', cap', zs, hcs, _, hl, hm, hzl, hx, hcell, hwf⟩
 ·simp [Value.cells] at hcs
  exact absurd hcs.2.1 hl0
 ·simp [Value.cells] at hcs
  obtain ⟨rfl, rfl, rfl⟩ := hcs
  simp only [if_true] at hzl
  obtain ⟨b, o, spot⟩ := a
  have hspot : spot = none := by simpa [Addr.add] using World.cell?_spot (hcell 0 (by omega))
  subst hspot
  have hlt : (zs.take len).length = len := by simp; omega
  have hg : ∀ i, i < len → (zs.take len).getD i 0 = zs.getD i 0 := fun i hi => by simp [List.getD, hi]
  unfold maxLen at hm
  refine ⟨zs.take len, ⟨fun i => ?_, by omega, Or.inr ⟨b, o, cap, by rw [hlt], by omega, by omega, fun i hi => ?_⟩⟩, fun ts ds j hw ht hd => ?_⟩
  ·by_cases hi : i < len
   ·rw [hg i hi]
    have : zs.getD i 0 ∈ zs := by
     rw [List.getD, List.getElem?_eq_getElem (by omega)]
     exact List.getElem_mem _
    exact byte_wf (hwf _ this)
   ·rw [List.getD, List.getElem?_eq_none (by omega)]; simp
  ·rw [hlt] at hi
   have := hcell i (by omega)
   rw [WideShapes.add_plain] at this
   rw [hg i hi]
   exact this
  ·simp only [Prod.mk.injEq] at hx
   rw [hx.1] at hd
   have h1 := sized_slice hw ht hd Tryz.underlying39
   have hb : Tryz.prog.bytesOf 5 = 1 := by kernel_rfl
   rw [hb] at h1
   unfold reachBytes at h1
   simp [ChangeShapes.lits] at h1
   rw [hlt]
   omega
theorem sl_of {H : Type} {enc : TypeId × Value → H} {W : World} {base : Nat} {v : Value} {d : DataW H} {ps : List MemPlace}
  (hk : Value.okWide Tryz.prog W .any base 39 v) (h : DataW.Trod enc Tryz.prog W 0 (fun _ => true) true 39 v d ps) : ∃ l, Sl W v l := by
 obtain ⟨l, hs, _⟩ := sl_of_w hk h
 exact ⟨l, hs⟩
end Go.Proofs.YtkakhfkkeoceiaaGreatDoor
