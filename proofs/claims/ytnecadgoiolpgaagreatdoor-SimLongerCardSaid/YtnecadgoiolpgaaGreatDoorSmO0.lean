import Derived.Test.YtnecadgoiolpgaaGreatDoorScOpen
import Derived.Test.YtnecadgoiolpgaaGreatDoorKFs
import Derived.Test.YtnecadgoiolpgaaGreatDoorSeErr
import Derived.Test.YtnecadgoiolpgaaGreatDoorRows
namespace Go.Proofs.YtnecadgoiolpgaaGreatDoor
open Go.RowKit
set_option maxRecDepth 100000 in
theorem okw_blk {W : World} {base : Nat} {v : Value} (k0 : Value.okWide Tryz.prog W .any base 22 v) : ∀ x o n cap, v = .slice (some ⟨x, o, none⟩) n cap → x < W.heap.size := by
 intro x o n cap e
 subst e
 simp only [Value.okWide, Tryz.underlying22, Cell.okWide, Cell.ok] at k0
 obtain ⟨_, _, _, _, row, cells, hs, _⟩ := k0
 unfold World.shape? at hs
 cases h : W.heap[x]? with
 | none => simp [h] at hs
 | some o => exact (Array.getElem?_eq_some_iff.1 h).1
theorem snt_esW {W : World} {e : Nat → Addr} (h : Snt W e) : Es W W.heap.size e := ⟨h.var, by
 have a := World.block_lt_of_cell? _ _ (h.var 21 (by omega) (by omega))
 have b := World.block_lt_of_cell? _ _ h.ety
 simp at a b
 omega, Nat.le_refl _⟩
end Go.Proofs.YtnecadgoiolpgaaGreatDoor
