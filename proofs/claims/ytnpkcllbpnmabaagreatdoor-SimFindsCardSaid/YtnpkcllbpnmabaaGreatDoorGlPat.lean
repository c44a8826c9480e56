import Derived.Test.YtnpkcllbpnmabaaGreatDoorKPu
import Derived.Test.YtnpkcllbpnmabaaGreatDoorKItx
import Derived.Test.YtnpkcllbpnmabaaGreatDoorKSy
import Derived.Test.YtnpkcllbpnmabaaGreatDoorKMk
import Derived.Test.YtnpkcllbpnmabaaGreatDoorKLi
import Derived.Lib.Builder
namespace Go.Proofs.YtnpkcllbpnmabaaGreatDoor
open Go.RowKit
theorem grown_set (X : World) (b i : Nat) (y : Value) : X.grownBy (X.setCell ⟨b, i, none⟩ y) (some b) :=
 ⟨rfl, rfl, rfl, by simp, fun k _ hne => Below.heap_setCell _ _ _ _ (by simpa using hne)⟩
theorem own_neK {X : World} {B : Nat} {e T : TypeId} {s : Nat} {v : Value} {n : Nat} {xs : List Value} {b : Nat} {cs : Array Value} {fr : Nat × Nat} (hown : X.ownsRow B e s v n xs) (hb : X.heap[b]? = some (.cells cs T fr)) (hT : T ≠ e) : v.ownBlock ≠ some b := by
 intro he
 rcases hown.2 with ⟨rfl, _⟩ | ⟨g, cap, cur, rfl, _, hg, _⟩
 ·cases he
 ·simp only [Value.ownBlock, Option.some.injEq] at he
  subst he
  rw [hb] at hg
  simp only [Option.some.injEq, Obj.cells.injEq] at hg
  exact hT hg.2.1
theorem own_set {X : World} {B : Nat} {e T : TypeId} {s : Nat} {v : Value} {n : Nat} {xs : List Value} {b : Nat} {cs : Array Value} {fr : Nat × Nat} (hown : X.ownsRow B e s v n xs) (hb : X.heap[b]? = some (.cells cs T fr)) (hT : T ≠ e) (i : Nat) (y : Value) :
  (X.setCell ⟨b, i, none⟩ y).ownsRow B e s v n xs := hown.kept (grown_set X b i y) (Or.inr (own_neK hown hb hT))
theorem own_drop {X : World} {B : Nat} {e : TypeId} {s : Nat} {v : Value} {n : Nat} {xs : List Value} (hown : X.ownsRow B e s v n xs) {X' : World} (hb : Below X.heap.size X X') : X'.ownsRow B e s v n xs := owns_belowS hown hb
theorem blk_alloc {X : World} {k : Nat} {o : Obj} (h : X.heap[k]? = some o) (o' : Obj) : (X.alloc o').heap[k]? = some o := (Below.heap_alloc _ _ _ (lt_blkB h)).trans h
theorem blk_below {X X' : World} {k : Nat} {o : Obj} (h : X.heap[k]? = some o) (hb : Below X.heap.size X X') : X'.heap[k]? = some o := (hb.block k (lt_blkB h)).trans h
theorem blk_grown {X X' : World} {k : Nat} {o : Obj} {r : Option Nat} (h : X.heap[k]? = some o) (hg : X.grownBy X' r) (hne : r ≠ some k) : X'.heap[k]? = some o := (hg.block k (lt_blkB h) (fun e => hne e.symm)).trans h
theorem blk_set0 {X : World} {b : Nat} {u v y : Value} {T : TypeId} (h : X.heap[b]? = some (.cells #[v, u] T (0, 0))) : (X.setCell ⟨b, 0, none⟩ y).heap[b]? = some (.cells #[y, u] T (0, 0)) := by
 show (X.heap.modify b _)[b]? = _
 rw [Array.getElem?_modify, if_pos rfl, h]
 rfl
theorem blk_set1 {X : World} {b : Nat} {u v y : Value} {T : TypeId} (h : X.heap[b]? = some (.cells #[v, u] T (0, 0))) : (X.setCell ⟨b, 1, none⟩ y).heap[b]? = some (.cells #[v, y] T (0, 0)) := by
 show (X.heap.modify b _)[b]? = _
 rw [Array.getElem?_modify, if_pos rfl, h]
 rfl
theorem cells2 {X : World} {b : Nat} {u v : Value} {T : TypeId} (h : X.heap[b]? = some (.cells #[v, u] T (0, 0))) :
  (X.cell? ⟨b, 0, none⟩ = some v ∧ X.cell? ⟨b, 1, none⟩ = some u) ∧ (X.frozen? ⟨b, 0, none⟩ = false ∧ X.frozen? ⟨b, 1, none⟩ = false) ∧ b < X.heap.size :=
 ⟨⟨by rw [Lib.cell_of_heap h]; rfl, by rw [Lib.cell_of_heap h]; rfl⟩, ⟨Lib.frozen_of_heap h 0, Lib.frozen_of_heap h 1⟩, lt_blkB h⟩
end Go.Proofs.YtnpkcllbpnmabaaGreatDoor
