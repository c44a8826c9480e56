/- Rows of one's own kept while other blocks change; blocks that stay. No function of the program. -/
import Derived.Test.YthpmkpnndbjflaaGreatDoorArText
import Derived.Test.YthpmkpnndbjflaaGreatDoorKLi
import Derived.Laws.AppendOwn
import Derived.Lib.Builder
namespace Go.Proofs.YthpmkpnndbjflaaGreatDoor
open Go.RowKit

theorem lt_blkA {w : World} {g : Nat} {o : Obj} (h : w.heap[g]? = some o) : g < w.heap.size := by
  rcases Nat.lt_or_ge g w.heap.size with h' | h'
  · exact h'
  · rw [Array.getElem?_eq_none h'] at h; cases h
theorem last_A (w : World) (o : Obj) : (w.alloc o).heap[w.heap.size]? = some o := by
  show (w.heap.push _)[w.heap.size]? = _
  simp
theorem grown_setA (X : World) (b i : Nat) (y : Value) : X.grownBy (X.setCell ⟨b, i, none⟩ y) (some b) :=
  ⟨rfl, rfl, rfl, by simp, fun k _ hne => Below.heap_setCell _ _ _ _ (by simpa using hne)⟩
theorem own_neA {X : World} {B : Nat} {e T : TypeId} {s : Nat} {v : Value} {n : Nat} {xs : List Value} {b : Nat} {cs : Array Value} {fr : Nat × Nat} (hown : X.ownsRow B e s v n xs) (hb : X.heap[b]? = some (.cells cs T fr)) (hT : T ≠ e) : v.ownBlock ≠ some b := by
  intro he
  rcases hown.2 with ⟨rfl, _⟩ | ⟨g, cap, cur, rfl, _, hg, _⟩
  · cases he
  · simp only [Value.ownBlock, Option.some.injEq] at he
    subst he
    rw [hb] at hg
    simp only [Option.some.injEq, Obj.cells.injEq] at hg
    exact hT hg.2.1
theorem own_setA {X : World} {B : Nat} {e T : TypeId} {s : Nat} {v : Value} {n : Nat} {xs : List Value} {b : Nat} {cs : Array Value} {fr : Nat × Nat} (hown : X.ownsRow B e s v n xs) (hb : X.heap[b]? = some (.cells cs T fr)) (hT : T ≠ e) (i : Nat) (y : Value) :
    (X.setCell ⟨b, i, none⟩ y).ownsRow B e s v n xs := hown.kept (grown_setA X b i y) (Or.inr (own_neA hown hb hT))
theorem blk_allocA {X : World} {k : Nat} {o : Obj} (h : X.heap[k]? = some o) (o' : Obj) : (X.alloc o').heap[k]? = some o := (Below.heap_alloc _ _ _ (lt_blkA h)).trans h
theorem blk_belowA {X X' : World} {k : Nat} {o : Obj} (h : X.heap[k]? = some o) (hb : Below X.heap.size X X') : X'.heap[k]? = some o := (hb.block k (lt_blkA h)).trans h
theorem blk_grownA {X X' : World} {k : Nat} {o : Obj} {r : Option Nat} (h : X.heap[k]? = some o) (hg : X.grownBy X' r) (hne : r ≠ some k) : X'.heap[k]? = some o := (hg.block k (lt_blkA h) (fun e => hne e.symm)).trans h
theorem blk_setA {X : World} {b : Nat} {v y : Value} {T : TypeId} (h : X.heap[b]? = some (.cells #[v] T (0, 0))) : (X.setCell ⟨b, 0, none⟩ y).heap[b]? = some (.cells #[y] T (0, 0)) := by
  show (X.heap.modify b _)[b]? = _
  rw [Array.getElem?_modify, if_pos rfl, h]
  rfl
theorem cells1A {X : World} {b : Nat} {v : Value} {T : TypeId} (h : X.heap[b]? = some (.cells #[v] T (0, 0))) : X.cell? ⟨b, 0, none⟩ = some v ∧ X.frozen? ⟨b, 0, none⟩ = false ∧ b < X.heap.size :=
  ⟨by rw [Lib.cell_of_heap h]; rfl, Lib.frozen_of_heap h 0, lt_blkA h⟩
theorem cells6A {X : World} {b : Nat} {a0 a1 a2 a3 a4 a5 : Value} {T : TypeId} (h : X.heap[b]? = some (.cells #[a0, a1, a2, a3, a4, a5] T (0, 0))) :
    X.cell? ⟨b, 0, none⟩ = some a0 ∧ X.cell? ⟨b, 1, none⟩ = some a1 ∧ X.cell? ⟨b, 2, none⟩ = some a2 ∧ X.cell? ⟨b, 3, none⟩ = some a3 ∧ X.cell? ⟨b, 4, none⟩ = some a4 ∧ X.cell? ⟨b, 5, none⟩ = some a5 ∧ b < X.heap.size :=
  ⟨by rw [Lib.cell_of_heap h]; rfl, by rw [Lib.cell_of_heap h]; rfl, by rw [Lib.cell_of_heap h]; rfl, by rw [Lib.cell_of_heap h]; rfl, by rw [Lib.cell_of_heap h]; rfl, by rw [Lib.cell_of_heap h]; rfl, lt_blkA h⟩
theorem own_shapeA {w : World} {base : Nat} {e : TypeId} {s : Nat} {v : Value} {n : Nat} {xs : List Value} (h : w.ownsRow base e s v n xs) : ∃ a0 cap, v = .slice a0 n cap := by
  obtain ⟨h1, ⟨rfl, rfl⟩ | ⟨g, cap, cur, rfl, _⟩⟩ := h
  · exact ⟨none, 0, rfl⟩
  · exact ⟨_, cap, rfl⟩
end Go.Proofs.YthpmkpnndbjflaaGreatDoor
