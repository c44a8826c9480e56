import Derived.Test.YtkakhfkkeoceiaaGreatDoorAcPut
import Derived.Test.YtkakhfkkeoceiaaGreatDoorKCl
namespace Go.Proofs.YtkakhfkkeoceiaaGreatDoor
open Go.RowKit
theorem RowOf.kid {w : World} {B : Nat} {kv : Value} {n : Nat} {ks : Nat → Tr} {vs : Nat → Value} (h : RowOf w (fun k => k < B) kv n (rowK ks vs n)) : ∃ g cap cur, kv = .slice (some ⟨g, 0, none⟩) n cap ∧ n ≤ cap ∧ g < B ∧ w.heap[g]? = some (.cells cur 62 (0, 0)) ∧
  ∀ i, i < n → ∀ j u, ((ks i).cells (vs i))[j]? = some u → cur[i * 6 + j]? = some u := by
 obtain ⟨g, cap, cur, e, hS, h1, h2, hg, ht⟩ := h
 refine ⟨g, cap, cur, e, h1, hS, hg, fun i hi j u hu => ?_⟩
 have hj : j < 6 := by have := (List.getElem?_eq_some_iff.1 hu).1; rwa [Tr.cells_len] at this
 have h3 := rowK_at ks vs n i j hi hj
 rw [hu, ← ht, List.getElem?_take, if_pos (by omega)] at h3
 rw [← Array.getElem?_toList]
 exact h3
structure PtS (B cb x0 x1 : Nat) (w W : World) (r0 : Array Value) (t0 : TypeId) (pc : Array Value) (l : List Ins) (X : World) : Prop where
 co : CoAt B cb l X
 ch : ChC B w X
 sz : W.heap.size ≤ X.heap.size
 b0 : X.heap[x0]? = some (.cells r0 t0 (0, 0))
 b1 : X.heap[x1]? = some (.cells pc 62 (0, 0))
theorem PtS.step {B cb x0 x1 : Nat} {w W : World} {r0 : Array Value} {t0 : TypeId} {pc : Array Value} {l l' : List Ins} {X X' : World} (h : PtS B cb x0 x1 w W r0 t0 pc l X) (hg : CoAt B cb l' X') (hc : ChC B X X') (h1 : t0 ≠ 155) (h2 : t0 ≠ 157) : PtS B cb x0 x1 w W r0 t0 pc l' X' :=
 ⟨hg, h.ch.trans hc, Nat.le_trans h.sz hc.bel.size, hc.blk h.b0 h1 h2, hc.blk h.b1 (by decide) (by decide)⟩
theorem PtS.drew {B cb x0 x1 : Nat} {w W : World} {r0 : Array Value} {t0 : TypeId} {pc : Array Value} {l : List Ins} {X : World} (h : PtS B cb x0 x1 w W r0 t0 pc l X) (hB : B ≤ w.heap.size) : PtS B cb x0 x1 w W r0 t0 pc l X.drew :=
 ⟨h.co.below (Below.refl _ _).drew, h.ch.trans (ChC.below (Below.refl _ _).drew (Nat.le_trans hB h.ch.bel.size)), h.sz, h.b0, h.b1⟩
def PartC (t : Tr) : Prop := ∀ (B cb : Nat) (kv : Value) (l : List Ins) (w : World), CoAt B cb l w → B ≤ w.heap.size → t.Lay w (fun k => k < B) kv → l.length + (comp t 0).length ≤ 1000000 →
 Calls Tryz.prog 97 #[.pointer (some ⟨cb, 0, none⟩), t.v kv] w fun x w' => x = .returned (.tuple #[]) ∧ CoAt B cb (l ++ comp t l.length) w' ∧ ChC B w w'
def box2 (w : World) (cb : Nat) (pc : Array Value) : World := (w.alloc (.cells #[.pointer (some ⟨cb, 0, none⟩)] 186)).alloc (.cells pc 62)
theorem box2_pts {B cb : Nat} {l : List Ins} {w : World} (h : CoAt B cb l w) (hB : B ≤ w.heap.size) (pc : Array Value) : PtS B cb w.heap.size (w.heap.size + 1) w (box2 w cb pc) #[.pointer (some ⟨cb, 0, none⟩)] 186 pc l (box2 w cb pc) := by
 have hb : Below w.heap.size w (box2 w cb pc) := ((Below.refl _ _).alloc (Nat.le_refl _) _).alloc (by simp) _
 refine ⟨h.below hb, ChC.below hb hB, Nat.le_refl _, blk_allocA (last_A w _) _, ?_⟩
 have h1 : (w.alloc (.cells #[.pointer (some ⟨cb, 0, none⟩)] 186)).heap.size = w.heap.size + 1 := by simp
 have := last_A (w.alloc (.cells #[.pointer (some ⟨cb, 0, none⟩)] 186)) (.cells pc 62)
 rw [h1] at this
 exact this
theorem box1_pts {B cb : Nat} {l : List Ins} {w : World} (h : CoAt B cb l w) (hB : B ≤ w.heap.size) (pc : Array Value) : PtS B cb w.heap.size w.heap.size w (w.alloc (.cells pc 62)) pc 62 pc l (w.alloc (.cells pc 62)) := by
 have hb : Below w.heap.size w (w.alloc (.cells pc 62)) := (Below.refl _ _).alloc (Nat.le_refl _) _
 exact ⟨h.below hb, ChC.below hb hB, Nat.le_refl _, last_A w _, last_A w _⟩
end Go.Proofs.YtkakhfkkeoceiaaGreatDoor
