/- Contracts of named: the classes (gen_named.py). -/
import Derived.Test.YtopnckfmdjhbjaaDoorSeOf
namespace Go.Proofs.YtopnckfmdjhbjaaDoor
open Go.RowKit

theorem row4_two (w : World) (p q : Nat → Bool) (t : TypeId) :
    Row4 (w.alloc (.cells #[.int .u64 (sw p 0 : Nat), .int .u64 (sw p 1 : Nat), .int .u64 (sw p 2 : Nat), .int .u64 (sw p 3 : Nat), .int .u64 (sw q 0 : Nat), .int .u64 (sw q 1 : Nat), .int .u64 (sw q 2 : Nat), .int .u64 (sw q 3 : Nat)] t)) w.heap.size 0 p ∧
    Row4 (w.alloc (.cells #[.int .u64 (sw p 0 : Nat), .int .u64 (sw p 1 : Nat), .int .u64 (sw p 2 : Nat), .int .u64 (sw p 3 : Nat), .int .u64 (sw q 0 : Nat), .int .u64 (sw q 1 : Nat), .int .u64 (sw q 2 : Nat), .int .u64 (sw q 3 : Nat)] t)) w.heap.size 4 q := by
  refine ⟨⟨?_, ?_, ?_, ?_⟩, ⟨?_, ?_, ?_, ?_⟩⟩ <;> simp
/-- In one of both; in the one, not in the other; in none. -/
def orP (p q : Nat → Bool) (c : Nat) : Bool := p c || q c
def lessP (p q : Nat → Bool) (c : Nat) : Bool := p c && !q c
def noP (_ : Nat) : Bool := false
/-- Union over a row just laid. -/
theorem unionL (w : World) (p q : Nat → Bool) (t : TypeId) :
    Calls Tryd.prog 80 #[.slice (some ⟨w.heap.size, 0, none⟩) 2 2] (w.alloc (.cells #[.int .u64 (sw p 0 : Nat), .int .u64 (sw p 1 : Nat), .int .u64 (sw p 2 : Nat), .int .u64 (sw p 3 : Nat), .int .u64 (sw q 0 : Nat), .int .u64 (sw q 1 : Nat), .int .u64 (sw q 2 : Nat), .int .u64 (sw q 3 : Nat)] t))
      fun e w' => e = .returned (SV (orP p q)) ∧ Below w.heap.size w w' :=
  (union2_any p q w.heap.size 2 _ (row4_two w p q t).1 (row4_two w p q t).2 (by simp)).mono fun _ _ h => ⟨h.1, ((Below.refl _ _).alloc (Nat.le_refl _) _).trans (h.2.mono (by simp))⟩

/-- named's two blocks: the result's, still nought, and the set so far. -/
def NS (w V : World) (p : Nat → Bool) : Prop :=
  Below (w.heap.size + 1) (w.alloc (.cells #[.int .u64 0, .int .u64 0, .int .u64 0, .int .u64 0] 53)) V ∧ Row4 V (w.heap.size + 1) 0 p ∧ (∀ j, V.frozen? ⟨w.heap.size + 1, j, none⟩ = false) ∧ w.heap.size + 1 < V.heap.size
theorem NS.start (w : World) : NS w ((w.alloc (.cells #[.int .u64 0, .int .u64 0, .int .u64 0, .int .u64 0] 53)).alloc (.cells #[.int .u64 0, .int .u64 0, .int .u64 0, .int .u64 0] 53)) noP := by
  have hz : (w.alloc (.cells #[.int .u64 0, .int .u64 0, .int .u64 0, .int .u64 0] 53)).heap.size = w.heap.size + 1 := by simp
  refine ⟨(Below.refl _ _).alloc (by simp) _, ?_, ?_, by simp⟩
  · rw [← hz]
    refine ⟨?_, ?_, ?_, ?_⟩ <;> rw [show noP = fun _ => false from rfl, sw_zero] <;> simp
  · rw [← hz]
    intro j
    simp
theorem NS.next {w V V' : World} {p : Nat → Bool} (h : NS w V p) (hb : Below V.heap.size V V') : NS w V' p := by
  obtain ⟨h0, ⟨r0, r1, r2, r3⟩, hf, hz⟩ := h
  have k : ∀ o, V'.cell? ⟨w.heap.size + 1, o, none⟩ = V.cell? ⟨w.heap.size + 1, o, none⟩ := fun o => hb.cell (p := ⟨_, o, none⟩) hz
  have g : ∀ o, V'.frozen? ⟨w.heap.size + 1, o, none⟩ = V.frozen? ⟨w.heap.size + 1, o, none⟩ := fun o => hb.frozen (p := ⟨_, o, none⟩) hz
  exact ⟨h0.trans (hb.mono (Nat.le_of_lt hz)), ⟨(k _).trans r0, (k _).trans r1, (k _).trans r2, (k _).trans r3⟩, fun j => (g j).trans (hf j), Nat.lt_of_lt_of_le hz hb.size⟩
theorem NS.drew {w V : World} {p : Nat → Bool} (h : NS w V p) : NS w V.drew p := h.next (Below.refl _ _).drew
theorem row4_put {V : World} {b : Nat} {p : Nat → Bool} (q : Nat → Bool) (h : Row4 V b 0 p) :
    Row4 ((((V.setCell ⟨b, 0, none⟩ (.int .u64 (sw q 0 : Nat))).setCell ⟨b, 1, none⟩ (.int .u64 (sw q 1 : Nat))).setCell ⟨b, 2, none⟩ (.int .u64 (sw q 2 : Nat))).setCell ⟨b, 3, none⟩ (.int .u64 (sw q 3 : Nat))) b 0 q := by
  obtain ⟨r0, r1', r2', r3'⟩ := h
  have r1 : V.cell? ⟨b, 1, none⟩ = some (.int .u64 (sw p 1 : Nat)) := r1'
  have r2 : V.cell? ⟨b, 2, none⟩ = some (.int .u64 (sw p 2 : Nat)) := r2'
  have r3 : V.cell? ⟨b, 3, none⟩ = some (.int .u64 (sw p 3 : Nat)) := r3'
  have o : ∀ (W : World) (i j : Nat) (v : Value), i ≠ j → (W.setCell ⟨b, i, none⟩ v).cell? ⟨b, j, none⟩ = W.cell? ⟨b, j, none⟩ := fun W i j v _ => World.cell?_setCell_other _ _ _ _ (by simp)
  refine ⟨?_, ?_, ?_, ?_⟩
  · rw [o _ 3 0 _ (by decide), o _ 2 0 _ (by decide), o _ 1 0 _ (by decide)]; exact World.cell?_setCell_same _ _ _ r0
  · rw [o _ 3 (0 + 1) _ (by decide), o _ 2 (0 + 1) _ (by decide)]; exact World.cell?_setCell_same _ _ _ ((o _ 0 1 _ (by decide)).trans r1)
  · rw [o _ 3 (0 + 2) _ (by decide)]; exact World.cell?_setCell_same _ _ _ ((o _ 1 2 _ (by decide)).trans ((o _ 0 2 _ (by decide)).trans r2))
  · exact World.cell?_setCell_same _ _ _ ((o _ 2 3 _ (by decide)).trans ((o _ 1 3 _ (by decide)).trans ((o _ 0 3 _ (by decide)).trans r3)))
theorem NS.put {w V : World} {p : Nat → Bool} (q : Nat → Bool) (h : NS w V p) :
    NS w ((((V.setCell ⟨w.heap.size + 1, 0, none⟩ (.int .u64 (sw q 0 : Nat))).setCell ⟨w.heap.size + 1, 1, none⟩ (.int .u64 (sw q 1 : Nat))).setCell ⟨w.heap.size + 1, 2, none⟩ (.int .u64 (sw q 2 : Nat))).setCell ⟨w.heap.size + 1, 3, none⟩ (.int .u64 (sw q 3 : Nat))) q :=
  ⟨(((h.1.setCell (Nat.le_refl _) _).setCell (Nat.le_refl _) _).setCell (Nat.le_refl _) _).setCell (Nat.le_refl _) _, row4_put q h.2.1, fun j => by simpa using h.2.2.1 j, by simpa using h.2.2.2⟩
theorem NS.facts {w V : World} {p : Nat → Bool} (h : NS w V p) :
    (V.cell? ⟨w.heap.size + 1, 0, none⟩ = some (.int .u64 (sw p 0 : Nat)) ∧ V.cell? ⟨w.heap.size + 1, 1, none⟩ = some (.int .u64 (sw p 1 : Nat)) ∧ V.cell? ⟨w.heap.size + 1, 2, none⟩ = some (.int .u64 (sw p 2 : Nat)) ∧ V.cell? ⟨w.heap.size + 1, 3, none⟩ = some (.int .u64 (sw p 3 : Nat))) ∧
    (V.frozen? ⟨w.heap.size + 1, 0, none⟩ = false ∧ V.frozen? ⟨w.heap.size + 1, 1, none⟩ = false ∧ V.frozen? ⟨w.heap.size + 1, 2, none⟩ = false ∧ V.frozen? ⟨w.heap.size + 1, 3, none⟩ = false) ∧
    (V.cell? ⟨w.heap.size, 0, none⟩ = some (.int .u64 0) ∧ V.cell? ⟨w.heap.size, 1, none⟩ = some (.int .u64 0) ∧ V.cell? ⟨w.heap.size, 2, none⟩ = some (.int .u64 0) ∧ V.cell? ⟨w.heap.size, 3, none⟩ = some (.int .u64 0) ∧
      V.frozen? ⟨w.heap.size, 0, none⟩ = false ∧ V.frozen? ⟨w.heap.size, 1, none⟩ = false ∧ V.frozen? ⟨w.heap.size, 2, none⟩ = false ∧ V.frozen? ⟨w.heap.size, 3, none⟩ = false ∧ w.heap.size < V.heap.size) ∧ w.heap.size + 1 < V.heap.size :=
  ⟨⟨h.2.1.1, h.2.1.2.1, h.2.1.2.2.1, h.2.1.2.2.2⟩, ⟨h.2.2.1 0, h.2.2.1 1, h.2.2.1 2, h.2.2.1 3⟩, res_facts h.1 (Nat.lt_succ_self _), h.2.2.2⟩
end Go.Proofs.YtopnckfmdjhbjaaDoor
