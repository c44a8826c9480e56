/- What SetMorgan's walk keeps (gen_morgan.py). -/
import Derived.Test.YtopnckfmdjhbjaaDoorSeByt
import Derived.Test.YtopnckfmdjhbjaaDoorSeCnt
import Derived.Test.YtopnckfmdjhbjaaDoorSeAwk
import Derived.Test.YtopnckfmdjhbjaaDoorSeOf
import Derived.Test.YtopnckfmdjhbjaaDoorSeNam
import Derived.Test.YtopnckfmdjhbjaaDoorSeEq
import Derived.Deep.RegionHeld3
import Derived.Deep.DeepCutAuto
namespace Go.Proofs.YtopnckfmdjhbjaaDoor
open Go.RowKit

/-- Three boxes' cells, kept. -/
abbrev K3 (w : World) (a b g : Nat) (p q r : Nat → Bool) (w' : World) : Prop := Below w.heap.size w w' ∧ w'.cell? ⟨a, 0, none⟩ = some (.int .u64 (sw p 0 : Nat)) ∧ w'.cell? ⟨a, 1, none⟩ = some (.int .u64 (sw p 1 : Nat)) ∧ w'.cell? ⟨a, 2, none⟩ = some (.int .u64 (sw p 2 : Nat)) ∧ w'.cell? ⟨a, 3, none⟩ = some (.int .u64 (sw p 3 : Nat)) ∧ w'.cell? ⟨b, 0, none⟩ = some (.int .u64 (sw q 0 : Nat)) ∧ w'.cell? ⟨b, 1, none⟩ = some (.int .u64 (sw q 1 : Nat)) ∧ w'.cell? ⟨b, 2, none⟩ = some (.int .u64 (sw q 2 : Nat)) ∧ w'.cell? ⟨b, 3, none⟩ = some (.int .u64 (sw q 3 : Nat)) ∧ w'.cell? ⟨g, 0, none⟩ = some (.int .u64 (sw r 0 : Nat)) ∧ w'.cell? ⟨g, 1, none⟩ = some (.int .u64 (sw r 1 : Nat)) ∧ w'.cell? ⟨g, 2, none⟩ = some (.int .u64 (sw r 2 : Nat)) ∧ w'.cell? ⟨g, 3, none⟩ = some (.int .u64 (sw r 3 : Nat)) ∧ a < w'.heap.size ∧ b < w'.heap.size ∧ g < w'.heap.size
theorem K3.nxt {w w1 w2 : World} {a b g : Nat} {p q r : Nat → Bool} (h : K3 w a b g p q r w1) (hb : Below w1.heap.size w1 w2) : K3 w a b g p q r w2 := by
  obtain ⟨h0, c0, c1, c2, c3, c4, c5, c6, c7, c8, c9, c10, c11, za, zb, zg⟩ := h
  exact ⟨below_thn h0 (Nat.le_refl _) hb, by rw [hb.cell (by simpa using za)]; exact c0, by rw [hb.cell (by simpa using za)]; exact c1, by rw [hb.cell (by simpa using za)]; exact c2, by rw [hb.cell (by simpa using za)]; exact c3, by rw [hb.cell (by simpa using zb)]; exact c4, by rw [hb.cell (by simpa using zb)]; exact c5, by rw [hb.cell (by simpa using zb)]; exact c6, by rw [hb.cell (by simpa using zb)]; exact c7, by rw [hb.cell (by simpa using zg)]; exact c8, by rw [hb.cell (by simpa using zg)]; exact c9, by rw [hb.cell (by simpa using zg)]; exact c10, by rw [hb.cell (by simpa using zg)]; exact c11, Nat.lt_of_lt_of_le za hb.size, Nat.lt_of_lt_of_le zb hb.size, Nat.lt_of_lt_of_le zg hb.size⟩
theorem K3.nxt2 {w w1 w2 : World} {a b g : Nat} {p q r : Nat → Bool} (hb : Below w1.heap.size w1 w2) (h : K3 w a b g p q r w1) : K3 w a b g p q r w2 := h.nxt hb
theorem K3.drew {w w1 : World} {a b g : Nat} {p q r : Nat → Bool} (h : K3 w a b g p q r w1) : K3 w a b g p q r w1.drew := h.nxt (Below.refl _ _).drew
theorem K3.alo {w w1 : World} {a b g : Nat} {p q r : Nat → Bool} (h : K3 w a b g p q r w1) (o : Obj) : K3 w a b g p q r (w1.alloc o) := h.nxt ((Below.refl _ _).alloc (Nat.le_refl _) _)

/-- The others of a set. -/
def notP (p : Nat → Bool) (c : Nat) : Bool := !p c
/-- Two boxes, by their blocks. -/
def MB (w : World) (p q : Nat → Bool) (X : World) : Prop := Below w.heap.size w X ∧ X.heap[w.heap.size]? = some (.cells #[.int .u64 (sw p 0 : Nat), .int .u64 (sw p 1 : Nat), .int .u64 (sw p 2 : Nat), .int .u64 (sw p 3 : Nat)] 53) ∧ X.heap[w.heap.size + 1]? = some (.cells #[.int .u64 (sw q 0 : Nat), .int .u64 (sw q 1 : Nat), .int .u64 (sw q 2 : Nat), .int .u64 (sw q 3 : Nat)] 53)
theorem blkM {w : World} {g : Nat} {t : TypeId} {a0 a1 a2 a3 : Value} (h : w.heap[g]? = some (.cells #[a0, a1, a2, a3] t)) :
    (w.cell? ⟨g, 0, none⟩ = some a0 ∧ w.cell? ⟨g, 1, none⟩ = some a1 ∧ w.cell? ⟨g, 2, none⟩ = some a2 ∧ w.cell? ⟨g, 3, none⟩ = some a3) ∧
    (w.frozen? ⟨g, 0, none⟩ = false ∧ w.frozen? ⟨g, 1, none⟩ = false ∧ w.frozen? ⟨g, 2, none⟩ = false ∧ w.frozen? ⟨g, 3, none⟩ = false) ∧ g < w.heap.size := cells4 h
theorem MB.nxt {w w1 w2 : World} {p q : Nat → Bool} (h : MB w p q w1) (hb : Below w1.heap.size w1 w2) : MB w p q w2 := by
  obtain ⟨h0, h1, h2⟩ := h
  exact ⟨below_thn h0 (Nat.le_refl _) hb, (hb.block _ (blkM h1).2.2).trans h1, (hb.block _ (blkM h2).2.2).trans h2⟩
theorem MB.set {w w1 : World} {p q : Nat → Bool} (h : MB w p q w1) (g i : Nat) (v : Value) (hg : w.heap.size + 1 < g) : MB w p q (w1.setCell ⟨g, i, none⟩ v) := by
  obtain ⟨h0, h1, h2⟩ := h
  have k : ∀ j, j ≠ g → (w1.setCell ⟨g, i, none⟩ v).heap[j]? = w1.heap[j]? := fun j hj => Below.heap_setCell _ _ _ _ (by simp; omega)
  exact ⟨h0.setCell (by simp; omega) _, (k _ (by omega)).trans h1, (k _ (by omega)).trans h2⟩
theorem MB.start (w : World) (p q : Nat → Bool) : MB w p q ((w.alloc (.cells #[.int .u64 (sw p 0 : Nat), .int .u64 (sw p 1 : Nat), .int .u64 (sw p 2 : Nat), .int .u64 (sw p 3 : Nat)] 53)).alloc (.cells #[.int .u64 (sw q 0 : Nat), .int .u64 (sw q 1 : Nat), .int .u64 (sw q 2 : Nat), .int .u64 (sw q 3 : Nat)] 53)) := by
  refine ⟨((Below.refl _ _).alloc (Nat.le_refl _) _).alloc (by simp) _, (Below.heap_alloc _ _ _ (by simp)).trans (alloc_last _ _), ?_⟩
  have := alloc_last (w.alloc (.cells #[.int .u64 (sw p 0 : Nat), .int .u64 (sw p 1 : Nat), .int .u64 (sw p 2 : Nat), .int .u64 (sw p 3 : Nat)] 53)) (.cells #[.int .u64 (sw q 0 : Nat), .int .u64 (sw q 1 : Nat), .int .u64 (sw q 2 : Nat), .int .u64 (sw q 3 : Nat)] 53)
  simpa using this
theorem row4_keep {w w' : World} {b o : Nat} {p : Nat → Bool} (h : Row4 w b o p) (hb : Below w.heap.size w w') (hz : b < w.heap.size) : Row4 w' b o p := by
  have k : ∀ i, w'.cell? ⟨b, i, none⟩ = w.cell? ⟨b, i, none⟩ := fun i => hb.cell (p := ⟨b, i, none⟩) hz
  exact ⟨(k _).trans h.1, (k _).trans h.2.1, (k _).trans h.2.2.1, (k _).trans h.2.2.2⟩
theorem row_noM {w : World} {g : Nat} (h : w.heap[g]? = some (.cells #[.int .u64 0, .int .u64 0, .int .u64 0, .int .u64 0] 53)) : Row4 w g 0 noP := by
  obtain ⟨⟨h0, h1, h2, h3⟩, _⟩ := blkM h
  exact ⟨by rw [item_no.1]; exact h0, by rw [item_no.2.1]; exact h1, by rw [item_no.2.2.1]; exact h2, by rw [item_no.2.2.2]; exact h3⟩

theorem eq_yesM (p q : Nat → Bool) (h : ∀ c, c < 256 → p c = q c) (w : World) :
    (Op.equalIn 10000 53 (.agg #[.int .u64 (sw p 0 : Nat), .int .u64 (sw p 1 : Nat), .int .u64 (sw p 2 : Nat), .int .u64 (sw p 3 : Nat)]) (.agg #[.int .u64 (sw q 0 : Nat), .int .u64 (sw q 1 : Nat), .int .u64 (sw q 2 : Nat), .int .u64 (sw q 3 : Nat)])).run Tryd.prog w = .ok true w := by
  have e : ∀ i, i < 4 → sw p i = sw q i := fun i hi => wd_congr fun j hj => h _ (by omega)
  rw [eq_arr 9998, e 0 (by omega), e 1 (by omega), e 2 (by omega), e 3 (by omega)]
  simp
theorem slOwnedM {w : World} {base : Nat} {e : TypeId} {v : Value} {n : Nat} {L : List Int} (h : w.ownsRow base e 1 v n (L.map (Value.int .u8))) (hy : Byt L) (hl : L.length ≤ 9223372036854775807) : Sl w v L := by
  obtain ⟨h1, ⟨rfl, rfl⟩ | ⟨g, cap, cur, rfl, _, hb, hc, hm, hs, ht⟩⟩ := h
  · have : L = [] := List.length_eq_zero_iff.1 (by simpa using h1)
    exact ⟨hy, hl, Or.inl ⟨this, none, 0, rfl⟩⟩
  · have hn : L.length = n := by simpa using h1
    refine ⟨hy, hl, Or.inr ⟨g, 0, cap, by rw [hn], by omega, by unfold maxLen at hm; omega, fun i hi => ?_⟩⟩
    rw [Nat.zero_add]
    have e1 : w.cell? ⟨g, i, none⟩ = cur[i]? := by simp [World.cell?, hb]
    have e2 : (cur.toList.take (n * 1))[i]? = (L.map (Value.int .u8))[i]? := by rw [ht]
    rw [List.getElem?_take, if_pos (by omega)] at e2
    rw [e1, ← Array.getElem?_toList, e2]
    simp [List.getD, List.getElem?_eq_getElem hi]
theorem mor_u (p q : Nat → Bool) (k : Nat) : notP (orP (notP p) (notP q)) k = (p k && q k) := by simp [notP, orP]
theorem k3_of {w X : World} {p q r : Nat → Bool} {g : Nat} (h : MB w p q X) (hr : Row4 X g 0 r) (hg : g < X.heap.size) : K3 w w.heap.size (w.heap.size + 1) g p q r X := by
  obtain ⟨h0, h1, h2⟩ := h
  obtain ⟨⟨a0, a1, a2, a3⟩, _, az⟩ := blkM h1
  obtain ⟨⟨b0, b1, b2, b3⟩, _, bz⟩ := blkM h2
  obtain ⟨r0, r1, r2, r3⟩ := hr
  exact ⟨h0, a0, a1, a2, a3, b0, b1, b2, b3, r0, r1, r2, r3, az, bz, hg⟩
end Go.Proofs.YtopnckfmdjhbjaaDoor
