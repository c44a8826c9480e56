/- The reference's Has, Bytes; is a byte in a text. -/
import Derived.Test.YtopnckfmdjhbjaaDoorSeRng
import Derived.Test.YtopnckfmdjhbjaaDoorSeRef
namespace Go.Proofs.YtopnckfmdjhbjaaDoor
open Go.RowKit

theorem own_mono {w : World} {B B' : Nat} {e : TypeId} {k : Nat} {v : Value} {n : Nat} {xs : List Value} (h : w.ownsRow B e k v n xs) (hb : B' ≤ B) : w.ownsRow B' e k v n xs := by
  obtain ⟨h1, h2 | ⟨g, cap, cur, rfl, h3, h4⟩⟩ := h
  · exact ⟨h1, .inl h2⟩
  · exact ⟨h1, .inr ⟨g, cap, cur, rfl, Nat.le_trans hb h3, h4⟩⟩
theorem owns_belowS {w w' : World} {B : Nat} {e : TypeId} {k : Nat} {v : Value} {n : Nat} {xs : List Value} (h : w.ownsRow B e k v n xs) (hb : Below w.heap.size w w') : w'.ownsRow B e k v n xs := by
  obtain ⟨h1, h2 | ⟨g, cap, cur, rfl, h3, h4, h5⟩⟩ := h
  · exact ⟨h1, .inl h2⟩
  · have hlt : g < w.heap.size := by
      rcases Nat.lt_or_ge g w.heap.size with h' | h'
      · exact h'
      · rw [Array.getElem?_eq_none h'] at h4; cases h4
    exact ⟨h1, .inr ⟨g, cap, cur, rfl, h3, by rw [hb.block g hlt]; exact h4, h5⟩⟩
set_option maxHeartbeats 2000000 in
theorem rhas_any (p : Nat → Bool) (b : Nat) (hb : b < 256) (w : World) :
    Calls Tryd.prog 75 #[SV p, .int .u8 b] w fun e w' => e = .returned (.bool (p b)) ∧ Below w.heap.size w w' := by
  obtain ⟨j, hj, h⟩ : ∃ j, j < 64 ∧ (b = j ∨ b = 64 + j ∨ b = 128 + j ∨ b = 192 + j) := ⟨b % 64, by omega, by omega⟩
  have e : ∀ i, b = 64 * i + j → bits .and .u64 ((sw p i : Int) / 2 ^ j) 1 = ((p b).toNat : Nat) := fun i hi => by rw [hi]; exact sw_bit p i j hj
  unfold SV
  rcases h with h | h | h | h
  · have hs := e 0 (by omega)
    have hq : (b : Int) / 64 = 0 := by omega
    have hr : (b : Int) % 64 = j := by omega
    clear e h
    cases hp : p b
    all_goals
      rw [hp] at hs
      simp only [Bool.toNat_true, Bool.toNat_false] at hs
      clear hp
      generalize sw p 0 = x0 at *
      generalize sw p 1 = x1 at *
      generalize sw p 2 = x2 at *
      generalize sw p 3 = x3 at *
      go_enter Tryd.func75, Tryd.ntmps75
      go_wp2
      go_ret
      exact ⟨rfl, (Below.refl _ _).alloc (Nat.le_refl _) _⟩
  · have hs := e 1 (by omega)
    have hq : (b : Int) / 64 = 1 := by omega
    have hr : (b : Int) % 64 = j := by omega
    clear e h
    cases hp : p b
    all_goals
      rw [hp] at hs
      simp only [Bool.toNat_true, Bool.toNat_false] at hs
      clear hp
      generalize sw p 0 = x0 at *
      generalize sw p 1 = x1 at *
      generalize sw p 2 = x2 at *
      generalize sw p 3 = x3 at *
      go_enter Tryd.func75, Tryd.ntmps75
      go_wp2
      go_ret
      exact ⟨rfl, (Below.refl _ _).alloc (Nat.le_refl _) _⟩
  · have hs := e 2 (by omega)
    have hq : (b : Int) / 64 = 2 := by omega
    have hr : (b : Int) % 64 = j := by omega
    clear e h
    cases hp : p b
    all_goals
      rw [hp] at hs
      simp only [Bool.toNat_true, Bool.toNat_false] at hs
      clear hp
      generalize sw p 0 = x0 at *
      generalize sw p 1 = x1 at *
      generalize sw p 2 = x2 at *
      generalize sw p 3 = x3 at *
      go_enter Tryd.func75, Tryd.ntmps75
      go_wp2
      go_ret
      exact ⟨rfl, (Below.refl _ _).alloc (Nat.le_refl _) _⟩
  · have hs := e 3 (by omega)
    have hq : (b : Int) / 64 = 3 := by omega
    have hr : (b : Int) % 64 = j := by omega
    clear e h
    cases hp : p b
    all_goals
      rw [hp] at hs
      simp only [Bool.toNat_true, Bool.toNat_false] at hs
      clear hp
      generalize sw p 0 = x0 at *
      generalize sw p 1 = x1 at *
      generalize sw p 2 = x2 at *
      generalize sw p 3 = x3 at *
      go_enter Tryd.func75, Tryd.ntmps75
      go_wp2
      go_ret
      exact ⟨rfl, (Below.refl _ _).alloc (Nat.le_refl _) _⟩

theorem byL_no (p : Nat → Bool) (k : Nat) (h : p k = false) : byL p (k + 1) = byL p k := byL_skip p k 1 fun j hj => by rw [show k + j = k by omega]; exact h
theorem bys_at (s : ByteArray) (k : Nat) (h : k < s.size) : (bys s)[k]? = some (s[k].toNat : Int) := by
  have := bys_getD s k h
  rw [List.getD, List.getElem?_eq_getElem (by rw [bys_length]; exact h)] at this
  rw [List.getElem?_eq_getElem (by rw [bys_length]; exact h)]
  simpa using this
end Go.Proofs.YtopnckfmdjhbjaaDoor
