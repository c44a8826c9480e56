/- What SetMorgan's walk keeps (gen_morgan.py). -/
import Derived.Test.YtlkcopjjeknbkaaGreatDoorSeByt
import Derived.Test.YtlkcopjjeknbkaaGreatDoorSeCtz
import Derived.Test.YtlkcopjjeknbkaaGreatDoorKSet
import Derived.Test.YtlkcopjjeknbkaaGreatDoorKRdr
import Derived.Test.YtlkcopjjeknbkaaGreatDoorScDigits
import Derived.Lib.SlBytesConst
import Derived.Deep.RegionWith
import Derived.Deep.RegionHeld3
import Derived.Below
import Derived.Laws.Rows
import Derived.Test.YtlkcopjjeknbkaaGreatDoorKEq
import Derived.Deep.DeepCutAuto
namespace Go.Proofs.YtlkcopjjeknbkaaGreatDoor
open Go.RowKit

/-- The others of a set. -/
def notP (p : Nat → Bool) (c : Nat) : Bool := !p c
theorem eq_yesM (p q : Nat → Bool) (h : ∀ c, c < 256 → p c = q c) (w : World) :
    (Op.equalIn 10000 30 (.agg #[.int .u64 (sw p 0 : Nat), .int .u64 (sw p 1 : Nat), .int .u64 (sw p 2 : Nat), .int .u64 (sw p 3 : Nat)]) (.agg #[.int .u64 (sw q 0 : Nat), .int .u64 (sw q 1 : Nat), .int .u64 (sw q 2 : Nat), .int .u64 (sw q 3 : Nat)])).run Tryz.prog w = .ok true w := by
  have e : ∀ i, i < 4 → sw p i = sw q i := fun i hi => wd_congr fun j hj => h _ (by omega)
  rw [eq_arr 9998, e 0 (by omega), e 1 (by omega), e 2 (by omega), e 3 (by omega)]
  simp
theorem slOwnedM {w : World} {base : Nat} {e : TypeId} {v : Value} {n : Nat} {L : List Int} (h : w.ownsRow base e 1 v n (L.map (Value.int .u8))) (hy : Byt L) (hl : L.length ≤ 9223372036854775807) : Sl w v L := by
  obtain ⟨h1, ⟨rfl, rfl⟩ | ⟨g, cap, cur, rfl, _, hb, hc, hm, hs, ht⟩⟩ := h
  · have : L = [] := List.length_eq_zero_iff.1 (by simpa using h1)
    exact ⟨hy, hl, Or.inl ⟨this, none, 0, rfl⟩⟩
  · have hn : L.length = n := by simpa using h1
    refine ⟨hy, hl, Or.inr ⟨g, 0, cap, by rw [hn], by omega, by unfold maxLen at hm; omega, fun i hi => ?_⟩⟩
    rw [Nat.zero_add]
    have e1 : w.cell? ⟨g, i, none⟩ = cur[i]? := by simp [World.cell?, hb]
    have e2 : (cur.toList.take (n * 1))[i]? = (L.map (Value.int .u8))[i]? := by rw [ht]
    rw [List.getElem?_take, if_pos (by omega)] at e2
    rw [e1, ← Array.getElem?_toList, e2]
    simp [List.getD, List.getElem?_eq_getElem hi]
end Go.Proofs.YtlkcopjjeknbkaaGreatDoor
