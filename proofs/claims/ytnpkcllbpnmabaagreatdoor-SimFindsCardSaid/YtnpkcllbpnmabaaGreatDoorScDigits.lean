import Derived.Test.YtnpkcllbpnmabaaGreatDoorScRead
import Derived.Deep.QuietTactic
namespace Go.Proofs.YtnpkcllbpnmabaaGreatDoor
open Go.RowKit
def Sl (w : World) (v : Value) (l : List Int) : Prop :=
 Byt l ∧ l.length ≤ 9223372036854775807 ∧ ((l = [] ∧ ∃ a cap, v = .slice a 0 cap) ∨ ∃ b o cap, v = .slice (some ⟨b, o, none⟩) l.length cap ∧ l.length ≤ cap ∧ cap ≤ 9223372036854775807 ∧ Row w b o l)
theorem rV_bd (base m : Int) (l : List Int) (hb : 0 ≤ base) (hm : 0 ≤ m) : 0 ≤ rV base m l ∧ rV base m l ≤ m :=
 cut_bd _ _ (valK_nonneg _ hb _ _ (pre_le _ _)) hm
theorem Sl.drop {w : World} {b o cap : Nat} {l : List Int} (hy : Byt l) (_hl : l.length ≤ 9223372036854775807) (hcl : l.length ≤ cap) (hcm : cap ≤ 9223372036854775807) (hr : Row w b o l) (k : Nat) (hk : k ≤ l.length) :
  Sl w (.slice (some ⟨b, o + k, none⟩) (l.length - k) (cap - k)) (l.drop k) := by
 refine ⟨fun i => ?_, by simp; omega, Or.inr ⟨b, o + k, cap - k, by simp, by simp; omega, by omega, fun i hi => ?_⟩⟩
 ·have := hy (k + i)
  simpa [List.getD, List.getElem?_drop] using this
 ·have := hr (k + i) (by simp at hi; omega)
  rw [Nat.add_assoc]
  rw [this]
  simp [List.getD, List.getElem?_drop]
end Go.Proofs.YtnpkcllbpnmabaaGreatDoor
