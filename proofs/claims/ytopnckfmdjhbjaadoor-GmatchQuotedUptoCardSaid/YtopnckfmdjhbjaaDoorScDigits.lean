/- Contracts of scan.Digits and scan.Const. -/
import Derived.Test.YtopnckfmdjhbjaaDoorScRead
import Derived.Deep.QuietTactic
namespace Go.Proofs.YtopnckfmdjhbjaaDoor
open Go.RowKit

/-- A slice of bytes reads as a list. -/
def Sl (w : World) (v : Value) (l : List Int) : Prop :=
  Byt l ∧ l.length ≤ 9223372036854775807 ∧ ((l = [] ∧ ∃ a cap, v = .slice a 0 cap) ∨ ∃ b o cap, v = .slice (some ⟨b, o, none⟩) l.length cap ∧ l.length ≤ cap ∧ cap ≤ 9223372036854775807 ∧ Row w b o l)

/-- What Digits tells. -/
def gV (base : Int) (l : List Int) : Int := if 2 ≤ base ∧ base ≤ 16 then rV base 9223372036854775807 l else 0
def gN (base : Int) (l : List Int) : Nat := if 2 ≤ base ∧ base ≤ 16 then rN base l else 0
def gO (base : Int) (l : List Int) : Bool := if 2 ≤ base ∧ base ≤ 16 then rO base 9223372036854775807 l else false

theorem rV_bd (base m : Int) (l : List Int) (hb : 0 ≤ base) (hm : 0 ≤ m) : 0 ≤ rV base m l ∧ rV base m l ≤ m :=
  cut_bd _ _ (valK_nonneg _ hb _ _ (pre_le _ _)) hm

/-- 0x and a digit. -/
def hexB (l : List Int) : Bool := decide (2 < l.length) && (l.getD 0 0 == 48) && ((l.getD 1 0 == 120) || (l.getD 1 0 == 88)) && decide (dgt (l.getD 2 0) < 16)

/-- What Const tells. -/
def cB (l : List Int) : Int := if l.getD 0 0 = 48 then 8 else 10
def cV (l : List Int) : Int := if hexB l then gV 16 (l.drop 2) else gV (cB l) l
def cN (l : List Int) : Nat := if hexB l then 2 + gN 16 (l.drop 2) else gN (cB l) l
def cO (l : List Int) : Bool := if hexB l then gO 16 (l.drop 2) else gO (cB l) l

theorem Sl.drop {w : World} {b o cap : Nat} {l : List Int} (hy : Byt l) (_hl : l.length ≤ 9223372036854775807) (hcl : l.length ≤ cap) (hcm : cap ≤ 9223372036854775807) (hr : Row w b o l) (k : Nat) (hk : k ≤ l.length) :
    Sl w (.slice (some ⟨b, o + k, none⟩) (l.length - k) (cap - k)) (l.drop k) := by
  refine ⟨fun i => ?_, by simp; omega, Or.inr ⟨b, o + k, cap - k, by simp, by simp; omega, by omega, fun i hi => ?_⟩⟩
  · have := hy (k + i)
    simpa [List.getD, List.getElem?_drop] using this
  · have := hr (k + i) (by simp at hi; omega)
    rw [Nat.add_assoc]
    rw [this]
    simp [List.getD, List.getElem?_drop]

theorem gN_le (base : Int) (l : List Int) : gN base l ≤ l.length := by
  unfold gN rN
  split
  · exact pre_le _ _
  · omega

end Go.Proofs.YtopnckfmdjhbjaaDoor
