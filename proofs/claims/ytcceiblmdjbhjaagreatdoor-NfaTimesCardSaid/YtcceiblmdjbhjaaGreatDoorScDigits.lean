/- Contracts of scan.Digits and scan.Const. -/
import Derived.Test.YtcceiblmdjbhjaaGreatDoorScRead
import Derived.Deep.QuietTactic
namespace Go.Proofs.YtcceiblmdjbhjaaGreatDoor
open Go.RowKit

/-- A slice of bytes reads as a list. -/
def Sl (w : World) (v : Value) (l : List Int) : Prop :=
  Byt l ∧ l.length ≤ 9223372036854775807 ∧ ((l = [] ∧ ∃ a cap, v = .slice a 0 cap) ∨ ∃ b o cap, v = .slice (some ⟨b, o, none⟩) l.length cap ∧ l.length ≤ cap ∧ cap ≤ 9223372036854775807 ∧ Row w b o l)

theorem rV_bd (base m : Int) (l : List Int) (hb : 0 ≤ base) (hm : 0 ≤ m) : 0 ≤ rV base m l ∧ rV base m l ≤ m :=
  cut_bd _ _ (valK_nonneg _ hb _ _ (pre_le _ _)) hm

end Go.Proofs.YtcceiblmdjbhjaaGreatDoor
