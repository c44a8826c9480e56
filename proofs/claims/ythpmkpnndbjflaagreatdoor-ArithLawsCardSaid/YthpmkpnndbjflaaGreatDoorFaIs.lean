/- Contracts of errors.Is over chains of fault.At and fault.In: a chain is a list of wraps around an error of errors.New's make; errors.Is tells whether the pointer at its bottom is the sentinel's. -/
import Derived.Test.YthpmkpnndbjflaaGreatDoorProg
import Derived.WalkKit
import Derived.LaidEql
import Derived.Stop.Asserts
import Derived.RowKitTokens
import Derived.Deep.LoopGhost
import Derived.Outline
import Derived.Lib.Hide
namespace Go.Proofs.YthpmkpnndbjflaaGreatDoor
open Go.RowKit Go.Extern.Stop Go.Stop Go.Extern

/-- A chain of wraps (true: a language, false: a place), the outermost first, around the error r. -/
def Chn (w : World) : List (Bool × Int) → Value → Value → Prop
  | [], v, r => v = r
  | (b, n) :: l, v, r => ∃ (k : Nat) (x : Value), v = .iface (bif b then 93 else 88) (.pointer (some ⟨k, 0, none⟩)) ∧ w.heap[k]? = some (.cells #[x, .int .i64 n] (bif b then 97 else 92)) ∧ Chn w l x r

/-- The error at a chain's bottom: a pointer of errors.New's make. -/
def bot (a : Addr) : Value := .iface 276 (.pointer (some a))

/-! closed facts -/
end Go.Proofs.YthpmkpnndbjflaaGreatDoor
