import Derived.Test.YtkakhfkkeoceiaaGreatDoorProg
import Derived.WalkKit
import Derived.LaidEql
import Derived.Stop.Asserts
import Derived.RowKitTokens
import Derived.Deep.LoopGhost
import Derived.Outline
import Derived.Lib.Hide
namespace Go.Proofs.YtkakhfkkeoceiaaGreatDoor
open Go.RowKit Go.Extern.Stop Go.Stop Go.Extern
def Chn (w : World) : List (Bool × Int) → Value → Value → Prop
 | [], v, r => v = r
 | (b, n) :: l, v, r => ∃ (k : Nat) (x : Value), v = .iface (bif b then 96 else 91) (.pointer (some ⟨k, 0, none⟩)) ∧ w.heap[k]? = some (.cells #[x, .int .i64 n] (bif b then 100 else 95)) ∧ Chn w l x r
def bot (a : Addr) : Value := .iface 277 (.pointer (some a))
end Go.Proofs.YtkakhfkkeoceiaaGreatDoor
