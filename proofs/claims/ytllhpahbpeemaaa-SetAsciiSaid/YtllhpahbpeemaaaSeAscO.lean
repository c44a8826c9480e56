/- SetAscii's call, opened. -/
import Derived.Test.YtllhpahbpeemaaaSeAsc
import Derived.Test.YtllhpahbpeemaaaRows
import Derived.SizedLaws
namespace Go.Proofs.Ytllhpahbpeemaaa
open Go.RowKit

theorem ascii_open {q : Prop} (W : World) (_base : Nat) (_ : q) :
    Calls Try.prog 3 #[] W fun e W' => e = .returned (.bool true) ∧ Below W.heap.size W W' := ascii_any W
end Go.Proofs.Ytllhpahbpeemaaa
