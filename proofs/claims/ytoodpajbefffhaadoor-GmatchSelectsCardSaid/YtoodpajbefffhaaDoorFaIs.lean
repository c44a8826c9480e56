/- Contracts of errors.Is over chains of fault.At and fault.In: a chain is a list of wraps around an error of errors.New's make; errors.Is tells whether the pointer at its bottom is the sentinel's. -/
import Derived.Test.YtoodpajbefffhaaDoorProg
import Derived.WalkKit
import Derived.LaidEql
import Derived.Stop.Asserts
import Derived.RowKitTokens
import Derived.Deep.LoopGhost
import Derived.Outline
import Derived.Lib.Hide
namespace Go.Proofs.YtoodpajbefffhaaDoor
open Go.RowKit Go.Extern.Stop Go.Stop Go.Extern

/-- The error at a chain's bottom: a pointer of errors.New's make. -/
def bot (a : Addr) : Value := .iface 143 (.pointer (some a))

end Go.Proofs.YtoodpajbefffhaaDoor
