/- Contracts of digit and isBase. -/
import Derived.Test.YtoodpajbefffhaaDoorProg
import Derived.Test.YtoodpajbefffhaaDoorScMath
import Derived.Outline
import Derived.Lib.Hide
import Derived.BigQuiet
import Derived.BigGuardPart
namespace Go.Proofs.YtoodpajbefffhaaDoor
open Go.RowKit

theorem ret_int {k : IntKind} {a b : Int} (h : a = b) : Ending.returned (.int k a) = .returned (.int k b) := by rw [h]
end Go.Proofs.YtoodpajbefffhaaDoor
