/- What SetMorgan's walk keeps (gen_morgan.py). -/
import Derived.Test.YtcceiblmdjbhjaaGreatDoorSeByt
import Derived.Test.YtcceiblmdjbhjaaGreatDoorSeBel
import Derived.Lib.TrailingZeros
import Derived.Test.YtcceiblmdjbhjaaGreatDoorKSet
import Derived.Test.YtcceiblmdjbhjaaGreatDoorKRdr
import Derived.Test.YtcceiblmdjbhjaaGreatDoorScDigits
import Derived.Lib.SlBytesConst
import Derived.Deep.RegionWith
import Derived.Deep.RegionHeld3
import Derived.Below
import Derived.Laws.Rows
import Derived.Laws.StructEq
import Derived.Deep.DeepCutAuto
namespace Go.Proofs.YtcceiblmdjbhjaaGreatDoor
open Go.RowKit

/-- The others of a set. -/
def notP (p : Nat → Bool) (c : Nat) : Bool := !p c
end Go.Proofs.YtcceiblmdjbhjaaGreatDoor
