/- The text of a regular expression (pure). -/
import Derived.Test.YtcceiblmdjbhjaaGreatDoorKPu
import Derived.Test.YtcceiblmdjbhjaaGreatDoorSeBel
import Derived.Lib.TrailingZeros
import Derived.Test.YtcceiblmdjbhjaaGreatDoorSeMor
import Derived.Test.YtcceiblmdjbhjaaGreatDoorScMath
import Derived.Test.YtcceiblmdjbhjaaGreatDoorScConv
import Derived.Lib.Join
import Derived.Lib.ItoaNum
import Derived.Lib.ItoaLen
import Derived.Lib.ItoaMem
import Derived.Lib.SmallJoins
namespace Go.Proofs.YtcceiblmdjbhjaaGreatDoor
open Go.RowKit

/-- How many trees there are in all. -/
def Fo.sz : Fo → Nat
  | .nil => 0
  | .cons _ _ _ _ _ kids rest => 1 + kids.sz + rest.sz
def Nd.sz (n : Nd) : Nat := 1 + n.kids.sz
def szL (l : List Nd) : Nat := (fo l).sz
theorem fo_sz_len : ∀ f : Fo, f.len ≤ f.sz
  | .nil => Nat.le_refl _
  | .cons _ _ _ _ _ kids rest => by
    have := fo_sz_len rest
    show rest.len + 1 ≤ 1 + kids.sz + rest.sz
    omega
/-! ### Of what was read -/
end Go.Proofs.YtcceiblmdjbhjaaGreatDoor
