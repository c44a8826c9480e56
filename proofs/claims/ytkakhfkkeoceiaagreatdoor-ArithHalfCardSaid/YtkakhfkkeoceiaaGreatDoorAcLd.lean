import Derived.Test.YtkakhfkkeoceiaaGreatDoorFaIs
import Derived.Test.YtkakhfkkeoceiaaGreatDoorFaSents
import Derived.Test.YtkakhfkkeoceiaaGreatDoorKWr
import Derived.Test.YtkakhfkkeoceiaaGreatDoorArErr
import Derived.Stop.LaidErr
import Derived.Lib.LaidTab
import Derived.Test.YtkakhfkkeoceiaaGreatDoorArLaid
import Derived.Test.YtkakhfkkeoceiaaGreatDoorRows
import Derived.LaidSub
namespace Go.Proofs.YtkakhfkkeoceiaaGreatDoor
open Go.RowKit
def keepA (x : String × DataW Unit) : Bool := !(x.1 == "unicode/utf8.acceptRanges") && !(x.1 == "unicode/utf8.first")
theorem ac_er {W : World} {L : List (String × DataW Unit)} (hH : (L.filter keepA).filter (fun x => x.2.handleName?.isSome) = [])
  (hL : ∃ x y, L.filter keepA = x :: y :: ("internal/strconv.uint64pow10", Lib.tabData .u64 Lib.pow10Tab) :: sentNames.map sd) (h : laidMetH Tryz.prog L W) : ∃ s, Er W s ∧ TP W :=
 ar_of_laid hH hL (laidMetH.filter keepA h)
end Go.Proofs.YtkakhfkkeoceiaaGreatDoor
