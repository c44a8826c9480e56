import Derived.Test.YtkakhfkkeoceiaaGreatDoorFaSnt
import Derived.Test.YtkakhfkkeoceiaaGreatDoorKWr
import Derived.Test.YtkakhfkkeoceiaaGreatDoorFaSents
import Derived.Stop.LaidErr
import Derived.Lib.LaidTab
import Derived.Test.YtkakhfkkeoceiaaGreatDoorRows
import Derived.LaidSub
namespace Go.Proofs.YtkakhfkkeoceiaaGreatDoor
open Go.RowKit
def keepA (x : String × DataW Unit) : Bool := !(x.1 == "unicode/utf8.acceptRanges") && !(x.1 == "unicode/utf8.first")
theorem ac_snt {W : World} {L : List (String × DataW Unit)} (hL : ∃ x y, (L.filter keepA).filter (fun x => x.2.handleName?.isNone) = x :: y :: ("internal/strconv.uint64pow10", Lib.tabData .u64 Lib.pow10Tab) :: sentNames.map sd)
  (hH : (L.filter keepA).filter (fun x => x.2.handleName?.isSome) = [("errors.errorType", .iface "internal/reflectlite.rtype" (.agg [.ptr (.lit (.string [101, 114, 114, 111, 114]))]))]) (h : laidMetH Tryz.prog L W) : ∃ s, Snt W s ∧ TP W :=
 art_of_laid hL hH (laidMetH.filter keepA h)
end Go.Proofs.YtkakhfkkeoceiaaGreatDoor
