/- The contract of Bytes. -/
import Derived.Test.YtcceiblmdjbhjaaGreatDoorSeBel
import Derived.Lib.TrailingZeros
import Derived.Test.YtcceiblmdjbhjaaGreatDoorKSet
import Derived.Shelf.Spec.TrailingZeros
import Derived.Outline
import Derived.OwnWalk
import Derived.Laws.OwnMore
namespace Go.Proofs.YtcceiblmdjbhjaaGreatDoor
open Go.RowKit

theorem byte_row : (Tryz.prog.info? 5).map (fun i => (i.zero, i.size, i.bytes)) = some (some (.int .u8 0), 1, 1) := by kernel_rfl
end Go.Proofs.YtcceiblmdjbhjaaGreatDoor
