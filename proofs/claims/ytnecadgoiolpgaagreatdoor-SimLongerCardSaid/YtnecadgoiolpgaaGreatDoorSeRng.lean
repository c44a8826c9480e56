import Derived.Test.YtnecadgoiolpgaaGreatDoorKSy
import Derived.Test.YtnecadgoiolpgaaGreatDoorScOpen
import Derived.Lib.LaidTab
import Derived.LaidMore
import Derived.Stop.LaidErr
import Derived.ChangeMaps5
namespace Go.Proofs.YtnecadgoiolpgaaGreatDoor
open Go.RowKit
theorem byt_app {l m : List Int} (h : Byt l) (h' : Byt m) : Byt (l ++ m) := fun i => by
 by_cases hi : i < l.length
 ·have := h i
  simpa [List.getD, List.getElem?_append, hi] using this
 ·have := h' (i - l.length)
  simpa [List.getD, List.getElem?_append, hi] using this
end Go.Proofs.YtnecadgoiolpgaaGreatDoor
