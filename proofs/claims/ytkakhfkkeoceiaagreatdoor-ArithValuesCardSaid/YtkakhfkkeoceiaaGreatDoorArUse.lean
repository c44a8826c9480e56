import Derived.Test.YtkakhfkkeoceiaaGreatDoorKPa
import Derived.Test.YtkakhfkkeoceiaaGreatDoorArText
import Derived.Lib.SlBytesConst
import Derived.Test.YtkakhfkkeoceiaaGreatDoorKTx
import Derived.Test.YtkakhfkkeoceiaaGreatDoorFaTell
import Derived.Test.YtkakhfkkeoceiaaGreatDoorFaSnt
import Derived.Deep.RegionHeld3
import Derived.Deep.RegionWith
namespace Go.Proofs.YtkakhfkkeoceiaaGreatDoor
open Go.RowKit Go.Extern.Stop Go.Stop Go.Extern
theorem tell_err (s : Nat → Addr) (c p : Nat) (v : Value) (w : World) (hs : Snt w s) (h : ErrAt w s c p v) (h1 : 1 ≤ c) (h2 : c ≤ 21) :
  Calls Tryz.prog 25 #[v] w fun e w' => e = .returned (.agg #[.int .i64 c, .int .i64 p, .int .i64 1]) ∧ Below w.heap.size w w' := by
 have := tell_any [(true, 1), (false, (p : Int))] v (s c) s c w hs (hs.rt c h1 h2) h
 simpa [firstOf] using this
end Go.Proofs.YtkakhfkkeoceiaaGreatDoor
