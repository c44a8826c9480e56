import Derived.Test.YtnpkcllbpnmabaaGreatDoorScDigits
import Derived.ChangeSlices
import Derived.ProofKit
import Derived.Deep.Slices
import Derived.Below
import Derived.SizedLaws
import Derived.Test.YtnpkcllbpnmabaaGreatDoorKFs
import Derived.Test.YtnpkcllbpnmabaaGreatDoorSeErr
import Derived.Test.YtnpkcllbpnmabaaGreatDoorRows
namespace Go.Proofs.YtnpkcllbpnmabaaGreatDoor
open Go.RowKit
theorem snt_esW {W : World} {e : Nat → Addr} (h : Snt W e) : Es W W.heap.size e := ⟨h.var, by
 have a := World.block_lt_of_cell? _ _ (h.var 21 (by omega) (by omega))
 have b := World.block_lt_of_cell? _ _ h.ety
 simp at a b
 omega, Nat.le_refl _⟩
end Go.Proofs.YtnpkcllbpnmabaaGreatDoor
