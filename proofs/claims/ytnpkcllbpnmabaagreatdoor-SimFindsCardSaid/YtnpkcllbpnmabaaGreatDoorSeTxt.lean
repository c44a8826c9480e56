import Derived.Test.YtnpkcllbpnmabaaGreatDoorSeBel
import Derived.Lib.TrailingZeros
import Derived.Test.YtnpkcllbpnmabaaGreatDoorKSy
import Derived.Test.YtnpkcllbpnmabaaGreatDoorScMath
import Derived.Test.YtnpkcllbpnmabaaGreatDoorScConv
import Derived.Lib.Join
import Derived.Test.YtnpkcllbpnmabaaGreatDoorShelf
import Derived.LoopTactic
import Derived.Deep.LoopGhost
import Derived.Lib.LaidTab
import Derived.Laws.BitsAllLaws
import Derived.Test.YtnpkcllbpnmabaaGreatDoorKCu
import Derived.Test.YtnpkcllbpnmabaaGreatDoorKSet
import Derived.Test.YtnpkcllbpnmabaaGreatDoorGlPat
namespace Go.Proofs.YtnpkcllbpnmabaaGreatDoor
open Go.RowKit
theorem own_shapeT {w : World} {base : Nat} {e : TypeId} {s : Nat} {v : Value} {n : Nat} {xs : List Value} (h : w.ownsRow base e s v n xs) : ∃ a0 cap, v = .slice a0 n cap := by
 obtain ⟨h1, ⟨rfl, rfl⟩ | ⟨g, cap, cur, rfl, _⟩⟩ := h
 ·exact ⟨none, 0, rfl⟩
 ·exact ⟨_, cap, rfl⟩
end Go.Proofs.YtnpkcllbpnmabaaGreatDoor
