/- The contract of set.Text (gen_text.py). -/
import Derived.Test.YtcceiblmdjbhjaaGreatDoorSeBel
import Derived.Lib.TrailingZeros
import Derived.Test.YtcceiblmdjbhjaaGreatDoorKSy
import Derived.Test.YtcceiblmdjbhjaaGreatDoorScMath
import Derived.Test.YtcceiblmdjbhjaaGreatDoorScConv
import Derived.Lib.Join
import Derived.Test.YtcceiblmdjbhjaaGreatDoorShelf
import Derived.LoopTactic
import Derived.Deep.LoopGhost
import Derived.Lib.LaidTab
import Derived.Laws.BitsAllLaws
import Derived.Test.YtcceiblmdjbhjaaGreatDoorKCu
import Derived.Test.YtcceiblmdjbhjaaGreatDoorKSet
import Derived.Test.YtcceiblmdjbhjaaGreatDoorGlPat
namespace Go.Proofs.YtcceiblmdjbhjaaGreatDoor
open Go.RowKit

theorem own_shapeT {w : World} {base : Nat} {e : TypeId} {s : Nat} {v : Value} {n : Nat} {xs : List Value} (h : w.ownsRow base e s v n xs) : ∃ a0 cap, v = .slice a0 n cap := by
  obtain ⟨h1, ⟨rfl, rfl⟩ | ⟨g, cap, cur, rfl, _⟩⟩ := h
  · exact ⟨none, 0, rfl⟩
  · exact ⟨_, cap, rfl⟩
end Go.Proofs.YtcceiblmdjbhjaaGreatDoor
