/- Plain facts on bytes: digits and their numbers, names. No program. -/
import Derived.WalkKit
namespace Go.Proofs.YtoodpajbefffhaaDoor

/-- The bytes are bytes. -/
def Byt (l : List Int) : Prop := ∀ i, 0 ≤ l.getD i 0 ∧ l.getD i 0 ≤ 255

end Go.Proofs.YtoodpajbefffhaaDoor
