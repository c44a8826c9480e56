/- Plain facts on bytes: digits and their numbers, names. No program. -/
import Derived.WalkKit
namespace Go.Proofs.YtopnckfmdjhbjaaGreatDoor

/-- The value of a digit; 16: it is none. -/
def dgt (c : Int) : Int := if 48 ≤ c ∧ c ≤ 57 then c - 48 else if 97 ≤ c ∧ c ≤ 102 then c - 87 else if 65 ≤ c ∧ c ≤ 70 then c - 55 else 16
/-- The bytes are bytes. -/
def Byt (l : List Int) : Prop := ∀ i, 0 ≤ l.getD i 0 ∧ l.getD i 0 ≤ 255

/-- The number that digits write. -/
def val (b : Int) (l : List Int) : Int := l.foldl (fun v c => v * b + dgt c) 0
end Go.Proofs.YtopnckfmdjhbjaaGreatDoor
