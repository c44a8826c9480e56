/-
  DERIVED. GIVEN WITH THE SEED: THE CARDS: each row of YtnpkcllbpnmabaaGreatDoorRows.lean that lists a variable, with what it lists TIED to the program's text (the seventh form; the later family's looks); each row that meets fmt, with fmt's text TOLD by the authors' own Lean function (tested against real Go, not proved from fmt's source: count such statements apart). THE CARD IS WHAT COUNTS. Prove the row's statement (the work); the ties are given (YtnpkcllbpnmabaaGreatDoorTie.lean); close each card by the builder's one call (the guide's Derived/Test/ToyasCard.lean, 'card_holds'). Laid BY PROGRAM, IN A SANDBOX (cutbox-door.mjs). By AI agents, Wed Nov 11 2026. No macro, syntax, notation, axiom, sorry.
-/
import Derived.Test.YtnpkcllbpnmabaaGreatDoorRows
import GoSem.ClaimSeven
namespace Go.Proofs.YtnpkcllbpnmabaaGreatDoor
namespace Rows

/-- THE TIED CARD OF 'pidginlaw10.SimFinds'. -/
def simFindsCard : Claim7 := { stood := { row := simFindsRow, standIns := [], harness := (true, "66f7e0af8fe543e44f8f4f60f21e2e5ecccf72675834f748ce660191ddb77748"), looks := true }, kinds := [], alts := [], laidByText := true, laidKinds := [.handle, .sentinel, .sentinel, .sentinel, .sentinel, .sentinel, .sentinel, .sentinel, .sentinel, .sentinel, .sentinel, .sentinel, .sentinel, .sentinel, .sentinel, .sentinel, .sentinel, .sentinel, .sentinel, .sentinel, .sentinel, .sentinel], laidTests := true, laidLooks := .later }
def SimFindsCardSaid : Prop := Claim7.holds Tryz.pinned (.plain (OpenSpec.ofChange simFindsSpec)) simFindsCard

/-- THE SECOND FORM's CARD OF 'pidginlaw10.SimFinds'. -/
def simFindsUptoCard : Claim7 := { stood := { row := simFindsUptoRow, standIns := [], harness := (true, "66f7e0af8fe543e44f8f4f60f21e2e5ecccf72675834f748ce660191ddb77748"), looks := true }, kinds := [], alts := [], laidByText := true, laidKinds := [.handle, .sentinel, .sentinel, .sentinel, .sentinel, .sentinel, .sentinel, .sentinel, .sentinel, .sentinel, .sentinel, .sentinel, .sentinel, .sentinel, .sentinel, .sentinel, .sentinel, .sentinel, .sentinel, .sentinel, .sentinel, .sentinel], laidTests := true, laidLooks := .later }
def SimFindsUptoCardSaid : Prop := Claim7.holds Tryz.pinned (.plain (OpenSpec.upto simFindsSpec)) simFindsUptoCard
end Rows
end Go.Proofs.YtnpkcllbpnmabaaGreatDoor
