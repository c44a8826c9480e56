/-
  DERIVED. GIVEN WITH THE SEED: THE CARDS: each row of YtoodpajbefffhaaDoorRows.lean that lists a variable, with what it lists TIED to the program's text (the seventh form; the later family's looks); each row that meets fmt, with fmt's text TOLD by the authors' own Lean function (tested against real Go, not proved from fmt's source: count such statements apart). THE CARD IS WHAT COUNTS. Prove the row's statement (the work); the ties are given (YtoodpajbefffhaaDoorTie.lean); close each card by the builder's one call (the guide's Derived/Test/ToyasCard.lean, 'card_holds'). Laid BY PROGRAM, IN A SANDBOX (cutbox-door.mjs). By AI agents, Wed Nov 11 2026. No macro, syntax, notation, axiom, sorry.
-/
import Derived.Test.YtoodpajbefffhaaDoorRows
import GoSem.ClaimSeven
namespace Go.Proofs.YtoodpajbefffhaaDoor
namespace Rows

/-- THE TIED CARD OF 'pidginlaw7.GmatchSelects'. -/
def gmatchSelectsCard : Claim7 := { stood := { row := gmatchSelectsRow, standIns := [], harness := (true, "4352e2daaefc0a5b7186b95045332211611f5e2c88c7ae2915a8bf434f637f4d"), looks := false }, kinds := [], alts := [], laidByText := true, laidKinds := [.data, .sentinel, .sentinel, .sentinel, .sentinel, .sentinel, .sentinel, .sentinel, .sentinel, .sentinel, .sentinel, .sentinel, .sentinel, .sentinel, .sentinel, .sentinel, .sentinel, .sentinel, .sentinel, .sentinel, .sentinel, .sentinel], laidTests := true, laidLooks := .later }
def GmatchSelectsCardSaid : Prop := Claim7.holds Tryd.pinned (.plain (OpenSpec.ofChange gmatchSelectsSpec)) gmatchSelectsCard

/-- THE SECOND FORM's CARD OF 'pidginlaw7.GmatchSelects'. -/
def gmatchSelectsUptoCard : Claim7 := { stood := { row := gmatchSelectsUptoRow, standIns := [], harness := (true, "4352e2daaefc0a5b7186b95045332211611f5e2c88c7ae2915a8bf434f637f4d"), looks := false }, kinds := [], alts := [], laidByText := true, laidKinds := [.data, .sentinel, .sentinel, .sentinel, .sentinel, .sentinel, .sentinel, .sentinel, .sentinel, .sentinel, .sentinel, .sentinel, .sentinel, .sentinel, .sentinel, .sentinel, .sentinel, .sentinel, .sentinel, .sentinel, .sentinel, .sentinel], laidTests := true, laidLooks := .later }
def GmatchSelectsUptoCardSaid : Prop := Claim7.holds Tryd.pinned (.plain (OpenSpec.upto gmatchSelectsSpec)) gmatchSelectsUptoCard
end Rows
end Go.Proofs.YtoodpajbefffhaaDoor
