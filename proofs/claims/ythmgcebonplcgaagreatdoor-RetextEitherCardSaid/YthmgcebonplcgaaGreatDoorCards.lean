/-
  DERIVED. GIVEN WITH THE SEED: THE CARDS: each row of YthmgcebonplcgaaGreatDoorRows.lean that lists a variable, with what it lists TIED to the program's text (the seventh form; the later family's looks); each row that meets fmt, with fmt's text TOLD by the authors' own Lean function (tested against real Go, not proved from fmt's source: count such statements apart). THE CARD IS WHAT COUNTS. Prove the row's statement (the work); the ties are given (YthmgcebonplcgaaGreatDoorTie.lean); close each card by the builder's one call (the guide's Derived/Test/ToyasCard.lean, 'card_holds'). Laid BY PROGRAM, IN A SANDBOX (cutbox-door.mjs). By AI agents, Wed Nov 11 2026. No macro, syntax, notation, axiom, sorry.
-/
import Derived.Test.YthmgcebonplcgaaGreatDoorRows
import GoSem.ClaimSeven
namespace Go.Proofs.YthmgcebonplcgaaGreatDoor
namespace Rows

/-- THE TIED CARD OF 'pidginlaw8.RetextEither'. -/
def retextEitherCard : Claim7 := { stood := { row := retextEitherRow, standIns := [], harness := (true, "62b6e73afe9c88577f204c94a2b65c485700f8d91be1c8979bb26b4b5bc5318d"), looks := true }, kinds := [], alts := [], laidByText := true, laidKinds := [.data, .data, .data, .data, .handle, .sentinel, .sentinel, .sentinel, .sentinel, .sentinel, .sentinel, .sentinel, .sentinel, .sentinel, .sentinel, .sentinel, .sentinel, .sentinel, .sentinel, .sentinel, .sentinel, .sentinel, .sentinel, .sentinel, .sentinel, .sentinel, .pinned, .pinned], laidTests := true, laidLooks := .later }
def RetextEitherCardSaid : Prop := Claim7.holds Tryz.pinned (.plain (OpenSpec.ofChange retextEitherSpec)) retextEitherCard

/-- THE SECOND FORM's CARD OF 'pidginlaw8.RetextEither'. -/
def retextEitherUptoCard : Claim7 := { stood := { row := retextEitherUptoRow, standIns := [], harness := (true, "62b6e73afe9c88577f204c94a2b65c485700f8d91be1c8979bb26b4b5bc5318d"), looks := true }, kinds := [], alts := [], laidByText := true, laidKinds := [.data, .data, .data, .data, .handle, .sentinel, .sentinel, .sentinel, .sentinel, .sentinel, .sentinel, .sentinel, .sentinel, .sentinel, .sentinel, .sentinel, .sentinel, .sentinel, .sentinel, .sentinel, .sentinel, .sentinel, .sentinel, .sentinel, .sentinel, .sentinel, .pinned, .pinned], laidTests := true, laidLooks := .later }
def RetextEitherUptoCardSaid : Prop := Claim7.holds Tryz.pinned (.plain (OpenSpec.upto retextEitherSpec)) retextEitherUptoCard
end Rows
end Go.Proofs.YthmgcebonplcgaaGreatDoor
