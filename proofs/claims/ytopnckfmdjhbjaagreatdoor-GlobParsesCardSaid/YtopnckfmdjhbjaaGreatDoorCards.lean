/-
  DERIVED. GIVEN WITH THE SEED: THE CARDS: each row of YtopnckfmdjhbjaaGreatDoorRows.lean that lists a variable, with what it lists TIED to the program's text (the seventh form; the later family's looks); each row that meets fmt, with fmt's text TOLD by the authors' own Lean function (tested against real Go, not proved from fmt's source: count such statements apart). THE CARD IS WHAT COUNTS. Prove the row's statement (the work); the ties are given (YtopnckfmdjhbjaaGreatDoorTie.lean); close each card by the builder's one call (the guide's Derived/Test/ToyasCard.lean, 'card_holds'). Laid BY PROGRAM, IN A SANDBOX (cutbox-door.mjs). By AI agents, Wed Nov 11 2026. No macro, syntax, notation, axiom, sorry.
-/
import Derived.Test.YtopnckfmdjhbjaaGreatDoorRows
import GoSem.ClaimSeven
namespace Go.Proofs.YtopnckfmdjhbjaaGreatDoor
namespace Rows

/-- THE TIED CARD OF 'pidginlaw6.GlobParses'. -/
def globParsesCard : Claim7 := { stood := { row := globParsesRow, standIns := [], harness := (true, "e5b4458a7880144bdbfa93d99792df516a966359c88bccc47e18b2382a81b706"), looks := true }, kinds := [], alts := [], laidByText := true, laidKinds := [.data, .data, .data, .data, .handle, .sentinel, .sentinel, .sentinel, .sentinel, .sentinel, .sentinel, .sentinel, .sentinel, .sentinel, .sentinel, .sentinel, .sentinel, .sentinel, .sentinel, .sentinel, .sentinel, .sentinel, .sentinel, .sentinel, .sentinel, .sentinel, .pinned, .pinned], laidTests := true, laidLooks := .later }
def GlobParsesCardSaid : Prop := Claim7.holds Tryz.pinned (.plain (OpenSpec.ofChange globParsesSpec)) globParsesCard

/-- THE TIED CARD OF 'pidginlaw6.GlobPlain'. -/
def globPlainCard : Claim7 := { stood := { row := globPlainRow, standIns := [], harness := (true, "e5b4458a7880144bdbfa93d99792df516a966359c88bccc47e18b2382a81b706"), looks := true }, kinds := [], alts := [], laidByText := true, laidKinds := [.data, .data, .data, .data, .handle, .sentinel, .sentinel, .sentinel, .sentinel, .sentinel, .sentinel, .sentinel, .sentinel, .sentinel, .sentinel, .sentinel, .sentinel, .sentinel, .sentinel, .sentinel, .sentinel, .sentinel, .sentinel, .sentinel, .sentinel, .sentinel, .pinned, .pinned], laidTests := true, laidLooks := .later }
def GlobPlainCardSaid : Prop := Claim7.holds Tryz.pinned (.plain (OpenSpec.ofChange globPlainSpec)) globPlainCard

/-- THE SECOND FORM's CARD OF 'pidginlaw6.GlobParses'. -/
def globParsesUptoCard : Claim7 := { stood := { row := globParsesUptoRow, standIns := [], harness := (true, "e5b4458a7880144bdbfa93d99792df516a966359c88bccc47e18b2382a81b706"), looks := true }, kinds := [], alts := [], laidByText := true, laidKinds := [.data, .data, .data, .data, .handle, .sentinel, .sentinel, .sentinel, .sentinel, .sentinel, .sentinel, .sentinel, .sentinel, .sentinel, .sentinel, .sentinel, .sentinel, .sentinel, .sentinel, .sentinel, .sentinel, .sentinel, .sentinel, .sentinel, .sentinel, .sentinel, .pinned, .pinned], laidTests := true, laidLooks := .later }
def GlobParsesUptoCardSaid : Prop := Claim7.holds Tryz.pinned (.plain (OpenSpec.upto globParsesSpec)) globParsesUptoCard

/-- THE SECOND FORM's CARD OF 'pidginlaw6.GlobPlain'. -/
def globPlainUptoCard : Claim7 := { stood := { row := globPlainUptoRow, standIns := [], harness := (true, "e5b4458a7880144bdbfa93d99792df516a966359c88bccc47e18b2382a81b706"), looks := true }, kinds := [], alts := [], laidByText := true, laidKinds := [.data, .data, .data, .data, .handle, .sentinel, .sentinel, .sentinel, .sentinel, .sentinel, .sentinel, .sentinel, .sentinel, .sentinel, .sentinel, .sentinel, .sentinel, .sentinel, .sentinel, .sentinel, .sentinel, .sentinel, .sentinel, .sentinel, .sentinel, .sentinel, .pinned, .pinned], laidTests := true, laidLooks := .later }
def GlobPlainUptoCardSaid : Prop := Claim7.holds Tryz.pinned (.plain (OpenSpec.upto globPlainSpec)) globPlainUptoCard
end Rows
end Go.Proofs.YtopnckfmdjhbjaaGreatDoor
