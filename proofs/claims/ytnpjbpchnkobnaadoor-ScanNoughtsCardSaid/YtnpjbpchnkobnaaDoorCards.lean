/-
  DERIVED. GIVEN WITH THE SEED: THE CARDS: each row of YtnpjbpchnkobnaaDoorRows.lean that lists a variable, with what it lists TIED to the program's text (the seventh form; the later family's looks); each row that meets fmt, with fmt's text TOLD by the authors' own Lean function (tested against real Go, not proved from fmt's source: count such statements apart). THE CARD IS WHAT COUNTS. Prove the row's statement (the work); the ties are given (YtnpjbpchnkobnaaDoorTie.lean); close each card by the builder's one call (the guide's Derived/Test/ToyasCard.lean, 'card_holds'). Laid BY PROGRAM, IN A SANDBOX (cutbox-door.mjs). By AI agents, Wed Nov 11 2026. No macro, syntax, notation, axiom, sorry.
-/
import Derived.Test.YtnpjbpchnkobnaaDoorRows
import GoSem.ClaimSeven
namespace Go.Proofs.YtnpjbpchnkobnaaDoor
namespace Rows

/-- THE TIED CARD OF 'pidginlaw2.ScanTexts'. -/
def scanTextsCard : Claim7 := { stood := { row := scanTextsRow, standIns := [], harness := (true, "32fc27e62ef7cffa0706d53ce2f3dc2372272b2882a4cc4fa66aca35f8c3cf30"), looks := false }, kinds := [], alts := [], laidByText := true, laidKinds := [.data, .data, .data, .data, .pinned, .pinned], laidTests := true, laidLooks := .later }
def ScanTextsCardSaid : Prop := Claim7.holds Tryd.pinned (.plain (OpenSpec.ofChange scanTextsSpec)) scanTextsCard

/-- THE TIED CARD OF 'pidginlaw2.ScanBack'. -/
def scanBackCard : Claim7 := { stood := { row := scanBackRow, standIns := [], harness := (true, "32fc27e62ef7cffa0706d53ce2f3dc2372272b2882a4cc4fa66aca35f8c3cf30"), looks := false }, kinds := [], alts := [], laidByText := true, laidKinds := [.data, .data, .data, .data, .pinned, .pinned], laidTests := true, laidLooks := .later }
def ScanBackCardSaid : Prop := Claim7.holds Tryd.pinned (.plain (OpenSpec.ofChange scanBackSpec)) scanBackCard

/-- THE TIED CARD OF 'pidginlaw2.ScanNoughts'. -/
def scanNoughtsCard : Claim7 := { stood := { row := scanNoughtsRow, standIns := [], harness := (true, "32fc27e62ef7cffa0706d53ce2f3dc2372272b2882a4cc4fa66aca35f8c3cf30"), looks := false }, kinds := [], alts := [], laidByText := true, laidKinds := [.data, .data, .data, .data, .pinned, .pinned], laidTests := true, laidLooks := .later }
def ScanNoughtsCardSaid : Prop := Claim7.holds Tryd.pinned (.plain (OpenSpec.ofChange scanNoughtsSpec)) scanNoughtsCard

/-- THE SECOND FORM's CARD OF 'pidginlaw2.ScanTexts'. -/
def scanTextsUptoCard : Claim7 := { stood := { row := scanTextsUptoRow, standIns := [], harness := (true, "32fc27e62ef7cffa0706d53ce2f3dc2372272b2882a4cc4fa66aca35f8c3cf30"), looks := false }, kinds := [], alts := [], laidByText := true, laidKinds := [.data, .data, .data, .data, .pinned, .pinned], laidTests := true, laidLooks := .later }
def ScanTextsUptoCardSaid : Prop := Claim7.holds Tryd.pinned (.plain (OpenSpec.upto scanTextsSpec)) scanTextsUptoCard

/-- THE SECOND FORM's CARD OF 'pidginlaw2.ScanBack'. -/
def scanBackUptoCard : Claim7 := { stood := { row := scanBackUptoRow, standIns := [], harness := (true, "32fc27e62ef7cffa0706d53ce2f3dc2372272b2882a4cc4fa66aca35f8c3cf30"), looks := false }, kinds := [], alts := [], laidByText := true, laidKinds := [.data, .data, .data, .data, .pinned, .pinned], laidTests := true, laidLooks := .later }
def ScanBackUptoCardSaid : Prop := Claim7.holds Tryd.pinned (.plain (OpenSpec.upto scanBackSpec)) scanBackUptoCard

/-- THE SECOND FORM's CARD OF 'pidginlaw2.ScanNoughts'. -/
def scanNoughtsUptoCard : Claim7 := { stood := { row := scanNoughtsUptoRow, standIns := [], harness := (true, "32fc27e62ef7cffa0706d53ce2f3dc2372272b2882a4cc4fa66aca35f8c3cf30"), looks := false }, kinds := [], alts := [], laidByText := true, laidKinds := [.data, .data, .data, .data, .pinned, .pinned], laidTests := true, laidLooks := .later }
def ScanNoughtsUptoCardSaid : Prop := Claim7.holds Tryd.pinned (.plain (OpenSpec.upto scanNoughtsSpec)) scanNoughtsUptoCard
end Rows
end Go.Proofs.YtnpjbpchnkobnaaDoor
