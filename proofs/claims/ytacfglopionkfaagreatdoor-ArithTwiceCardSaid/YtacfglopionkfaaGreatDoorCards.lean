/-
  DERIVED. GIVEN WITH THE SEED: THE CARDS: each row of YtacfglopionkfaaGreatDoorRows.lean that lists a variable, with what it lists TIED to the program's text (the seventh form; the later family's looks); each row that meets fmt, with fmt's text TOLD by the authors' own Lean function (tested against real Go, not proved from fmt's source: count such statements apart). THE CARD IS WHAT COUNTS. Prove the row's statement (the work); the ties are given (YtacfglopionkfaaGreatDoorTie.lean); close each card by the builder's one call (the guide's Derived/Test/ToyasCard.lean, 'card_holds'). Laid BY PROGRAM, IN A SANDBOX (cutbox-door.mjs). By AI agents, Wed Nov 11 2026. No macro, syntax, notation, axiom, sorry.
-/
import Derived.Test.YtacfglopionkfaaGreatDoorRows
import GoSem.ClaimSeven
namespace Go.Proofs.YtacfglopionkfaaGreatDoor
namespace Rows

/-- THE TIED CARD OF 'pidginlaw3.ArithLong'. -/
def arithLongCard : Claim7 := { stood := { row := arithLongRow, standIns := [], harness := (true, "5e99463e7ca552e32b4de86ed9dbc75450fca749641f3a8fb51e19bcf2592890"), looks := true }, kinds := [], alts := [], laidByText := true, laidKinds := [.data, .data, .data, .handle, .sentinel, .sentinel, .sentinel, .sentinel, .sentinel, .sentinel, .sentinel, .sentinel, .sentinel, .sentinel, .sentinel, .sentinel, .sentinel, .sentinel, .sentinel, .sentinel, .sentinel, .sentinel, .sentinel, .sentinel, .sentinel], laidTests := true, laidLooks := .later }
def ArithLongCardSaid : Prop := Claim7.holds Tryz.pinned (.plain (OpenSpec.ofChange arithLongSpec)) arithLongCard

/-- THE TIED CARD OF 'pidginlaw4.VarsKeep'. -/
def varsKeepCard : Claim7 := { stood := { row := varsKeepRow, standIns := [], harness := (true, "5e99463e7ca552e32b4de86ed9dbc75450fca749641f3a8fb51e19bcf2592890"), looks := true }, kinds := [], alts := [], laidByText := true, laidKinds := [.data, .data, .data, .data, .sentinel, .sentinel, .sentinel, .sentinel, .sentinel, .sentinel, .sentinel, .sentinel, .sentinel, .sentinel, .sentinel, .sentinel, .sentinel, .sentinel, .sentinel, .sentinel, .sentinel, .sentinel, .sentinel, .sentinel, .sentinel, .pinned], laidTests := true, laidLooks := .later }
def VarsKeepCardSaid : Prop := Claim7.holds Tryz.pinned (.plain (OpenSpec.ofChange varsKeepSpec)) varsKeepCard

/-- THE TIED CARD OF 'pidginlaw4.ArithRuns'. -/
def arithRunsCard : Claim7 := { stood := { row := arithRunsRow, standIns := [], harness := (true, "5e99463e7ca552e32b4de86ed9dbc75450fca749641f3a8fb51e19bcf2592890"), looks := true }, kinds := [], alts := [], laidByText := true, laidKinds := [.data, .data, .data, .data, .handle, .sentinel, .sentinel, .sentinel, .sentinel, .sentinel, .sentinel, .sentinel, .sentinel, .sentinel, .sentinel, .sentinel, .sentinel, .sentinel, .sentinel, .sentinel, .sentinel, .sentinel, .sentinel, .sentinel, .sentinel, .sentinel, .pinned], laidTests := true, laidLooks := .later }
def ArithRunsCardSaid : Prop := Claim7.holds Tryz.pinned (.plain (OpenSpec.ofChange arithRunsSpec)) arithRunsCard

/-- THE TIED CARD OF 'pidginlaw4.ArithTwice'. -/
def arithTwiceCard : Claim7 := { stood := { row := arithTwiceRow, standIns := [], harness := (true, "5e99463e7ca552e32b4de86ed9dbc75450fca749641f3a8fb51e19bcf2592890"), looks := true }, kinds := [], alts := [], laidByText := true, laidKinds := [.data, .data, .data, .data, .handle, .sentinel, .sentinel, .sentinel, .sentinel, .sentinel, .sentinel, .sentinel, .sentinel, .sentinel, .sentinel, .sentinel, .sentinel, .sentinel, .sentinel, .sentinel, .sentinel, .sentinel, .sentinel, .sentinel, .sentinel, .sentinel, .pinned], laidTests := true, laidLooks := .later }
def ArithTwiceCardSaid : Prop := Claim7.holds Tryz.pinned (.plain (OpenSpec.ofChange arithTwiceSpec)) arithTwiceCard

/-- THE TIED CARD OF 'pidginlaw4.ArithLaws'. -/
def arithLawsCard : Claim7 := { stood := { row := arithLawsRow, standIns := [], harness := (true, "5e99463e7ca552e32b4de86ed9dbc75450fca749641f3a8fb51e19bcf2592890"), looks := true }, kinds := [], alts := [], laidByText := true, laidKinds := [.data, .data, .data, .data, .sentinel, .sentinel, .sentinel, .sentinel, .sentinel, .sentinel, .sentinel, .sentinel, .sentinel, .sentinel, .sentinel, .sentinel, .sentinel, .sentinel, .sentinel, .sentinel, .sentinel, .sentinel, .sentinel, .sentinel, .sentinel, .pinned], laidTests := true, laidLooks := .later }
def ArithLawsCardSaid : Prop := Claim7.holds Tryz.pinned (.plain (OpenSpec.ofChange arithLawsSpec)) arithLawsCard

/-- THE TIED CARD OF 'pidginlaw4.ArithSets'. -/
def arithSetsCard : Claim7 := { stood := { row := arithSetsRow, standIns := [], harness := (true, "5e99463e7ca552e32b4de86ed9dbc75450fca749641f3a8fb51e19bcf2592890"), looks := true }, kinds := [], alts := [], laidByText := true, laidKinds := [.data, .data, .data, .data, .handle, .sentinel, .sentinel, .sentinel, .sentinel, .sentinel, .sentinel, .sentinel, .sentinel, .sentinel, .sentinel, .sentinel, .sentinel, .sentinel, .sentinel, .sentinel, .sentinel, .sentinel, .sentinel, .sentinel, .sentinel, .sentinel, .pinned], laidTests := true, laidLooks := .later }
def ArithSetsCardSaid : Prop := Claim7.holds Tryz.pinned (.plain (OpenSpec.ofChange arithSetsSpec)) arithSetsCard

/-- THE SECOND FORM's CARD OF 'pidginlaw3.ArithLong'. -/
def arithLongUptoCard : Claim7 := { stood := { row := arithLongUptoRow, standIns := [], harness := (true, "5e99463e7ca552e32b4de86ed9dbc75450fca749641f3a8fb51e19bcf2592890"), looks := true }, kinds := [], alts := [], laidByText := true, laidKinds := [.data, .data, .data, .handle, .sentinel, .sentinel, .sentinel, .sentinel, .sentinel, .sentinel, .sentinel, .sentinel, .sentinel, .sentinel, .sentinel, .sentinel, .sentinel, .sentinel, .sentinel, .sentinel, .sentinel, .sentinel, .sentinel, .sentinel, .sentinel], laidTests := true, laidLooks := .later }
def ArithLongUptoCardSaid : Prop := Claim7.holds Tryz.pinned (.plain (OpenSpec.upto arithLongSpec)) arithLongUptoCard

/-- THE SECOND FORM's CARD OF 'pidginlaw4.VarsKeep'. -/
def varsKeepUptoCard : Claim7 := { stood := { row := varsKeepUptoRow, standIns := [], harness := (true, "5e99463e7ca552e32b4de86ed9dbc75450fca749641f3a8fb51e19bcf2592890"), looks := true }, kinds := [], alts := [], laidByText := true, laidKinds := [.data, .data, .data, .data, .sentinel, .sentinel, .sentinel, .sentinel, .sentinel, .sentinel, .sentinel, .sentinel, .sentinel, .sentinel, .sentinel, .sentinel, .sentinel, .sentinel, .sentinel, .sentinel, .sentinel, .sentinel, .sentinel, .sentinel, .sentinel, .pinned], laidTests := true, laidLooks := .later }
def VarsKeepUptoCardSaid : Prop := Claim7.holds Tryz.pinned (.plain (OpenSpec.upto varsKeepSpec)) varsKeepUptoCard

/-- THE SECOND FORM's CARD OF 'pidginlaw4.ArithRuns'. -/
def arithRunsUptoCard : Claim7 := { stood := { row := arithRunsUptoRow, standIns := [], harness := (true, "5e99463e7ca552e32b4de86ed9dbc75450fca749641f3a8fb51e19bcf2592890"), looks := true }, kinds := [], alts := [], laidByText := true, laidKinds := [.data, .data, .data, .data, .handle, .sentinel, .sentinel, .sentinel, .sentinel, .sentinel, .sentinel, .sentinel, .sentinel, .sentinel, .sentinel, .sentinel, .sentinel, .sentinel, .sentinel, .sentinel, .sentinel, .sentinel, .sentinel, .sentinel, .sentinel, .sentinel, .pinned], laidTests := true, laidLooks := .later }
def ArithRunsUptoCardSaid : Prop := Claim7.holds Tryz.pinned (.plain (OpenSpec.upto arithRunsSpec)) arithRunsUptoCard

/-- THE SECOND FORM's CARD OF 'pidginlaw4.ArithTwice'. -/
def arithTwiceUptoCard : Claim7 := { stood := { row := arithTwiceUptoRow, standIns := [], harness := (true, "5e99463e7ca552e32b4de86ed9dbc75450fca749641f3a8fb51e19bcf2592890"), looks := true }, kinds := [], alts := [], laidByText := true, laidKinds := [.data, .data, .data, .data, .handle, .sentinel, .sentinel, .sentinel, .sentinel, .sentinel, .sentinel, .sentinel, .sentinel, .sentinel, .sentinel, .sentinel, .sentinel, .sentinel, .sentinel, .sentinel, .sentinel, .sentinel, .sentinel, .sentinel, .sentinel, .sentinel, .pinned], laidTests := true, laidLooks := .later }
def ArithTwiceUptoCardSaid : Prop := Claim7.holds Tryz.pinned (.plain (OpenSpec.upto arithTwiceSpec)) arithTwiceUptoCard

/-- THE SECOND FORM's CARD OF 'pidginlaw4.ArithLaws'. -/
def arithLawsUptoCard : Claim7 := { stood := { row := arithLawsUptoRow, standIns := [], harness := (true, "5e99463e7ca552e32b4de86ed9dbc75450fca749641f3a8fb51e19bcf2592890"), looks := true }, kinds := [], alts := [], laidByText := true, laidKinds := [.data, .data, .data, .data, .sentinel, .sentinel, .sentinel, .sentinel, .sentinel, .sentinel, .sentinel, .sentinel, .sentinel, .sentinel, .sentinel, .sentinel, .sentinel, .sentinel, .sentinel, .sentinel, .sentinel, .sentinel, .sentinel, .sentinel, .sentinel, .pinned], laidTests := true, laidLooks := .later }
def ArithLawsUptoCardSaid : Prop := Claim7.holds Tryz.pinned (.plain (OpenSpec.upto arithLawsSpec)) arithLawsUptoCard

/-- THE SECOND FORM's CARD OF 'pidginlaw4.ArithSets'. -/
def arithSetsUptoCard : Claim7 := { stood := { row := arithSetsUptoRow, standIns := [], harness := (true, "5e99463e7ca552e32b4de86ed9dbc75450fca749641f3a8fb51e19bcf2592890"), looks := true }, kinds := [], alts := [], laidByText := true, laidKinds := [.data, .data, .data, .data, .handle, .sentinel, .sentinel, .sentinel, .sentinel, .sentinel, .sentinel, .sentinel, .sentinel, .sentinel, .sentinel, .sentinel, .sentinel, .sentinel, .sentinel, .sentinel, .sentinel, .sentinel, .sentinel, .sentinel, .sentinel, .sentinel, .pinned], laidTests := true, laidLooks := .later }
def ArithSetsUptoCardSaid : Prop := Claim7.holds Tryz.pinned (.plain (OpenSpec.upto arithSetsSpec)) arithSetsUptoCard
end Rows
end Go.Proofs.YtacfglopionkfaaGreatDoor
