/-
  DERIVED. GIVEN WITH THE SEED: THE CARDS: each row of YtcceiblmdjbhjaaGreatDoorRows.lean that lists a variable, with what it lists TIED to the program's text (the seventh form; the later family's looks); each row that meets fmt, with fmt's text TOLD by the authors' own Lean function (tested against real Go, not proved from fmt's source: count such statements apart). THE CARD IS WHAT COUNTS. Prove the row's statement (the work); the ties are given (YtcceiblmdjbhjaaGreatDoorTie.lean); close each card by the builder's one call (the guide's Derived/Test/ToyasCard.lean, 'card_holds'). Laid BY PROGRAM, IN A SANDBOX (cutbox-door.mjs). By AI agents, Wed Nov 11 2026. No macro, syntax, notation, axiom, sorry.
-/
import Derived.Test.YtcceiblmdjbhjaaGreatDoorRows
import GoSem.ClaimSeven
namespace Go.Proofs.YtcceiblmdjbhjaaGreatDoor
namespace Rows

/-- THE TIED CARD OF 'pidginlaw9.NfaWeighs'. -/
def nfaWeighsCard : Claim7 := { stood := { row := nfaWeighsRow, standIns := [], harness := (true, "3060b5296b06851c36c763d35d3eb7f4b1ea6c49abc1919f651067ce9cdce6d7"), looks := true }, kinds := [], alts := [], laidByText := true, laidKinds := [.handle, .sentinel, .sentinel, .sentinel, .sentinel, .sentinel, .sentinel, .sentinel, .sentinel, .sentinel, .sentinel, .sentinel, .sentinel, .sentinel, .sentinel, .sentinel, .sentinel, .sentinel, .sentinel, .sentinel, .sentinel, .sentinel], laidTests := true, laidLooks := .later }
def NfaWeighsCardSaid : Prop := Claim7.holds Tryz.pinned (.plain (OpenSpec.ofChange nfaWeighsSpec)) nfaWeighsCard

/-- THE TIED CARD OF 'pidginlaw9.NfaAccepts'. -/
def nfaAcceptsCard : Claim7 := { stood := { row := nfaAcceptsRow, standIns := [], harness := (true, "3060b5296b06851c36c763d35d3eb7f4b1ea6c49abc1919f651067ce9cdce6d7"), looks := true }, kinds := [], alts := [], laidByText := true, laidKinds := [.handle, .sentinel, .sentinel, .sentinel, .sentinel, .sentinel, .sentinel, .sentinel, .sentinel, .sentinel, .sentinel, .sentinel, .sentinel, .sentinel, .sentinel, .sentinel, .sentinel, .sentinel, .sentinel, .sentinel, .sentinel, .sentinel], laidTests := true, laidLooks := .later }
def NfaAcceptsCardSaid : Prop := Claim7.holds Tryz.pinned (.plain (OpenSpec.ofChange nfaAcceptsSpec)) nfaAcceptsCard

/-- THE TIED CARD OF 'pidginlaw9.NfaNil'. -/
def nfaNilCard : Claim7 := { stood := { row := nfaNilRow, standIns := [], harness := (true, "3060b5296b06851c36c763d35d3eb7f4b1ea6c49abc1919f651067ce9cdce6d7"), looks := true }, kinds := [], alts := [], laidByText := true, laidKinds := [.handle, .sentinel, .sentinel, .sentinel, .sentinel, .sentinel, .sentinel, .sentinel, .sentinel, .sentinel, .sentinel, .sentinel, .sentinel, .sentinel, .sentinel, .sentinel, .sentinel, .sentinel, .sentinel, .sentinel, .sentinel, .sentinel], laidTests := true, laidLooks := .later }
def NfaNilCardSaid : Prop := Claim7.holds Tryz.pinned (.plain (OpenSpec.ofChange nfaNilSpec)) nfaNilCard

/-- THE TIED CARD OF 'pidginlaw9.NfaSums'. -/
def nfaSumsCard : Claim7 := { stood := { row := nfaSumsRow, standIns := [], harness := (true, "3060b5296b06851c36c763d35d3eb7f4b1ea6c49abc1919f651067ce9cdce6d7"), looks := true }, kinds := [], alts := [], laidByText := true, laidKinds := [.handle, .sentinel, .sentinel, .sentinel, .sentinel, .sentinel, .sentinel, .sentinel, .sentinel, .sentinel, .sentinel, .sentinel, .sentinel, .sentinel, .sentinel, .sentinel, .sentinel, .sentinel, .sentinel, .sentinel, .sentinel, .sentinel], laidTests := true, laidLooks := .later }
def NfaSumsCardSaid : Prop := Claim7.holds Tryz.pinned (.plain (OpenSpec.ofChange nfaSumsSpec)) nfaSumsCard

/-- THE TIED CARD OF 'pidginlaw9.NfaGrammars'. -/
def nfaGrammarsCard : Claim7 := { stood := { row := nfaGrammarsRow, standIns := [], harness := (true, "3060b5296b06851c36c763d35d3eb7f4b1ea6c49abc1919f651067ce9cdce6d7"), looks := true }, kinds := [], alts := [], laidByText := true, laidKinds := [.handle, .sentinel, .sentinel, .sentinel, .sentinel, .sentinel, .sentinel, .sentinel, .sentinel, .sentinel, .sentinel, .sentinel, .sentinel, .sentinel, .sentinel, .sentinel, .sentinel, .sentinel, .sentinel, .sentinel, .sentinel, .sentinel], laidTests := true, laidLooks := .later }
def NfaGrammarsCardSaid : Prop := Claim7.holds Tryz.pinned (.plain (OpenSpec.ofChange nfaGrammarsSpec)) nfaGrammarsCard

/-- THE TIED CARD OF 'pidginlaw9.NfaCuts'. -/
def nfaCutsCard : Claim7 := { stood := { row := nfaCutsRow, standIns := [], harness := (true, "3060b5296b06851c36c763d35d3eb7f4b1ea6c49abc1919f651067ce9cdce6d7"), looks := true }, kinds := [], alts := [], laidByText := true, laidKinds := [.handle, .sentinel, .sentinel, .sentinel, .sentinel, .sentinel, .sentinel, .sentinel, .sentinel, .sentinel, .sentinel, .sentinel, .sentinel, .sentinel, .sentinel, .sentinel, .sentinel, .sentinel, .sentinel, .sentinel, .sentinel, .sentinel], laidTests := true, laidLooks := .later }
def NfaCutsCardSaid : Prop := Claim7.holds Tryz.pinned (.plain (OpenSpec.ofChange nfaCutsSpec)) nfaCutsCard

/-- THE TIED CARD OF 'pidginlaw9.NfaLiteral'. -/
def nfaLiteralCard : Claim7 := { stood := { row := nfaLiteralRow, standIns := [], harness := (true, "3060b5296b06851c36c763d35d3eb7f4b1ea6c49abc1919f651067ce9cdce6d7"), looks := true }, kinds := [], alts := [], laidByText := true, laidKinds := [.handle, .sentinel, .sentinel, .sentinel, .sentinel, .sentinel, .sentinel, .sentinel, .sentinel, .sentinel, .sentinel, .sentinel, .sentinel, .sentinel, .sentinel, .sentinel, .sentinel, .sentinel, .sentinel, .sentinel, .sentinel, .sentinel], laidTests := true, laidLooks := .later }
def NfaLiteralCardSaid : Prop := Claim7.holds Tryz.pinned (.plain (OpenSpec.ofChange nfaLiteralSpec)) nfaLiteralCard

/-- THE TIED CARD OF 'pidginlaw9.NfaTimes'. -/
def nfaTimesCard : Claim7 := { stood := { row := nfaTimesRow, standIns := [], harness := (true, "3060b5296b06851c36c763d35d3eb7f4b1ea6c49abc1919f651067ce9cdce6d7"), looks := true }, kinds := [], alts := [], laidByText := true, laidKinds := [.handle, .sentinel, .sentinel, .sentinel, .sentinel, .sentinel, .sentinel, .sentinel, .sentinel, .sentinel, .sentinel, .sentinel, .sentinel, .sentinel, .sentinel, .sentinel, .sentinel, .sentinel, .sentinel, .sentinel, .sentinel, .sentinel], laidTests := true, laidLooks := .later }
def NfaTimesCardSaid : Prop := Claim7.holds Tryz.pinned (.plain (OpenSpec.ofChange nfaTimesSpec)) nfaTimesCard

/-- THE SECOND FORM's CARD OF 'pidginlaw9.NfaWeighs'. -/
def nfaWeighsUptoCard : Claim7 := { stood := { row := nfaWeighsUptoRow, standIns := [], harness := (true, "3060b5296b06851c36c763d35d3eb7f4b1ea6c49abc1919f651067ce9cdce6d7"), looks := true }, kinds := [], alts := [], laidByText := true, laidKinds := [.handle, .sentinel, .sentinel, .sentinel, .sentinel, .sentinel, .sentinel, .sentinel, .sentinel, .sentinel, .sentinel, .sentinel, .sentinel, .sentinel, .sentinel, .sentinel, .sentinel, .sentinel, .sentinel, .sentinel, .sentinel, .sentinel], laidTests := true, laidLooks := .later }
def NfaWeighsUptoCardSaid : Prop := Claim7.holds Tryz.pinned (.plain (OpenSpec.upto nfaWeighsSpec)) nfaWeighsUptoCard

/-- THE SECOND FORM's CARD OF 'pidginlaw9.NfaAccepts'. -/
def nfaAcceptsUptoCard : Claim7 := { stood := { row := nfaAcceptsUptoRow, standIns := [], harness := (true, "3060b5296b06851c36c763d35d3eb7f4b1ea6c49abc1919f651067ce9cdce6d7"), looks := true }, kinds := [], alts := [], laidByText := true, laidKinds := [.handle, .sentinel, .sentinel, .sentinel, .sentinel, .sentinel, .sentinel, .sentinel, .sentinel, .sentinel, .sentinel, .sentinel, .sentinel, .sentinel, .sentinel, .sentinel, .sentinel, .sentinel, .sentinel, .sentinel, .sentinel, .sentinel], laidTests := true, laidLooks := .later }
def NfaAcceptsUptoCardSaid : Prop := Claim7.holds Tryz.pinned (.plain (OpenSpec.upto nfaAcceptsSpec)) nfaAcceptsUptoCard

/-- THE SECOND FORM's CARD OF 'pidginlaw9.NfaNil'. -/
def nfaNilUptoCard : Claim7 := { stood := { row := nfaNilUptoRow, standIns := [], harness := (true, "3060b5296b06851c36c763d35d3eb7f4b1ea6c49abc1919f651067ce9cdce6d7"), looks := true }, kinds := [], alts := [], laidByText := true, laidKinds := [.handle, .sentinel, .sentinel, .sentinel, .sentinel, .sentinel, .sentinel, .sentinel, .sentinel, .sentinel, .sentinel, .sentinel, .sentinel, .sentinel, .sentinel, .sentinel, .sentinel, .sentinel, .sentinel, .sentinel, .sentinel, .sentinel], laidTests := true, laidLooks := .later }
def NfaNilUptoCardSaid : Prop := Claim7.holds Tryz.pinned (.plain (OpenSpec.upto nfaNilSpec)) nfaNilUptoCard

/-- THE SECOND FORM's CARD OF 'pidginlaw9.NfaSums'. -/
def nfaSumsUptoCard : Claim7 := { stood := { row := nfaSumsUptoRow, standIns := [], harness := (true, "3060b5296b06851c36c763d35d3eb7f4b1ea6c49abc1919f651067ce9cdce6d7"), looks := true }, kinds := [], alts := [], laidByText := true, laidKinds := [.handle, .sentinel, .sentinel, .sentinel, .sentinel, .sentinel, .sentinel, .sentinel, .sentinel, .sentinel, .sentinel, .sentinel, .sentinel, .sentinel, .sentinel, .sentinel, .sentinel, .sentinel, .sentinel, .sentinel, .sentinel, .sentinel], laidTests := true, laidLooks := .later }
def NfaSumsUptoCardSaid : Prop := Claim7.holds Tryz.pinned (.plain (OpenSpec.upto nfaSumsSpec)) nfaSumsUptoCard

/-- THE SECOND FORM's CARD OF 'pidginlaw9.NfaGrammars'. -/
def nfaGrammarsUptoCard : Claim7 := { stood := { row := nfaGrammarsUptoRow, standIns := [], harness := (true, "3060b5296b06851c36c763d35d3eb7f4b1ea6c49abc1919f651067ce9cdce6d7"), looks := true }, kinds := [], alts := [], laidByText := true, laidKinds := [.handle, .sentinel, .sentinel, .sentinel, .sentinel, .sentinel, .sentinel, .sentinel, .sentinel, .sentinel, .sentinel, .sentinel, .sentinel, .sentinel, .sentinel, .sentinel, .sentinel, .sentinel, .sentinel, .sentinel, .sentinel, .sentinel], laidTests := true, laidLooks := .later }
def NfaGrammarsUptoCardSaid : Prop := Claim7.holds Tryz.pinned (.plain (OpenSpec.upto nfaGrammarsSpec)) nfaGrammarsUptoCard

/-- THE SECOND FORM's CARD OF 'pidginlaw9.NfaCuts'. -/
def nfaCutsUptoCard : Claim7 := { stood := { row := nfaCutsUptoRow, standIns := [], harness := (true, "3060b5296b06851c36c763d35d3eb7f4b1ea6c49abc1919f651067ce9cdce6d7"), looks := true }, kinds := [], alts := [], laidByText := true, laidKinds := [.handle, .sentinel, .sentinel, .sentinel, .sentinel, .sentinel, .sentinel, .sentinel, .sentinel, .sentinel, .sentinel, .sentinel, .sentinel, .sentinel, .sentinel, .sentinel, .sentinel, .sentinel, .sentinel, .sentinel, .sentinel, .sentinel], laidTests := true, laidLooks := .later }
def NfaCutsUptoCardSaid : Prop := Claim7.holds Tryz.pinned (.plain (OpenSpec.upto nfaCutsSpec)) nfaCutsUptoCard

/-- THE SECOND FORM's CARD OF 'pidginlaw9.NfaLiteral'. -/
def nfaLiteralUptoCard : Claim7 := { stood := { row := nfaLiteralUptoRow, standIns := [], harness := (true, "3060b5296b06851c36c763d35d3eb7f4b1ea6c49abc1919f651067ce9cdce6d7"), looks := true }, kinds := [], alts := [], laidByText := true, laidKinds := [.handle, .sentinel, .sentinel, .sentinel, .sentinel, .sentinel, .sentinel, .sentinel, .sentinel, .sentinel, .sentinel, .sentinel, .sentinel, .sentinel, .sentinel, .sentinel, .sentinel, .sentinel, .sentinel, .sentinel, .sentinel, .sentinel], laidTests := true, laidLooks := .later }
def NfaLiteralUptoCardSaid : Prop := Claim7.holds Tryz.pinned (.plain (OpenSpec.upto nfaLiteralSpec)) nfaLiteralUptoCard

/-- THE SECOND FORM's CARD OF 'pidginlaw9.NfaTimes'. -/
def nfaTimesUptoCard : Claim7 := { stood := { row := nfaTimesUptoRow, standIns := [], harness := (true, "3060b5296b06851c36c763d35d3eb7f4b1ea6c49abc1919f651067ce9cdce6d7"), looks := true }, kinds := [], alts := [], laidByText := true, laidKinds := [.handle, .sentinel, .sentinel, .sentinel, .sentinel, .sentinel, .sentinel, .sentinel, .sentinel, .sentinel, .sentinel, .sentinel, .sentinel, .sentinel, .sentinel, .sentinel, .sentinel, .sentinel, .sentinel, .sentinel, .sentinel, .sentinel], laidTests := true, laidLooks := .later }
def NfaTimesUptoCardSaid : Prop := Claim7.holds Tryz.pinned (.plain (OpenSpec.upto nfaTimesSpec)) nfaTimesUptoCard
end Rows
end Go.Proofs.YtcceiblmdjbhjaaGreatDoor
