/-
  DERIVED. GIVEN WITH THE SEED: THE CARDS: each row of YtlmoeldillpamaaDoorRows.lean that lists a variable, with what it lists TIED to the program's text (the seventh form; the later family's looks); each row that meets fmt, with fmt's text TOLD by the authors' own Lean function (tested against real Go, not proved from fmt's source: count such statements apart). THE CARD IS WHAT COUNTS. Prove the row's statement (the work); the ties are given (YtlmoeldillpamaaDoorTie.lean); close each card by the builder's one call (the guide's Derived/Test/ToyasCard.lean, 'card_holds'). Laid BY PROGRAM, IN A SANDBOX (cutbox-door.mjs). By AI agents, Wed Nov 11 2026. No macro, syntax, notation, axiom, sorry.
-/
import Derived.Test.YtlmoeldillpamaaDoorRows
import GoSem.ClaimSeven
namespace Go.Proofs.YtlmoeldillpamaaDoor
namespace Rows

/-- THE TIED CARD OF 'pidginlaw3.ArithBegins'. -/
def arithBeginsCard : Claim7 := { stood := { row := arithBeginsRow, standIns := [], harness := (true, "689cb4e6079c234d83049e4b662050f909781a8d2f013772370b54951b643f21"), looks := true }, kinds := [], alts := [], laidByText := true, laidKinds := [.data, .data, .data, .handle, .sentinel, .sentinel, .sentinel, .sentinel, .sentinel, .sentinel, .sentinel, .sentinel, .sentinel, .sentinel, .sentinel, .sentinel, .sentinel, .sentinel, .sentinel, .sentinel, .sentinel, .sentinel, .sentinel, .sentinel, .sentinel], laidTests := true, laidLooks := .later }
def ArithBeginsCardSaid : Prop := Claim7.holds Tryd.pinned (.plain (OpenSpec.ofChange arithBeginsSpec)) arithBeginsCard

/-- THE TIED CARD OF 'pidginlaw3.ArithBack'. -/
def arithBackCard : Claim7 := { stood := { row := arithBackRow, standIns := [], harness := (true, "689cb4e6079c234d83049e4b662050f909781a8d2f013772370b54951b643f21"), looks := true }, kinds := [], alts := [], laidByText := true, laidKinds := [.data, .data, .data, .sentinel, .sentinel, .sentinel, .sentinel, .sentinel, .sentinel, .sentinel, .sentinel, .sentinel, .sentinel, .sentinel, .sentinel, .sentinel, .sentinel, .sentinel, .sentinel, .sentinel, .sentinel, .sentinel, .sentinel, .sentinel], laidTests := true, laidLooks := .later }
def ArithBackCardSaid : Prop := Claim7.holds Tryd.pinned (.plain (OpenSpec.ofChange arithBackSpec)) arithBackCard

/-- THE TIED CARD OF 'pidginlaw3.ArithLeft'. -/
def arithLeftCard : Claim7 := { stood := { row := arithLeftRow, standIns := [], harness := (true, "689cb4e6079c234d83049e4b662050f909781a8d2f013772370b54951b643f21"), looks := true }, kinds := [], alts := [], laidByText := true, laidKinds := [.data, .data, .data, .sentinel, .sentinel, .sentinel, .sentinel, .sentinel, .sentinel, .sentinel, .sentinel, .sentinel, .sentinel, .sentinel, .sentinel, .sentinel, .sentinel, .sentinel, .sentinel, .sentinel, .sentinel, .sentinel, .sentinel, .sentinel], laidTests := true, laidLooks := .later }
def ArithLeftCardSaid : Prop := Claim7.holds Tryd.pinned (.plain (OpenSpec.ofChange arithLeftSpec)) arithLeftCard

/-- THE SECOND FORM's CARD OF 'pidginlaw3.ArithBegins'. -/
def arithBeginsUptoCard : Claim7 := { stood := { row := arithBeginsUptoRow, standIns := [], harness := (true, "689cb4e6079c234d83049e4b662050f909781a8d2f013772370b54951b643f21"), looks := true }, kinds := [], alts := [], laidByText := true, laidKinds := [.data, .data, .data, .handle, .sentinel, .sentinel, .sentinel, .sentinel, .sentinel, .sentinel, .sentinel, .sentinel, .sentinel, .sentinel, .sentinel, .sentinel, .sentinel, .sentinel, .sentinel, .sentinel, .sentinel, .sentinel, .sentinel, .sentinel, .sentinel], laidTests := true, laidLooks := .later }
def ArithBeginsUptoCardSaid : Prop := Claim7.holds Tryd.pinned (.plain (OpenSpec.upto arithBeginsSpec)) arithBeginsUptoCard

/-- THE SECOND FORM's CARD OF 'pidginlaw3.ArithBack'. -/
def arithBackUptoCard : Claim7 := { stood := { row := arithBackUptoRow, standIns := [], harness := (true, "689cb4e6079c234d83049e4b662050f909781a8d2f013772370b54951b643f21"), looks := true }, kinds := [], alts := [], laidByText := true, laidKinds := [.data, .data, .data, .sentinel, .sentinel, .sentinel, .sentinel, .sentinel, .sentinel, .sentinel, .sentinel, .sentinel, .sentinel, .sentinel, .sentinel, .sentinel, .sentinel, .sentinel, .sentinel, .sentinel, .sentinel, .sentinel, .sentinel, .sentinel], laidTests := true, laidLooks := .later }
def ArithBackUptoCardSaid : Prop := Claim7.holds Tryd.pinned (.plain (OpenSpec.upto arithBackSpec)) arithBackUptoCard

/-- THE SECOND FORM's CARD OF 'pidginlaw3.ArithLeft'. -/
def arithLeftUptoCard : Claim7 := { stood := { row := arithLeftUptoRow, standIns := [], harness := (true, "689cb4e6079c234d83049e4b662050f909781a8d2f013772370b54951b643f21"), looks := true }, kinds := [], alts := [], laidByText := true, laidKinds := [.data, .data, .data, .sentinel, .sentinel, .sentinel, .sentinel, .sentinel, .sentinel, .sentinel, .sentinel, .sentinel, .sentinel, .sentinel, .sentinel, .sentinel, .sentinel, .sentinel, .sentinel, .sentinel, .sentinel, .sentinel, .sentinel, .sentinel], laidTests := true, laidLooks := .later }
def ArithLeftUptoCardSaid : Prop := Claim7.holds Tryd.pinned (.plain (OpenSpec.upto arithLeftSpec)) arithLeftUptoCard
end Rows
end Go.Proofs.YtlmoeldillpamaaDoor
