/-
  DERIVED. GIVEN WITH THE SEED: THE CARDS: each row of YtnecadgoiolpgaaGreatDoorRows.lean that lists a variable, with what it lists TIED to the program's text (the seventh form; the later family's looks); each row that meets fmt, with fmt's text TOLD by the authors' own Lean function (tested against real Go, not proved from fmt's source: count such statements apart). THE CARD IS WHAT COUNTS. Prove the row's statement (the work); the ties are given (YtnecadgoiolpgaaGreatDoorTie.lean); close each card by the builder's one call (the guide's Derived/Test/ToyasCard.lean, 'card_holds'). Laid BY PROGRAM, IN A SANDBOX (cutbox-door.mjs). By AI agents, Wed Nov 11 2026. No macro, syntax, notation, axiom, sorry.
-/
import Derived.Test.YtnecadgoiolpgaaGreatDoorRows
import GoSem.ClaimSeven
namespace Go.Proofs.YtnecadgoiolpgaaGreatDoor
namespace Rows

/-- THE TIED CARD OF 'pidginlaw10.SimVisits'. -/
def simVisitsCard : Claim7 := { stood := { row := simVisitsRow, standIns := [], harness := (true, "d2a686dd6e77343ba7176145c492b7010dba79308a0299abed28b5a75e34b55e"), looks := true }, kinds := [], alts := [], laidByText := true, laidKinds := [.handle, .sentinel, .sentinel, .sentinel, .sentinel, .sentinel, .sentinel, .sentinel, .sentinel, .sentinel, .sentinel, .sentinel, .sentinel, .sentinel, .sentinel, .sentinel, .sentinel, .sentinel, .sentinel, .sentinel, .sentinel, .sentinel], laidTests := true, laidLooks := .later }
def SimVisitsCardSaid : Prop := Claim7.holds Tryz.pinned (.plain (OpenSpec.ofChange simVisitsSpec)) simVisitsCard

/-- THE TIED CARD OF 'pidginlaw10.SimNil'. -/
def simNilCard : Claim7 := { stood := { row := simNilRow, standIns := [], harness := (true, "d2a686dd6e77343ba7176145c492b7010dba79308a0299abed28b5a75e34b55e"), looks := true }, kinds := [], alts := [], laidByText := true, laidKinds := [.handle, .sentinel, .sentinel, .sentinel, .sentinel, .sentinel, .sentinel, .sentinel, .sentinel, .sentinel, .sentinel, .sentinel, .sentinel, .sentinel, .sentinel, .sentinel, .sentinel, .sentinel, .sentinel, .sentinel, .sentinel, .sentinel], laidTests := true, laidLooks := .later }
def SimNilCardSaid : Prop := Claim7.holds Tryz.pinned (.plain (OpenSpec.ofChange simNilSpec)) simNilCard

/-- THE TIED CARD OF 'pidginlaw10.SimLeftmost'. -/
def simLeftmostCard : Claim7 := { stood := { row := simLeftmostRow, standIns := [], harness := (true, "d2a686dd6e77343ba7176145c492b7010dba79308a0299abed28b5a75e34b55e"), looks := true }, kinds := [], alts := [], laidByText := true, laidKinds := [.handle, .sentinel, .sentinel, .sentinel, .sentinel, .sentinel, .sentinel, .sentinel, .sentinel, .sentinel, .sentinel, .sentinel, .sentinel, .sentinel, .sentinel, .sentinel, .sentinel, .sentinel, .sentinel, .sentinel, .sentinel, .sentinel], laidTests := true, laidLooks := .later }
def SimLeftmostCardSaid : Prop := Claim7.holds Tryz.pinned (.plain (OpenSpec.ofChange simLeftmostSpec)) simLeftmostCard

/-- THE TIED CARD OF 'pidginlaw10.SimApart'. -/
def simApartCard : Claim7 := { stood := { row := simApartRow, standIns := [], harness := (true, "d2a686dd6e77343ba7176145c492b7010dba79308a0299abed28b5a75e34b55e"), looks := true }, kinds := [], alts := [], laidByText := true, laidKinds := [.handle, .sentinel, .sentinel, .sentinel, .sentinel, .sentinel, .sentinel, .sentinel, .sentinel, .sentinel, .sentinel, .sentinel, .sentinel, .sentinel, .sentinel, .sentinel, .sentinel, .sentinel, .sentinel, .sentinel, .sentinel, .sentinel], laidTests := true, laidLooks := .later }
def SimApartCardSaid : Prop := Claim7.holds Tryz.pinned (.plain (OpenSpec.ofChange simApartSpec)) simApartCard

/-- THE TIED CARD OF 'pidginlaw10.SimLonger'. -/
def simLongerCard : Claim7 := { stood := { row := simLongerRow, standIns := [], harness := (true, "d2a686dd6e77343ba7176145c492b7010dba79308a0299abed28b5a75e34b55e"), looks := true }, kinds := [], alts := [], laidByText := true, laidKinds := [.handle, .sentinel, .sentinel, .sentinel, .sentinel, .sentinel, .sentinel, .sentinel, .sentinel, .sentinel, .sentinel, .sentinel, .sentinel, .sentinel, .sentinel, .sentinel, .sentinel, .sentinel, .sentinel, .sentinel, .sentinel, .sentinel], laidTests := true, laidLooks := .later }
def SimLongerCardSaid : Prop := Claim7.holds Tryz.pinned (.plain (OpenSpec.ofChange simLongerSpec)) simLongerCard

/-- THE TIED CARD OF 'pidginlaw10.SimFinds'. -/
def simFindsCard : Claim7 := { stood := { row := simFindsRow, standIns := [], harness := (true, "d2a686dd6e77343ba7176145c492b7010dba79308a0299abed28b5a75e34b55e"), looks := true }, kinds := [], alts := [], laidByText := true, laidKinds := [.handle, .sentinel, .sentinel, .sentinel, .sentinel, .sentinel, .sentinel, .sentinel, .sentinel, .sentinel, .sentinel, .sentinel, .sentinel, .sentinel, .sentinel, .sentinel, .sentinel, .sentinel, .sentinel, .sentinel, .sentinel, .sentinel], laidTests := true, laidLooks := .later }
def SimFindsCardSaid : Prop := Claim7.holds Tryz.pinned (.plain (OpenSpec.ofChange simFindsSpec)) simFindsCard

/-- THE TIED CARD OF 'pidginlaw10.SimLater'. -/
def simLaterCard : Claim7 := { stood := { row := simLaterRow, standIns := [], harness := (true, "d2a686dd6e77343ba7176145c492b7010dba79308a0299abed28b5a75e34b55e"), looks := true }, kinds := [], alts := [], laidByText := true, laidKinds := [.handle, .sentinel, .sentinel, .sentinel, .sentinel, .sentinel, .sentinel, .sentinel, .sentinel, .sentinel, .sentinel, .sentinel, .sentinel, .sentinel, .sentinel, .sentinel, .sentinel, .sentinel, .sentinel, .sentinel, .sentinel, .sentinel], laidTests := true, laidLooks := .later }
def SimLaterCardSaid : Prop := Claim7.holds Tryz.pinned (.plain (OpenSpec.ofChange simLaterSpec)) simLaterCard

/-- THE SECOND FORM's CARD OF 'pidginlaw10.SimVisits'. -/
def simVisitsUptoCard : Claim7 := { stood := { row := simVisitsUptoRow, standIns := [], harness := (true, "d2a686dd6e77343ba7176145c492b7010dba79308a0299abed28b5a75e34b55e"), looks := true }, kinds := [], alts := [], laidByText := true, laidKinds := [.handle, .sentinel, .sentinel, .sentinel, .sentinel, .sentinel, .sentinel, .sentinel, .sentinel, .sentinel, .sentinel, .sentinel, .sentinel, .sentinel, .sentinel, .sentinel, .sentinel, .sentinel, .sentinel, .sentinel, .sentinel, .sentinel], laidTests := true, laidLooks := .later }
def SimVisitsUptoCardSaid : Prop := Claim7.holds Tryz.pinned (.plain (OpenSpec.upto simVisitsSpec)) simVisitsUptoCard

/-- THE SECOND FORM's CARD OF 'pidginlaw10.SimNil'. -/
def simNilUptoCard : Claim7 := { stood := { row := simNilUptoRow, standIns := [], harness := (true, "d2a686dd6e77343ba7176145c492b7010dba79308a0299abed28b5a75e34b55e"), looks := true }, kinds := [], alts := [], laidByText := true, laidKinds := [.handle, .sentinel, .sentinel, .sentinel, .sentinel, .sentinel, .sentinel, .sentinel, .sentinel, .sentinel, .sentinel, .sentinel, .sentinel, .sentinel, .sentinel, .sentinel, .sentinel, .sentinel, .sentinel, .sentinel, .sentinel, .sentinel], laidTests := true, laidLooks := .later }
def SimNilUptoCardSaid : Prop := Claim7.holds Tryz.pinned (.plain (OpenSpec.upto simNilSpec)) simNilUptoCard

/-- THE SECOND FORM's CARD OF 'pidginlaw10.SimLeftmost'. -/
def simLeftmostUptoCard : Claim7 := { stood := { row := simLeftmostUptoRow, standIns := [], harness := (true, "d2a686dd6e77343ba7176145c492b7010dba79308a0299abed28b5a75e34b55e"), looks := true }, kinds := [], alts := [], laidByText := true, laidKinds := [.handle, .sentinel, .sentinel, .sentinel, .sentinel, .sentinel, .sentinel, .sentinel, .sentinel, .sentinel, .sentinel, .sentinel, .sentinel, .sentinel, .sentinel, .sentinel, .sentinel, .sentinel, .sentinel, .sentinel, .sentinel, .sentinel], laidTests := true, laidLooks := .later }
def SimLeftmostUptoCardSaid : Prop := Claim7.holds Tryz.pinned (.plain (OpenSpec.upto simLeftmostSpec)) simLeftmostUptoCard

/-- THE SECOND FORM's CARD OF 'pidginlaw10.SimApart'. -/
def simApartUptoCard : Claim7 := { stood := { row := simApartUptoRow, standIns := [], harness := (true, "d2a686dd6e77343ba7176145c492b7010dba79308a0299abed28b5a75e34b55e"), looks := true }, kinds := [], alts := [], laidByText := true, laidKinds := [.handle, .sentinel, .sentinel, .sentinel, .sentinel, .sentinel, .sentinel, .sentinel, .sentinel, .sentinel, .sentinel, .sentinel, .sentinel, .sentinel, .sentinel, .sentinel, .sentinel, .sentinel, .sentinel, .sentinel, .sentinel, .sentinel], laidTests := true, laidLooks := .later }
def SimApartUptoCardSaid : Prop := Claim7.holds Tryz.pinned (.plain (OpenSpec.upto simApartSpec)) simApartUptoCard

/-- THE SECOND FORM's CARD OF 'pidginlaw10.SimLonger'. -/
def simLongerUptoCard : Claim7 := { stood := { row := simLongerUptoRow, standIns := [], harness := (true, "d2a686dd6e77343ba7176145c492b7010dba79308a0299abed28b5a75e34b55e"), looks := true }, kinds := [], alts := [], laidByText := true, laidKinds := [.handle, .sentinel, .sentinel, .sentinel, .sentinel, .sentinel, .sentinel, .sentinel, .sentinel, .sentinel, .sentinel, .sentinel, .sentinel, .sentinel, .sentinel, .sentinel, .sentinel, .sentinel, .sentinel, .sentinel, .sentinel, .sentinel], laidTests := true, laidLooks := .later }
def SimLongerUptoCardSaid : Prop := Claim7.holds Tryz.pinned (.plain (OpenSpec.upto simLongerSpec)) simLongerUptoCard

/-- THE SECOND FORM's CARD OF 'pidginlaw10.SimFinds'. -/
def simFindsUptoCard : Claim7 := { stood := { row := simFindsUptoRow, standIns := [], harness := (true, "d2a686dd6e77343ba7176145c492b7010dba79308a0299abed28b5a75e34b55e"), looks := true }, kinds := [], alts := [], laidByText := true, laidKinds := [.handle, .sentinel, .sentinel, .sentinel, .sentinel, .sentinel, .sentinel, .sentinel, .sentinel, .sentinel, .sentinel, .sentinel, .sentinel, .sentinel, .sentinel, .sentinel, .sentinel, .sentinel, .sentinel, .sentinel, .sentinel, .sentinel], laidTests := true, laidLooks := .later }
def SimFindsUptoCardSaid : Prop := Claim7.holds Tryz.pinned (.plain (OpenSpec.upto simFindsSpec)) simFindsUptoCard

/-- THE SECOND FORM's CARD OF 'pidginlaw10.SimLater'. -/
def simLaterUptoCard : Claim7 := { stood := { row := simLaterUptoRow, standIns := [], harness := (true, "d2a686dd6e77343ba7176145c492b7010dba79308a0299abed28b5a75e34b55e"), looks := true }, kinds := [], alts := [], laidByText := true, laidKinds := [.handle, .sentinel, .sentinel, .sentinel, .sentinel, .sentinel, .sentinel, .sentinel, .sentinel, .sentinel, .sentinel, .sentinel, .sentinel, .sentinel, .sentinel, .sentinel, .sentinel, .sentinel, .sentinel, .sentinel, .sentinel, .sentinel], laidTests := true, laidLooks := .later }
def SimLaterUptoCardSaid : Prop := Claim7.holds Tryz.pinned (.plain (OpenSpec.upto simLaterSpec)) simLaterUptoCard
end Rows
end Go.Proofs.YtnecadgoiolpgaaGreatDoor
