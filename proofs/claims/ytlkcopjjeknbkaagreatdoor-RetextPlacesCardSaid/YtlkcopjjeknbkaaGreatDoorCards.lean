/-
  DERIVED. GIVEN WITH THE SEED: THE CARDS: each row of YtlkcopjjeknbkaaGreatDoorRows.lean that lists a variable, with what it lists TIED to the program's text (the seventh form; the later family's looks); each row that meets fmt, with fmt's text TOLD by the authors' own Lean function (tested against real Go, not proved from fmt's source: count such statements apart). THE CARD IS WHAT COUNTS. Prove the row's statement (the work); the ties are given (YtlkcopjjeknbkaaGreatDoorTie.lean); close each card by the builder's one call (the guide's Derived/Test/ToyasCard.lean, 'card_holds'). Laid BY PROGRAM, IN A SANDBOX (cutbox-door.mjs). By AI agents, Wed Nov 11 2026. No macro, syntax, notation, axiom, sorry.
-/
import Derived.Test.YtlkcopjjeknbkaaGreatDoorRows
import GoSem.ClaimSeven
namespace Go.Proofs.YtlkcopjjeknbkaaGreatDoor
namespace Rows

/-- THE TIED CARD OF 'pidginlaw8.RetextParses'. -/
def retextParsesCard : Claim7 := { stood := { row := retextParsesRow, standIns := [], harness := (true, "ccf0f49c4f4730bbd0ba9671bcc52e594bc6ec48422b08f4a54c36dae9f67c87"), looks := true }, kinds := [], alts := [], laidByText := true, laidKinds := [.data, .data, .data, .data, .handle, .sentinel, .sentinel, .sentinel, .sentinel, .sentinel, .sentinel, .sentinel, .sentinel, .sentinel, .sentinel, .sentinel, .sentinel, .sentinel, .sentinel, .sentinel, .sentinel, .sentinel, .sentinel, .sentinel, .sentinel, .sentinel, .pinned, .pinned], laidTests := true, laidLooks := .later }
def RetextParsesCardSaid : Prop := Claim7.holds Tryz.pinned (.plain (OpenSpec.ofChange retextParsesSpec)) retextParsesCard

/-- THE TIED CARD OF 'pidginlaw8.RetextTrees'. -/
def retextTreesCard : Claim7 := { stood := { row := retextTreesRow, standIns := [], harness := (true, "ccf0f49c4f4730bbd0ba9671bcc52e594bc6ec48422b08f4a54c36dae9f67c87"), looks := true }, kinds := [], alts := [], laidByText := true, laidKinds := [.data, .data, .data, .data, .handle, .sentinel, .sentinel, .sentinel, .sentinel, .sentinel, .sentinel, .sentinel, .sentinel, .sentinel, .sentinel, .sentinel, .sentinel, .sentinel, .sentinel, .sentinel, .sentinel, .sentinel, .sentinel, .sentinel, .sentinel, .sentinel, .pinned, .pinned], laidTests := true, laidLooks := .later }
def RetextTreesCardSaid : Prop := Claim7.holds Tryz.pinned (.plain (OpenSpec.ofChange retextTreesSpec)) retextTreesCard

/-- THE TIED CARD OF 'pidginlaw8.RetextQuotes'. -/
def retextQuotesCard : Claim7 := { stood := { row := retextQuotesRow, standIns := [], harness := (true, "ccf0f49c4f4730bbd0ba9671bcc52e594bc6ec48422b08f4a54c36dae9f67c87"), looks := true }, kinds := [], alts := [], laidByText := true, laidKinds := [.data, .data, .data, .data, .handle, .sentinel, .sentinel, .sentinel, .sentinel, .sentinel, .sentinel, .sentinel, .sentinel, .sentinel, .sentinel, .sentinel, .sentinel, .sentinel, .sentinel, .sentinel, .sentinel, .sentinel, .sentinel, .sentinel, .sentinel, .sentinel, .pinned, .pinned], laidTests := true, laidLooks := .later }
def RetextQuotesCardSaid : Prop := Claim7.holds Tryz.pinned (.plain (OpenSpec.ofChange retextQuotesSpec)) retextQuotesCard

/-- THE TIED CARD OF 'pidginlaw8.RetextNil'. -/
def retextNilCard : Claim7 := { stood := { row := retextNilRow, standIns := [], harness := (true, "ccf0f49c4f4730bbd0ba9671bcc52e594bc6ec48422b08f4a54c36dae9f67c87"), looks := true }, kinds := [], alts := [], laidByText := true, laidKinds := [.data, .data, .data, .data, .handle, .sentinel, .sentinel, .sentinel, .sentinel, .sentinel, .sentinel, .sentinel, .sentinel, .sentinel, .sentinel, .sentinel, .sentinel, .sentinel, .sentinel, .sentinel, .sentinel, .sentinel, .sentinel, .sentinel, .sentinel, .sentinel, .pinned, .pinned], laidTests := true, laidLooks := .later }
def RetextNilCardSaid : Prop := Claim7.holds Tryz.pinned (.plain (OpenSpec.ofChange retextNilSpec)) retextNilCard

/-- THE TIED CARD OF 'pidginlaw8.RetextLimits'. -/
def retextLimitsCard : Claim7 := { stood := { row := retextLimitsRow, standIns := [], harness := (true, "ccf0f49c4f4730bbd0ba9671bcc52e594bc6ec48422b08f4a54c36dae9f67c87"), looks := true }, kinds := [], alts := [], laidByText := true, laidKinds := [.data, .data, .data, .data, .handle, .sentinel, .sentinel, .sentinel, .sentinel, .sentinel, .sentinel, .sentinel, .sentinel, .sentinel, .sentinel, .sentinel, .sentinel, .sentinel, .sentinel, .sentinel, .sentinel, .sentinel, .sentinel, .sentinel, .sentinel, .sentinel, .pinned, .pinned], laidTests := true, laidLooks := .later }
def RetextLimitsCardSaid : Prop := Claim7.holds Tryz.pinned (.plain (OpenSpec.ofChange retextLimitsSpec)) retextLimitsCard

/-- THE TIED CARD OF 'pidginlaw8.RetextBack'. -/
def retextBackCard : Claim7 := { stood := { row := retextBackRow, standIns := [], harness := (true, "ccf0f49c4f4730bbd0ba9671bcc52e594bc6ec48422b08f4a54c36dae9f67c87"), looks := true }, kinds := [], alts := [], laidByText := true, laidKinds := [.data, .data, .data, .data, .handle, .sentinel, .sentinel, .sentinel, .sentinel, .sentinel, .sentinel, .sentinel, .sentinel, .sentinel, .sentinel, .sentinel, .sentinel, .sentinel, .sentinel, .sentinel, .sentinel, .sentinel, .sentinel, .sentinel, .sentinel, .sentinel, .pinned, .pinned], laidTests := true, laidLooks := .later }
def RetextBackCardSaid : Prop := Claim7.holds Tryz.pinned (.plain (OpenSpec.ofChange retextBackSpec)) retextBackCard

/-- THE TIED CARD OF 'pidginlaw8.RetextEither'. -/
def retextEitherCard : Claim7 := { stood := { row := retextEitherRow, standIns := [], harness := (true, "ccf0f49c4f4730bbd0ba9671bcc52e594bc6ec48422b08f4a54c36dae9f67c87"), looks := true }, kinds := [], alts := [], laidByText := true, laidKinds := [.data, .data, .data, .data, .handle, .sentinel, .sentinel, .sentinel, .sentinel, .sentinel, .sentinel, .sentinel, .sentinel, .sentinel, .sentinel, .sentinel, .sentinel, .sentinel, .sentinel, .sentinel, .sentinel, .sentinel, .sentinel, .sentinel, .sentinel, .sentinel, .pinned, .pinned], laidTests := true, laidLooks := .later }
def RetextEitherCardSaid : Prop := Claim7.holds Tryz.pinned (.plain (OpenSpec.ofChange retextEitherSpec)) retextEitherCard

/-- THE TIED CARD OF 'pidginlaw8.RetextPlaces'. -/
def retextPlacesCard : Claim7 := { stood := { row := retextPlacesRow, standIns := [], harness := (true, "ccf0f49c4f4730bbd0ba9671bcc52e594bc6ec48422b08f4a54c36dae9f67c87"), looks := true }, kinds := [], alts := [], laidByText := true, laidKinds := [.data, .data, .data, .data, .handle, .sentinel, .sentinel, .sentinel, .sentinel, .sentinel, .sentinel, .sentinel, .sentinel, .sentinel, .sentinel, .sentinel, .sentinel, .sentinel, .sentinel, .sentinel, .sentinel, .sentinel, .sentinel, .sentinel, .sentinel, .sentinel, .pinned, .pinned], laidTests := true, laidLooks := .later }
def RetextPlacesCardSaid : Prop := Claim7.holds Tryz.pinned (.plain (OpenSpec.ofChange retextPlacesSpec)) retextPlacesCard

/-- THE SECOND FORM's CARD OF 'pidginlaw8.RetextParses'. -/
def retextParsesUptoCard : Claim7 := { stood := { row := retextParsesUptoRow, standIns := [], harness := (true, "ccf0f49c4f4730bbd0ba9671bcc52e594bc6ec48422b08f4a54c36dae9f67c87"), looks := true }, kinds := [], alts := [], laidByText := true, laidKinds := [.data, .data, .data, .data, .handle, .sentinel, .sentinel, .sentinel, .sentinel, .sentinel, .sentinel, .sentinel, .sentinel, .sentinel, .sentinel, .sentinel, .sentinel, .sentinel, .sentinel, .sentinel, .sentinel, .sentinel, .sentinel, .sentinel, .sentinel, .sentinel, .pinned, .pinned], laidTests := true, laidLooks := .later }
def RetextParsesUptoCardSaid : Prop := Claim7.holds Tryz.pinned (.plain (OpenSpec.upto retextParsesSpec)) retextParsesUptoCard

/-- THE SECOND FORM's CARD OF 'pidginlaw8.RetextTrees'. -/
def retextTreesUptoCard : Claim7 := { stood := { row := retextTreesUptoRow, standIns := [], harness := (true, "ccf0f49c4f4730bbd0ba9671bcc52e594bc6ec48422b08f4a54c36dae9f67c87"), looks := true }, kinds := [], alts := [], laidByText := true, laidKinds := [.data, .data, .data, .data, .handle, .sentinel, .sentinel, .sentinel, .sentinel, .sentinel, .sentinel, .sentinel, .sentinel, .sentinel, .sentinel, .sentinel, .sentinel, .sentinel, .sentinel, .sentinel, .sentinel, .sentinel, .sentinel, .sentinel, .sentinel, .sentinel, .pinned, .pinned], laidTests := true, laidLooks := .later }
def RetextTreesUptoCardSaid : Prop := Claim7.holds Tryz.pinned (.plain (OpenSpec.upto retextTreesSpec)) retextTreesUptoCard

/-- THE SECOND FORM's CARD OF 'pidginlaw8.RetextQuotes'. -/
def retextQuotesUptoCard : Claim7 := { stood := { row := retextQuotesUptoRow, standIns := [], harness := (true, "ccf0f49c4f4730bbd0ba9671bcc52e594bc6ec48422b08f4a54c36dae9f67c87"), looks := true }, kinds := [], alts := [], laidByText := true, laidKinds := [.data, .data, .data, .data, .handle, .sentinel, .sentinel, .sentinel, .sentinel, .sentinel, .sentinel, .sentinel, .sentinel, .sentinel, .sentinel, .sentinel, .sentinel, .sentinel, .sentinel, .sentinel, .sentinel, .sentinel, .sentinel, .sentinel, .sentinel, .sentinel, .pinned, .pinned], laidTests := true, laidLooks := .later }
def RetextQuotesUptoCardSaid : Prop := Claim7.holds Tryz.pinned (.plain (OpenSpec.upto retextQuotesSpec)) retextQuotesUptoCard

/-- THE SECOND FORM's CARD OF 'pidginlaw8.RetextNil'. -/
def retextNilUptoCard : Claim7 := { stood := { row := retextNilUptoRow, standIns := [], harness := (true, "ccf0f49c4f4730bbd0ba9671bcc52e594bc6ec48422b08f4a54c36dae9f67c87"), looks := true }, kinds := [], alts := [], laidByText := true, laidKinds := [.data, .data, .data, .data, .handle, .sentinel, .sentinel, .sentinel, .sentinel, .sentinel, .sentinel, .sentinel, .sentinel, .sentinel, .sentinel, .sentinel, .sentinel, .sentinel, .sentinel, .sentinel, .sentinel, .sentinel, .sentinel, .sentinel, .sentinel, .sentinel, .pinned, .pinned], laidTests := true, laidLooks := .later }
def RetextNilUptoCardSaid : Prop := Claim7.holds Tryz.pinned (.plain (OpenSpec.upto retextNilSpec)) retextNilUptoCard

/-- THE SECOND FORM's CARD OF 'pidginlaw8.RetextLimits'. -/
def retextLimitsUptoCard : Claim7 := { stood := { row := retextLimitsUptoRow, standIns := [], harness := (true, "ccf0f49c4f4730bbd0ba9671bcc52e594bc6ec48422b08f4a54c36dae9f67c87"), looks := true }, kinds := [], alts := [], laidByText := true, laidKinds := [.data, .data, .data, .data, .handle, .sentinel, .sentinel, .sentinel, .sentinel, .sentinel, .sentinel, .sentinel, .sentinel, .sentinel, .sentinel, .sentinel, .sentinel, .sentinel, .sentinel, .sentinel, .sentinel, .sentinel, .sentinel, .sentinel, .sentinel, .sentinel, .pinned, .pinned], laidTests := true, laidLooks := .later }
def RetextLimitsUptoCardSaid : Prop := Claim7.holds Tryz.pinned (.plain (OpenSpec.upto retextLimitsSpec)) retextLimitsUptoCard

/-- THE SECOND FORM's CARD OF 'pidginlaw8.RetextBack'. -/
def retextBackUptoCard : Claim7 := { stood := { row := retextBackUptoRow, standIns := [], harness := (true, "ccf0f49c4f4730bbd0ba9671bcc52e594bc6ec48422b08f4a54c36dae9f67c87"), looks := true }, kinds := [], alts := [], laidByText := true, laidKinds := [.data, .data, .data, .data, .handle, .sentinel, .sentinel, .sentinel, .sentinel, .sentinel, .sentinel, .sentinel, .sentinel, .sentinel, .sentinel, .sentinel, .sentinel, .sentinel, .sentinel, .sentinel, .sentinel, .sentinel, .sentinel, .sentinel, .sentinel, .sentinel, .pinned, .pinned], laidTests := true, laidLooks := .later }
def RetextBackUptoCardSaid : Prop := Claim7.holds Tryz.pinned (.plain (OpenSpec.upto retextBackSpec)) retextBackUptoCard

/-- THE SECOND FORM's CARD OF 'pidginlaw8.RetextEither'. -/
def retextEitherUptoCard : Claim7 := { stood := { row := retextEitherUptoRow, standIns := [], harness := (true, "ccf0f49c4f4730bbd0ba9671bcc52e594bc6ec48422b08f4a54c36dae9f67c87"), looks := true }, kinds := [], alts := [], laidByText := true, laidKinds := [.data, .data, .data, .data, .handle, .sentinel, .sentinel, .sentinel, .sentinel, .sentinel, .sentinel, .sentinel, .sentinel, .sentinel, .sentinel, .sentinel, .sentinel, .sentinel, .sentinel, .sentinel, .sentinel, .sentinel, .sentinel, .sentinel, .sentinel, .sentinel, .pinned, .pinned], laidTests := true, laidLooks := .later }
def RetextEitherUptoCardSaid : Prop := Claim7.holds Tryz.pinned (.plain (OpenSpec.upto retextEitherSpec)) retextEitherUptoCard

/-- THE SECOND FORM's CARD OF 'pidginlaw8.RetextPlaces'. -/
def retextPlacesUptoCard : Claim7 := { stood := { row := retextPlacesUptoRow, standIns := [], harness := (true, "ccf0f49c4f4730bbd0ba9671bcc52e594bc6ec48422b08f4a54c36dae9f67c87"), looks := true }, kinds := [], alts := [], laidByText := true, laidKinds := [.data, .data, .data, .data, .handle, .sentinel, .sentinel, .sentinel, .sentinel, .sentinel, .sentinel, .sentinel, .sentinel, .sentinel, .sentinel, .sentinel, .sentinel, .sentinel, .sentinel, .sentinel, .sentinel, .sentinel, .sentinel, .sentinel, .sentinel, .sentinel, .pinned, .pinned], laidTests := true, laidLooks := .later }
def RetextPlacesUptoCardSaid : Prop := Claim7.holds Tryz.pinned (.plain (OpenSpec.upto retextPlacesSpec)) retextPlacesUptoCard
end Rows
end Go.Proofs.YtlkcopjjeknbkaaGreatDoor
