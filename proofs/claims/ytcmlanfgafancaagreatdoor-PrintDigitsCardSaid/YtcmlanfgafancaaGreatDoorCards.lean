/-
  DERIVED. GIVEN WITH THE SEED: THE CARDS: each row of YtcmlanfgafancaaGreatDoorRows.lean that lists a variable, with what it lists TIED to the program's text (the seventh form; the later family's looks); each row that meets fmt, with fmt's text TOLD by the authors' own Lean function (tested against real Go, not proved from fmt's source: count such statements apart). THE CARD IS WHAT COUNTS. Prove the row's statement (the work); the ties are given (YtcmlanfgafancaaGreatDoorTie.lean); close each card by the builder's one call (the guide's Derived/Test/ToyasCard.lean, 'card_holds'). Laid BY PROGRAM, IN A SANDBOX (cutbox-door.mjs). By AI agents, Wed Nov 11 2026. No macro, syntax, notation, axiom, sorry.
-/
import Derived.Test.YtcmlanfgafancaaGreatDoorRows
import GoSem.ClaimSeven
namespace Go.Proofs.YtcmlanfgafancaaGreatDoor
namespace Rows

/-- THE TIED CARD OF 'caliperlaw13.PrintTells'. -/
def printTellsCard : Claim7 := { stood := { row := printTellsRow, standIns := [], harness := (true, "7828b081151010af9a5f7614d2cdae091f891a3c69393ce7afa379c4002dc883"), looks := true }, kinds := [], alts := [], laidByText := true, laidKinds := [.data, .data, .data, .data], laidTests := true, laidLooks := .later }
def PrintTellsCardSaid : Prop := Claim7.holds Tryz.pinned (.plain (OpenSpec.ofChange printTellsSpec)) printTellsCard

/-- THE TIED CARD OF 'caliperlaw13.PrintFulls'. -/
def printFullsCard : Claim7 := { stood := { row := printFullsRow, standIns := [], harness := (true, "7828b081151010af9a5f7614d2cdae091f891a3c69393ce7afa379c4002dc883"), looks := true }, kinds := [], alts := [], laidByText := true, laidKinds := [.data, .data, .data, .data], laidTests := true, laidLooks := .later }
def PrintFullsCardSaid : Prop := Claim7.holds Tryz.pinned (.plain (OpenSpec.ofChange printFullsSpec)) printFullsCard

/-- THE TIED CARD OF 'caliperlaw13.PrintParsed'. -/
def printParsedCard : Claim7 := { stood := { row := printParsedRow, standIns := [], harness := (true, "7828b081151010af9a5f7614d2cdae091f891a3c69393ce7afa379c4002dc883"), looks := true }, kinds := [], alts := [], laidByText := true, laidKinds := [.data, .data, .data, .data, .sentinel, .sentinel, .data, .pinned], laidTests := true, laidLooks := .later }
def PrintParsedCardSaid : Prop := Claim7.holds Tryz.pinned (.plain (OpenSpec.ofChange printParsedSpec)) printParsedCard

/-- THE TIED CARD OF 'caliperlaw13.PrintSigns'. -/
def printSignsCard : Claim7 := { stood := { row := printSignsRow, standIns := [], harness := (true, "7828b081151010af9a5f7614d2cdae091f891a3c69393ce7afa379c4002dc883"), looks := true }, kinds := [], alts := [], laidByText := true, laidKinds := [.data, .data, .data, .data], laidTests := true, laidLooks := .later }
def PrintSignsCardSaid : Prop := Claim7.holds Tryz.pinned (.plain (OpenSpec.ofChange printSignsSpec)) printSignsCard

/-- THE TIED CARD OF 'caliperlaw13.PrintDigits'. -/
def printDigitsCard : Claim7 := { stood := { row := printDigitsRow, standIns := [], harness := (true, "7828b081151010af9a5f7614d2cdae091f891a3c69393ce7afa379c4002dc883"), looks := true }, kinds := [], alts := [], laidByText := true, laidKinds := [.data, .data, .data, .data, .sentinel, .sentinel, .data, .pinned], laidTests := true, laidLooks := .later }
def PrintDigitsCardSaid : Prop := Claim7.holds Tryz.pinned (.plain (OpenSpec.ofChange printDigitsSpec)) printDigitsCard

/-- THE TIED CARD OF 'caliperlaw13.PrintApart'. -/
def printApartCard : Claim7 := { stood := { row := printApartRow, standIns := [], harness := (true, "7828b081151010af9a5f7614d2cdae091f891a3c69393ce7afa379c4002dc883"), looks := true }, kinds := [], alts := [], laidByText := true, laidKinds := [.data, .data, .data, .data], laidTests := true, laidLooks := .later }
def PrintApartCardSaid : Prop := Claim7.holds Tryz.pinned (.plain (OpenSpec.ofChange printApartSpec)) printApartCard

/-- THE SECOND FORM's CARD OF 'caliperlaw13.PrintTells'. -/
def printTellsUptoCard : Claim7 := { stood := { row := printTellsUptoRow, standIns := [], harness := (true, "7828b081151010af9a5f7614d2cdae091f891a3c69393ce7afa379c4002dc883"), looks := true }, kinds := [], alts := [], laidByText := true, laidKinds := [.data, .data, .data, .data], laidTests := true, laidLooks := .later }
def PrintTellsUptoCardSaid : Prop := Claim7.holds Tryz.pinned (.plain (OpenSpec.upto printTellsSpec)) printTellsUptoCard

/-- THE SECOND FORM's CARD OF 'caliperlaw13.PrintFulls'. -/
def printFullsUptoCard : Claim7 := { stood := { row := printFullsUptoRow, standIns := [], harness := (true, "7828b081151010af9a5f7614d2cdae091f891a3c69393ce7afa379c4002dc883"), looks := true }, kinds := [], alts := [], laidByText := true, laidKinds := [.data, .data, .data, .data], laidTests := true, laidLooks := .later }
def PrintFullsUptoCardSaid : Prop := Claim7.holds Tryz.pinned (.plain (OpenSpec.upto printFullsSpec)) printFullsUptoCard

/-- THE SECOND FORM's CARD OF 'caliperlaw13.PrintParsed'. -/
def printParsedUptoCard : Claim7 := { stood := { row := printParsedUptoRow, standIns := [], harness := (true, "7828b081151010af9a5f7614d2cdae091f891a3c69393ce7afa379c4002dc883"), looks := true }, kinds := [], alts := [], laidByText := true, laidKinds := [.data, .data, .data, .data, .sentinel, .sentinel, .data, .pinned], laidTests := true, laidLooks := .later }
def PrintParsedUptoCardSaid : Prop := Claim7.holds Tryz.pinned (.plain (OpenSpec.upto printParsedSpec)) printParsedUptoCard

/-- THE SECOND FORM's CARD OF 'caliperlaw13.PrintSigns'. -/
def printSignsUptoCard : Claim7 := { stood := { row := printSignsUptoRow, standIns := [], harness := (true, "7828b081151010af9a5f7614d2cdae091f891a3c69393ce7afa379c4002dc883"), looks := true }, kinds := [], alts := [], laidByText := true, laidKinds := [.data, .data, .data, .data], laidTests := true, laidLooks := .later }
def PrintSignsUptoCardSaid : Prop := Claim7.holds Tryz.pinned (.plain (OpenSpec.upto printSignsSpec)) printSignsUptoCard

/-- THE SECOND FORM's CARD OF 'caliperlaw13.PrintDigits'. -/
def printDigitsUptoCard : Claim7 := { stood := { row := printDigitsUptoRow, standIns := [], harness := (true, "7828b081151010af9a5f7614d2cdae091f891a3c69393ce7afa379c4002dc883"), looks := true }, kinds := [], alts := [], laidByText := true, laidKinds := [.data, .data, .data, .data, .sentinel, .sentinel, .data, .pinned], laidTests := true, laidLooks := .later }
def PrintDigitsUptoCardSaid : Prop := Claim7.holds Tryz.pinned (.plain (OpenSpec.upto printDigitsSpec)) printDigitsUptoCard

/-- THE SECOND FORM's CARD OF 'caliperlaw13.PrintApart'. -/
def printApartUptoCard : Claim7 := { stood := { row := printApartUptoRow, standIns := [], harness := (true, "7828b081151010af9a5f7614d2cdae091f891a3c69393ce7afa379c4002dc883"), looks := true }, kinds := [], alts := [], laidByText := true, laidKinds := [.data, .data, .data, .data], laidTests := true, laidLooks := .later }
def PrintApartUptoCardSaid : Prop := Claim7.holds Tryz.pinned (.plain (OpenSpec.upto printApartSpec)) printApartUptoCard
end Rows
end Go.Proofs.YtcmlanfgafancaaGreatDoor
