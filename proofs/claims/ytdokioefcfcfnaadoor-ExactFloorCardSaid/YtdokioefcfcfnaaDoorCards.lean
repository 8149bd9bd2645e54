/-
  DERIVED. GIVEN WITH THE SEED: THE CARDS: each row of YtdokioefcfcfnaaDoorRows.lean that lists a variable, with what it lists TIED to the program's text (the seventh form; the later family's looks); each row that meets fmt, with fmt's text TOLD by the authors' own Lean function (tested against real Go, not proved from fmt's source: count such statements apart). THE CARD IS WHAT COUNTS. Prove the row's statement (the work); the ties are given (YtdokioefcfcfnaaDoorTie.lean); close each card by the builder's one call (the guide's Derived/Test/ToyasCard.lean, 'card_holds'). Laid BY PROGRAM, IN A SANDBOX (cutbox-door.mjs). By AI agents, Wed Nov 11 2026. No macro, syntax, notation, axiom, sorry.
-/
import Derived.Test.YtdokioefcfcfnaaDoorRows
import GoSem.ClaimSeven
namespace Go.Proofs.YtdokioefcfcfnaaDoor
namespace Rows

/-- THE TIED CARD OF 'caliperlaw01.NatShifts'. -/
def natShiftsCard : Claim7 := { stood := { row := natShiftsRow, standIns := [], harness := (true, "0d569f00d186d6c6599e147fb27e723abea795cd489b99dc2d8feb5fd1b0d02e"), looks := true }, kinds := [], alts := [], laidByText := true, laidKinds := [.data, .data, .data, .sentinel, .sentinel], laidTests := true, laidLooks := .later }
def NatShiftsCardSaid : Prop := Claim7.holds Tryd.pinned (.plain (OpenSpec.ofChange natShiftsSpec)) natShiftsCard

/-- THE TIED CARD OF 'caliperlaw01.NatTexts'. -/
def natTextsCard : Claim7 := { stood := { row := natTextsRow, standIns := [], harness := (true, "0d569f00d186d6c6599e147fb27e723abea795cd489b99dc2d8feb5fd1b0d02e"), looks := true }, kinds := [], alts := [], laidByText := true, laidKinds := [.data, .data, .data, .sentinel, .sentinel], laidTests := true, laidLooks := .later }
def NatTextsCardSaid : Prop := Claim7.holds Tryd.pinned (.plain (OpenSpec.ofChange natTextsSpec)) natTextsCard

/-- THE TIED CARD OF 'caliperlaw01.NatParts'. -/
def natPartsCard : Claim7 := { stood := { row := natPartsRow, standIns := [], harness := (true, "0d569f00d186d6c6599e147fb27e723abea795cd489b99dc2d8feb5fd1b0d02e"), looks := true }, kinds := [], alts := [], laidByText := true, laidKinds := [.data, .data, .data, .sentinel, .sentinel], laidTests := true, laidLooks := .later }
def NatPartsCardSaid : Prop := Claim7.holds Tryd.pinned (.plain (OpenSpec.ofChange natPartsSpec)) natPartsCard

/-- THE TIED CARD OF 'caliperlaw01.NatOwn'. -/
def natOwnCard : Claim7 := { stood := { row := natOwnRow, standIns := [], harness := (true, "0d569f00d186d6c6599e147fb27e723abea795cd489b99dc2d8feb5fd1b0d02e"), looks := true }, kinds := [], alts := [], laidByText := true, laidKinds := [.data, .data, .data, .sentinel, .sentinel], laidTests := true, laidLooks := .later }
def NatOwnCardSaid : Prop := Claim7.holds Tryd.pinned (.plain (OpenSpec.ofChange natOwnSpec)) natOwnCard

/-- THE TIED CARD OF 'caliperlaw02.ExactOf'. -/
def exactOfCard : Claim7 := { stood := { row := exactOfRow, standIns := [], harness := (true, "0d569f00d186d6c6599e147fb27e723abea795cd489b99dc2d8feb5fd1b0d02e"), looks := true }, kinds := [], alts := [], laidByText := true, laidKinds := [.data, .data, .data], laidTests := true, laidLooks := .later }
def ExactOfCardSaid : Prop := Claim7.holds Tryd.pinned (.plain (OpenSpec.ofChange exactOfSpec)) exactOfCard

/-- THE TIED CARD OF 'caliperlaw02.ExactOrder'. -/
def exactOrderCard : Claim7 := { stood := { row := exactOrderRow, standIns := [], harness := (true, "0d569f00d186d6c6599e147fb27e723abea795cd489b99dc2d8feb5fd1b0d02e"), looks := true }, kinds := [], alts := [], laidByText := true, laidKinds := [.data, .data, .data], laidTests := true, laidLooks := .later }
def ExactOrderCardSaid : Prop := Claim7.holds Tryd.pinned (.plain (OpenSpec.ofChange exactOrderSpec)) exactOrderCard

/-- THE TIED CARD OF 'caliperlaw02.ExactFloor'. -/
def exactFloorCard : Claim7 := { stood := { row := exactFloorRow, standIns := [], harness := (true, "0d569f00d186d6c6599e147fb27e723abea795cd489b99dc2d8feb5fd1b0d02e"), looks := true }, kinds := [], alts := [], laidByText := true, laidKinds := [.data, .data, .data], laidTests := true, laidLooks := .later }
def ExactFloorCardSaid : Prop := Claim7.holds Tryd.pinned (.plain (OpenSpec.ofChange exactFloorSpec)) exactFloorCard

/-- THE TIED CARD OF 'caliperlaw02.ExactLog'. -/
def exactLogCard : Claim7 := { stood := { row := exactLogRow, standIns := [], harness := (true, "0d569f00d186d6c6599e147fb27e723abea795cd489b99dc2d8feb5fd1b0d02e"), looks := true }, kinds := [], alts := [], laidByText := true, laidKinds := [.data, .data, .data], laidTests := true, laidLooks := .later }
def ExactLogCardSaid : Prop := Claim7.holds Tryd.pinned (.plain (OpenSpec.ofChange exactLogSpec)) exactLogCard

/-- THE TIED CARD OF 'caliperlaw02.ExactScaled'. -/
def exactScaledCard : Claim7 := { stood := { row := exactScaledRow, standIns := [], harness := (true, "0d569f00d186d6c6599e147fb27e723abea795cd489b99dc2d8feb5fd1b0d02e"), looks := true }, kinds := [], alts := [], laidByText := true, laidKinds := [.data, .data, .data], laidTests := true, laidLooks := .later }
def ExactScaledCardSaid : Prop := Claim7.holds Tryd.pinned (.plain (OpenSpec.ofChange exactScaledSpec)) exactScaledCard

/-- THE TIED CARD OF 'caliperlaw02.ExactSteps'. -/
def exactStepsCard : Claim7 := { stood := { row := exactStepsRow, standIns := [], harness := (true, "0d569f00d186d6c6599e147fb27e723abea795cd489b99dc2d8feb5fd1b0d02e"), looks := true }, kinds := [], alts := [], laidByText := true, laidKinds := [.data, .data, .data], laidTests := true, laidLooks := .later }
def ExactStepsCardSaid : Prop := Claim7.holds Tryd.pinned (.plain (OpenSpec.ofChange exactStepsSpec)) exactStepsCard

/-- THE TIED CARD OF 'caliperlaw02.ExactNoughts'. -/
def exactNoughtsCard : Claim7 := { stood := { row := exactNoughtsRow, standIns := [], harness := (true, "0d569f00d186d6c6599e147fb27e723abea795cd489b99dc2d8feb5fd1b0d02e"), looks := true }, kinds := [], alts := [], laidByText := true, laidKinds := [.data, .data, .data], laidTests := true, laidLooks := .later }
def ExactNoughtsCardSaid : Prop := Claim7.holds Tryd.pinned (.plain (OpenSpec.ofChange exactNoughtsSpec)) exactNoughtsCard

/-- THE SECOND FORM's CARD OF 'caliperlaw01.NatShifts'. -/
def natShiftsUptoCard : Claim7 := { stood := { row := natShiftsUptoRow, standIns := [], harness := (true, "0d569f00d186d6c6599e147fb27e723abea795cd489b99dc2d8feb5fd1b0d02e"), looks := true }, kinds := [], alts := [], laidByText := true, laidKinds := [.data, .data, .data, .sentinel, .sentinel], laidTests := true, laidLooks := .later }
def NatShiftsUptoCardSaid : Prop := Claim7.holds Tryd.pinned (.plain (OpenSpec.upto natShiftsSpec)) natShiftsUptoCard

/-- THE SECOND FORM's CARD OF 'caliperlaw01.NatTexts'. -/
def natTextsUptoCard : Claim7 := { stood := { row := natTextsUptoRow, standIns := [], harness := (true, "0d569f00d186d6c6599e147fb27e723abea795cd489b99dc2d8feb5fd1b0d02e"), looks := true }, kinds := [], alts := [], laidByText := true, laidKinds := [.data, .data, .data, .sentinel, .sentinel], laidTests := true, laidLooks := .later }
def NatTextsUptoCardSaid : Prop := Claim7.holds Tryd.pinned (.plain (OpenSpec.upto natTextsSpec)) natTextsUptoCard

/-- THE SECOND FORM's CARD OF 'caliperlaw01.NatParts'. -/
def natPartsUptoCard : Claim7 := { stood := { row := natPartsUptoRow, standIns := [], harness := (true, "0d569f00d186d6c6599e147fb27e723abea795cd489b99dc2d8feb5fd1b0d02e"), looks := true }, kinds := [], alts := [], laidByText := true, laidKinds := [.data, .data, .data, .sentinel, .sentinel], laidTests := true, laidLooks := .later }
def NatPartsUptoCardSaid : Prop := Claim7.holds Tryd.pinned (.plain (OpenSpec.upto natPartsSpec)) natPartsUptoCard

/-- THE SECOND FORM's CARD OF 'caliperlaw01.NatOwn'. -/
def natOwnUptoCard : Claim7 := { stood := { row := natOwnUptoRow, standIns := [], harness := (true, "0d569f00d186d6c6599e147fb27e723abea795cd489b99dc2d8feb5fd1b0d02e"), looks := true }, kinds := [], alts := [], laidByText := true, laidKinds := [.data, .data, .data, .sentinel, .sentinel], laidTests := true, laidLooks := .later }
def NatOwnUptoCardSaid : Prop := Claim7.holds Tryd.pinned (.plain (OpenSpec.upto natOwnSpec)) natOwnUptoCard

/-- THE SECOND FORM's CARD OF 'caliperlaw02.ExactOf'. -/
def exactOfUptoCard : Claim7 := { stood := { row := exactOfUptoRow, standIns := [], harness := (true, "0d569f00d186d6c6599e147fb27e723abea795cd489b99dc2d8feb5fd1b0d02e"), looks := true }, kinds := [], alts := [], laidByText := true, laidKinds := [.data, .data, .data], laidTests := true, laidLooks := .later }
def ExactOfUptoCardSaid : Prop := Claim7.holds Tryd.pinned (.plain (OpenSpec.upto exactOfSpec)) exactOfUptoCard

/-- THE SECOND FORM's CARD OF 'caliperlaw02.ExactOrder'. -/
def exactOrderUptoCard : Claim7 := { stood := { row := exactOrderUptoRow, standIns := [], harness := (true, "0d569f00d186d6c6599e147fb27e723abea795cd489b99dc2d8feb5fd1b0d02e"), looks := true }, kinds := [], alts := [], laidByText := true, laidKinds := [.data, .data, .data], laidTests := true, laidLooks := .later }
def ExactOrderUptoCardSaid : Prop := Claim7.holds Tryd.pinned (.plain (OpenSpec.upto exactOrderSpec)) exactOrderUptoCard

/-- THE SECOND FORM's CARD OF 'caliperlaw02.ExactFloor'. -/
def exactFloorUptoCard : Claim7 := { stood := { row := exactFloorUptoRow, standIns := [], harness := (true, "0d569f00d186d6c6599e147fb27e723abea795cd489b99dc2d8feb5fd1b0d02e"), looks := true }, kinds := [], alts := [], laidByText := true, laidKinds := [.data, .data, .data], laidTests := true, laidLooks := .later }
def ExactFloorUptoCardSaid : Prop := Claim7.holds Tryd.pinned (.plain (OpenSpec.upto exactFloorSpec)) exactFloorUptoCard

/-- THE SECOND FORM's CARD OF 'caliperlaw02.ExactLog'. -/
def exactLogUptoCard : Claim7 := { stood := { row := exactLogUptoRow, standIns := [], harness := (true, "0d569f00d186d6c6599e147fb27e723abea795cd489b99dc2d8feb5fd1b0d02e"), looks := true }, kinds := [], alts := [], laidByText := true, laidKinds := [.data, .data, .data], laidTests := true, laidLooks := .later }
def ExactLogUptoCardSaid : Prop := Claim7.holds Tryd.pinned (.plain (OpenSpec.upto exactLogSpec)) exactLogUptoCard

/-- THE SECOND FORM's CARD OF 'caliperlaw02.ExactScaled'. -/
def exactScaledUptoCard : Claim7 := { stood := { row := exactScaledUptoRow, standIns := [], harness := (true, "0d569f00d186d6c6599e147fb27e723abea795cd489b99dc2d8feb5fd1b0d02e"), looks := true }, kinds := [], alts := [], laidByText := true, laidKinds := [.data, .data, .data], laidTests := true, laidLooks := .later }
def ExactScaledUptoCardSaid : Prop := Claim7.holds Tryd.pinned (.plain (OpenSpec.upto exactScaledSpec)) exactScaledUptoCard

/-- THE SECOND FORM's CARD OF 'caliperlaw02.ExactSteps'. -/
def exactStepsUptoCard : Claim7 := { stood := { row := exactStepsUptoRow, standIns := [], harness := (true, "0d569f00d186d6c6599e147fb27e723abea795cd489b99dc2d8feb5fd1b0d02e"), looks := true }, kinds := [], alts := [], laidByText := true, laidKinds := [.data, .data, .data], laidTests := true, laidLooks := .later }
def ExactStepsUptoCardSaid : Prop := Claim7.holds Tryd.pinned (.plain (OpenSpec.upto exactStepsSpec)) exactStepsUptoCard

/-- THE SECOND FORM's CARD OF 'caliperlaw02.ExactNoughts'. -/
def exactNoughtsUptoCard : Claim7 := { stood := { row := exactNoughtsUptoRow, standIns := [], harness := (true, "0d569f00d186d6c6599e147fb27e723abea795cd489b99dc2d8feb5fd1b0d02e"), looks := true }, kinds := [], alts := [], laidByText := true, laidKinds := [.data, .data, .data], laidTests := true, laidLooks := .later }
def ExactNoughtsUptoCardSaid : Prop := Claim7.holds Tryd.pinned (.plain (OpenSpec.upto exactNoughtsSpec)) exactNoughtsUptoCard
end Rows
end Go.Proofs.YtdokioefcfcfnaaDoor
