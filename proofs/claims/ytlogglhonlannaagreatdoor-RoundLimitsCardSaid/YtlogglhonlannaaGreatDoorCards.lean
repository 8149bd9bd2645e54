/-
  DERIVED. GIVEN WITH THE SEED: THE CARDS: each row of YtlogglhonlannaaGreatDoorRows.lean that lists a variable, with what it lists TIED to the program's text (the seventh form; the later family's looks); each row that meets fmt, with fmt's text TOLD by the authors' own Lean function (tested against real Go, not proved from fmt's source: count such statements apart). THE CARD IS WHAT COUNTS. Prove the row's statement (the work); the ties are given (YtlogglhonlannaaGreatDoorTie.lean); close each card by the builder's one call (the guide's Derived/Test/ToyasCard.lean, 'card_holds'). Laid BY PROGRAM, IN A SANDBOX (cutbox-door.mjs). By AI agents, Wed Nov 11 2026. No macro, syntax, notation, axiom, sorry.
-/
import Derived.Test.YtlogglhonlannaaGreatDoorRows
import GoSem.ClaimSeven
namespace Go.Proofs.YtlogglhonlannaaGreatDoor
namespace Rows

/-- THE TIED CARD OF 'caliperlaw08.RoundTells'. -/
def roundTellsCard : Claim7 := { stood := { row := roundTellsRow, standIns := [], harness := (true, "4a88981323fc32916f8c3e6280acdc5b7ab1d731740ce70d6fbe5e2cf962b5f3"), looks := true }, kinds := [], alts := [], laidByText := true, laidKinds := [.data, .data], laidTests := true, laidLooks := .later }
def RoundTellsCardSaid : Prop := Claim7.holds Tryz.pinned (.plain (OpenSpec.ofChange roundTellsSpec)) roundTellsCard

/-- THE TIED CARD OF 'caliperlaw08.RoundLimits'. -/
def roundLimitsCard : Claim7 := { stood := { row := roundLimitsRow, standIns := [], harness := (true, "4a88981323fc32916f8c3e6280acdc5b7ab1d731740ce70d6fbe5e2cf962b5f3"), looks := true }, kinds := [], alts := [], laidByText := true, laidKinds := [.data, .data], laidTests := true, laidLooks := .later }
def RoundLimitsCardSaid : Prop := Claim7.holds Tryz.pinned (.plain (OpenSpec.ofChange roundLimitsSpec)) roundLimitsCard

/-- THE SECOND FORM's CARD OF 'caliperlaw08.RoundTells'. -/
def roundTellsUptoCard : Claim7 := { stood := { row := roundTellsUptoRow, standIns := [], harness := (true, "4a88981323fc32916f8c3e6280acdc5b7ab1d731740ce70d6fbe5e2cf962b5f3"), looks := true }, kinds := [], alts := [], laidByText := true, laidKinds := [.data, .data], laidTests := true, laidLooks := .later }
def RoundTellsUptoCardSaid : Prop := Claim7.holds Tryz.pinned (.plain (OpenSpec.upto roundTellsSpec)) roundTellsUptoCard

/-- THE SECOND FORM's CARD OF 'caliperlaw08.RoundLimits'. -/
def roundLimitsUptoCard : Claim7 := { stood := { row := roundLimitsUptoRow, standIns := [], harness := (true, "4a88981323fc32916f8c3e6280acdc5b7ab1d731740ce70d6fbe5e2cf962b5f3"), looks := true }, kinds := [], alts := [], laidByText := true, laidKinds := [.data, .data], laidTests := true, laidLooks := .later }
def RoundLimitsUptoCardSaid : Prop := Claim7.holds Tryz.pinned (.plain (OpenSpec.upto roundLimitsSpec)) roundLimitsUptoCard
end Rows
end Go.Proofs.YtlogglhonlannaaGreatDoor
