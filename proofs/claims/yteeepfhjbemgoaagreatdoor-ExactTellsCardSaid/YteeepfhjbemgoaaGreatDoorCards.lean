/-
  DERIVED. GIVEN WITH THE SEED: THE CARDS: each row of YteeepfhjbemgoaaGreatDoorRows.lean that lists a variable, with what it lists TIED to the program's text (the seventh form; the later family's looks); each row that meets fmt, with fmt's text TOLD by the authors' own Lean function (tested against real Go, not proved from fmt's source: count such statements apart). THE CARD IS WHAT COUNTS. Prove the row's statement (the work); the ties are given (YteeepfhjbemgoaaGreatDoorTie.lean); close each card by the builder's one call (the guide's Derived/Test/ToyasCard.lean, 'card_holds'). Laid BY PROGRAM, IN A SANDBOX (cutbox-door.mjs). By AI agents, Wed Nov 11 2026. No macro, syntax, notation, axiom, sorry.
-/
import Derived.Test.YteeepfhjbemgoaaGreatDoorRows
import GoSem.ClaimSeven
namespace Go.Proofs.YteeepfhjbemgoaaGreatDoor
namespace Rows

/-- THE TIED CARD OF 'caliperlaw01.NatReckons'. -/
def natReckonsCard : Claim7 := { stood := { row := natReckonsRow, standIns := [], harness := (true, "3d6f2db1d8b8aaeaeb0f995fc35ea45042510d284d9bad2e78326324b2bd7409"), looks := true }, kinds := [], alts := [], laidByText := true, laidKinds := [.data, .data, .data, .sentinel, .sentinel], laidTests := true, laidLooks := .later }
def NatReckonsCardSaid : Prop := Claim7.holds Tryz.pinned (.plain (OpenSpec.ofChange natReckonsSpec)) natReckonsCard

/-- THE TIED CARD OF 'caliperlaw02.ExactTells'. -/
def exactTellsCard : Claim7 := { stood := { row := exactTellsRow, standIns := [], harness := (true, "3d6f2db1d8b8aaeaeb0f995fc35ea45042510d284d9bad2e78326324b2bd7409"), looks := true }, kinds := [], alts := [], laidByText := true, laidKinds := [.data, .data, .data], laidTests := true, laidLooks := .later }
def ExactTellsCardSaid : Prop := Claim7.holds Tryz.pinned (.plain (OpenSpec.ofChange exactTellsSpec)) exactTellsCard

/-- THE SECOND FORM's CARD OF 'caliperlaw01.NatReckons'. -/
def natReckonsUptoCard : Claim7 := { stood := { row := natReckonsUptoRow, standIns := [], harness := (true, "3d6f2db1d8b8aaeaeb0f995fc35ea45042510d284d9bad2e78326324b2bd7409"), looks := true }, kinds := [], alts := [], laidByText := true, laidKinds := [.data, .data, .data, .sentinel, .sentinel], laidTests := true, laidLooks := .later }
def NatReckonsUptoCardSaid : Prop := Claim7.holds Tryz.pinned (.plain (OpenSpec.upto natReckonsSpec)) natReckonsUptoCard

/-- THE SECOND FORM's CARD OF 'caliperlaw02.ExactTells'. -/
def exactTellsUptoCard : Claim7 := { stood := { row := exactTellsUptoRow, standIns := [], harness := (true, "3d6f2db1d8b8aaeaeb0f995fc35ea45042510d284d9bad2e78326324b2bd7409"), looks := true }, kinds := [], alts := [], laidByText := true, laidKinds := [.data, .data, .data], laidTests := true, laidLooks := .later }
def ExactTellsUptoCardSaid : Prop := Claim7.holds Tryz.pinned (.plain (OpenSpec.upto exactTellsSpec)) exactTellsUptoCard
end Rows
end Go.Proofs.YteeepfhjbemgoaaGreatDoor
