/-
  DERIVED. GIVEN WITH THE SEED: THE CARDS: each row of YtadgoeplhichmaaGreatDoorRows.lean that lists a variable, with what it lists TIED to the program's text (the seventh form; the later family's looks); each row that meets fmt, with fmt's text TOLD by the authors' own Lean function (tested against real Go, not proved from fmt's source: count such statements apart). THE CARD IS WHAT COUNTS. Prove the row's statement (the work); the ties are given (YtadgoeplhichmaaGreatDoorTie.lean); close each card by the builder's one call (the guide's Derived/Test/ToyasCard.lean, 'card_holds'). Laid BY PROGRAM, IN A SANDBOX (cutbox-door.mjs). By AI agents, Wed Nov 11 2026. No macro, syntax, notation, axiom, sorry.
-/
import Derived.Test.YtadgoeplhichmaaGreatDoorRows
import GoSem.ClaimSeven
namespace Go.Proofs.YtadgoeplhichmaaGreatDoor
namespace Rows

/-- THE TIED CARD OF 'caliperlaw14.TransTells'. -/
def transTellsCard : Claim7 := { stood := { row := transTellsRow, standIns := [], harness := (true, "096d5f0614d4deb6af6f72400412ed2b8ef8561c14feebdac8d3ae6a347a2402"), looks := true }, kinds := [], alts := [], laidByText := true, laidKinds := [.data, .data], laidTests := true, laidLooks := .later }
def TransTellsCardSaid : Prop := Claim7.holds Tryz.pinned (.plain (OpenSpec.ofChange transTellsSpec)) transTellsCard

/-- THE SECOND FORM's CARD OF 'caliperlaw14.TransTells'. -/
def transTellsUptoCard : Claim7 := { stood := { row := transTellsUptoRow, standIns := [], harness := (true, "096d5f0614d4deb6af6f72400412ed2b8ef8561c14feebdac8d3ae6a347a2402"), looks := true }, kinds := [], alts := [], laidByText := true, laidKinds := [.data, .data], laidTests := true, laidLooks := .later }
def TransTellsUptoCardSaid : Prop := Claim7.holds Tryz.pinned (.plain (OpenSpec.upto transTellsSpec)) transTellsUptoCard
end Rows
end Go.Proofs.YtadgoeplhichmaaGreatDoor
