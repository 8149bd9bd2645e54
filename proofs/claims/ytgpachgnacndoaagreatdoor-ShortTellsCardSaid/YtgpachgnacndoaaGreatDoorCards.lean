/-
  DERIVED. GIVEN WITH THE SEED: THE CARDS: each row of YtgpachgnacndoaaGreatDoorRows.lean that lists a variable, with what it lists TIED to the program's text (the seventh form; the later family's looks); each row that meets fmt, with fmt's text TOLD by the authors' own Lean function (tested against real Go, not proved from fmt's source: count such statements apart). THE CARD IS WHAT COUNTS. Prove the row's statement (the work); the ties are given (YtgpachgnacndoaaGreatDoorTie.lean); close each card by the builder's one call (the guide's Derived/Test/ToyasCard.lean, 'card_holds'). Laid BY PROGRAM, IN A SANDBOX (cutbox-door.mjs). By AI agents, Wed Nov 11 2026. No macro, syntax, notation, axiom, sorry.
-/
import Derived.Test.YtgpachgnacndoaaGreatDoorRows
import GoSem.ClaimSeven
namespace Go.Proofs.YtgpachgnacndoaaGreatDoor
namespace Rows

/-- THE TIED CARD OF 'caliperlaw11.ShortTells'. -/
def shortTellsCard : Claim7 := { stood := { row := shortTellsRow, standIns := [], harness := (true, "721ff01487b5b9479dfdd0f651168298a09d9e126904735cc6c193844b98ca91"), looks := true }, kinds := [], alts := [], laidByText := true, laidKinds := [.data, .data, .data, .data], laidTests := true, laidLooks := .later }
def ShortTellsCardSaid : Prop := Claim7.holds Tryz.pinned (.plain (OpenSpec.ofChange shortTellsSpec)) shortTellsCard

/-- THE SECOND FORM's CARD OF 'caliperlaw11.ShortTells'. -/
def shortTellsUptoCard : Claim7 := { stood := { row := shortTellsUptoRow, standIns := [], harness := (true, "721ff01487b5b9479dfdd0f651168298a09d9e126904735cc6c193844b98ca91"), looks := true }, kinds := [], alts := [], laidByText := true, laidKinds := [.data, .data, .data, .data], laidTests := true, laidLooks := .later }
def ShortTellsUptoCardSaid : Prop := Claim7.holds Tryz.pinned (.plain (OpenSpec.upto shortTellsSpec)) shortTellsUptoCard
end Rows
end Go.Proofs.YtgpachgnacndoaaGreatDoor
