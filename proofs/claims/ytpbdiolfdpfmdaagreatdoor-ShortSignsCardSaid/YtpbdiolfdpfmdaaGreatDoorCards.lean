/-
  DERIVED. GIVEN WITH THE SEED: THE CARDS: each row of YtpbdiolfdpfmdaaGreatDoorRows.lean that lists a variable, with what it lists TIED to the program's text (the seventh form; the later family's looks); each row that meets fmt, with fmt's text TOLD by the authors' own Lean function (tested against real Go, not proved from fmt's source: count such statements apart). THE CARD IS WHAT COUNTS. Prove the row's statement (the work); the ties are given (YtpbdiolfdpfmdaaGreatDoorTie.lean); close each card by the builder's one call (the guide's Derived/Test/ToyasCard.lean, 'card_holds'). Laid BY PROGRAM, IN A SANDBOX (cutbox-door.mjs). By AI agents, Wed Nov 11 2026. No macro, syntax, notation, axiom, sorry.
-/
import Derived.Test.YtpbdiolfdpfmdaaGreatDoorRows
import GoSem.ClaimSeven
namespace Go.Proofs.YtpbdiolfdpfmdaaGreatDoor
namespace Rows

/-- THE TIED CARD OF 'caliperlaw11.ShortTells'. -/
def shortTellsCard : Claim7 := { stood := { row := shortTellsRow, standIns := [], harness := (true, "eb436ffc72659504d3ce7ae010e0746ac094584fdedd3f23e816922a607104bf"), looks := true }, kinds := [], alts := [], laidByText := true, laidKinds := [.data, .data, .data, .data], laidTests := true, laidLooks := .later }
def ShortTellsCardSaid : Prop := Claim7.holds Tryz.pinned (.plain (OpenSpec.ofChange shortTellsSpec)) shortTellsCard

/-- THE TIED CARD OF 'caliperlaw11.ShortBack'. -/
def shortBackCard : Claim7 := { stood := { row := shortBackRow, standIns := [], harness := (true, "eb436ffc72659504d3ce7ae010e0746ac094584fdedd3f23e816922a607104bf"), looks := true }, kinds := [], alts := [], laidByText := true, laidKinds := [.data, .data, .data, .data], laidTests := true, laidLooks := .later }
def ShortBackCardSaid : Prop := Claim7.holds Tryz.pinned (.plain (OpenSpec.ofChange shortBackSpec)) shortBackCard

/-- THE TIED CARD OF 'caliperlaw11.ShortNone'. -/
def shortNoneCard : Claim7 := { stood := { row := shortNoneRow, standIns := [], harness := (true, "eb436ffc72659504d3ce7ae010e0746ac094584fdedd3f23e816922a607104bf"), looks := true }, kinds := [], alts := [], laidByText := true, laidKinds := [.data, .data, .data, .data], laidTests := true, laidLooks := .later }
def ShortNoneCardSaid : Prop := Claim7.holds Tryz.pinned (.plain (OpenSpec.ofChange shortNoneSpec)) shortNoneCard

/-- THE TIED CARD OF 'caliperlaw11.ShortFull'. -/
def shortFullCard : Claim7 := { stood := { row := shortFullRow, standIns := [], harness := (true, "eb436ffc72659504d3ce7ae010e0746ac094584fdedd3f23e816922a607104bf"), looks := true }, kinds := [], alts := [], laidByText := true, laidKinds := [.data, .data, .data, .data], laidTests := true, laidLooks := .later }
def ShortFullCardSaid : Prop := Claim7.holds Tryz.pinned (.plain (OpenSpec.ofChange shortFullSpec)) shortFullCard

/-- THE TIED CARD OF 'caliperlaw11.ShortNearest'. -/
def shortNearestCard : Claim7 := { stood := { row := shortNearestRow, standIns := [], harness := (true, "eb436ffc72659504d3ce7ae010e0746ac094584fdedd3f23e816922a607104bf"), looks := true }, kinds := [], alts := [], laidByText := true, laidKinds := [.data, .data, .data, .data], laidTests := true, laidLooks := .later }
def ShortNearestCardSaid : Prop := Claim7.holds Tryz.pinned (.plain (OpenSpec.ofChange shortNearestSpec)) shortNearestCard

/-- THE TIED CARD OF 'caliperlaw11.ShortSigns'. -/
def shortSignsCard : Claim7 := { stood := { row := shortSignsRow, standIns := [], harness := (true, "eb436ffc72659504d3ce7ae010e0746ac094584fdedd3f23e816922a607104bf"), looks := true }, kinds := [], alts := [], laidByText := true, laidKinds := [.data, .data, .data, .data], laidTests := true, laidLooks := .later }
def ShortSignsCardSaid : Prop := Claim7.holds Tryz.pinned (.plain (OpenSpec.ofChange shortSignsSpec)) shortSignsCard

/-- THE TIED CARD OF 'caliperlaw11.ShortWholes'. -/
def shortWholesCard : Claim7 := { stood := { row := shortWholesRow, standIns := [], harness := (true, "eb436ffc72659504d3ce7ae010e0746ac094584fdedd3f23e816922a607104bf"), looks := true }, kinds := [], alts := [], laidByText := true, laidKinds := [.data, .data, .data, .data], laidTests := true, laidLooks := .later }
def ShortWholesCardSaid : Prop := Claim7.holds Tryz.pinned (.plain (OpenSpec.ofChange shortWholesSpec)) shortWholesCard

/-- THE TIED CARD OF 'caliperlaw11.ShortPowers'. -/
def shortPowersCard : Claim7 := { stood := { row := shortPowersRow, standIns := [], harness := (true, "eb436ffc72659504d3ce7ae010e0746ac094584fdedd3f23e816922a607104bf"), looks := true }, kinds := [], alts := [], laidByText := true, laidKinds := [.data, .data, .data, .data], laidTests := true, laidLooks := .later }
def ShortPowersCardSaid : Prop := Claim7.holds Tryz.pinned (.plain (OpenSpec.ofChange shortPowersSpec)) shortPowersCard

/-- THE SECOND FORM's CARD OF 'caliperlaw11.ShortTells'. -/
def shortTellsUptoCard : Claim7 := { stood := { row := shortTellsUptoRow, standIns := [], harness := (true, "eb436ffc72659504d3ce7ae010e0746ac094584fdedd3f23e816922a607104bf"), looks := true }, kinds := [], alts := [], laidByText := true, laidKinds := [.data, .data, .data, .data], laidTests := true, laidLooks := .later }
def ShortTellsUptoCardSaid : Prop := Claim7.holds Tryz.pinned (.plain (OpenSpec.upto shortTellsSpec)) shortTellsUptoCard

/-- THE SECOND FORM's CARD OF 'caliperlaw11.ShortBack'. -/
def shortBackUptoCard : Claim7 := { stood := { row := shortBackUptoRow, standIns := [], harness := (true, "eb436ffc72659504d3ce7ae010e0746ac094584fdedd3f23e816922a607104bf"), looks := true }, kinds := [], alts := [], laidByText := true, laidKinds := [.data, .data, .data, .data], laidTests := true, laidLooks := .later }
def ShortBackUptoCardSaid : Prop := Claim7.holds Tryz.pinned (.plain (OpenSpec.upto shortBackSpec)) shortBackUptoCard

/-- THE SECOND FORM's CARD OF 'caliperlaw11.ShortNone'. -/
def shortNoneUptoCard : Claim7 := { stood := { row := shortNoneUptoRow, standIns := [], harness := (true, "eb436ffc72659504d3ce7ae010e0746ac094584fdedd3f23e816922a607104bf"), looks := true }, kinds := [], alts := [], laidByText := true, laidKinds := [.data, .data, .data, .data], laidTests := true, laidLooks := .later }
def ShortNoneUptoCardSaid : Prop := Claim7.holds Tryz.pinned (.plain (OpenSpec.upto shortNoneSpec)) shortNoneUptoCard

/-- THE SECOND FORM's CARD OF 'caliperlaw11.ShortFull'. -/
def shortFullUptoCard : Claim7 := { stood := { row := shortFullUptoRow, standIns := [], harness := (true, "eb436ffc72659504d3ce7ae010e0746ac094584fdedd3f23e816922a607104bf"), looks := true }, kinds := [], alts := [], laidByText := true, laidKinds := [.data, .data, .data, .data], laidTests := true, laidLooks := .later }
def ShortFullUptoCardSaid : Prop := Claim7.holds Tryz.pinned (.plain (OpenSpec.upto shortFullSpec)) shortFullUptoCard

/-- THE SECOND FORM's CARD OF 'caliperlaw11.ShortNearest'. -/
def shortNearestUptoCard : Claim7 := { stood := { row := shortNearestUptoRow, standIns := [], harness := (true, "eb436ffc72659504d3ce7ae010e0746ac094584fdedd3f23e816922a607104bf"), looks := true }, kinds := [], alts := [], laidByText := true, laidKinds := [.data, .data, .data, .data], laidTests := true, laidLooks := .later }
def ShortNearestUptoCardSaid : Prop := Claim7.holds Tryz.pinned (.plain (OpenSpec.upto shortNearestSpec)) shortNearestUptoCard

/-- THE SECOND FORM's CARD OF 'caliperlaw11.ShortSigns'. -/
def shortSignsUptoCard : Claim7 := { stood := { row := shortSignsUptoRow, standIns := [], harness := (true, "eb436ffc72659504d3ce7ae010e0746ac094584fdedd3f23e816922a607104bf"), looks := true }, kinds := [], alts := [], laidByText := true, laidKinds := [.data, .data, .data, .data], laidTests := true, laidLooks := .later }
def ShortSignsUptoCardSaid : Prop := Claim7.holds Tryz.pinned (.plain (OpenSpec.upto shortSignsSpec)) shortSignsUptoCard

/-- THE SECOND FORM's CARD OF 'caliperlaw11.ShortWholes'. -/
def shortWholesUptoCard : Claim7 := { stood := { row := shortWholesUptoRow, standIns := [], harness := (true, "eb436ffc72659504d3ce7ae010e0746ac094584fdedd3f23e816922a607104bf"), looks := true }, kinds := [], alts := [], laidByText := true, laidKinds := [.data, .data, .data, .data], laidTests := true, laidLooks := .later }
def ShortWholesUptoCardSaid : Prop := Claim7.holds Tryz.pinned (.plain (OpenSpec.upto shortWholesSpec)) shortWholesUptoCard

/-- THE SECOND FORM's CARD OF 'caliperlaw11.ShortPowers'. -/
def shortPowersUptoCard : Claim7 := { stood := { row := shortPowersUptoRow, standIns := [], harness := (true, "eb436ffc72659504d3ce7ae010e0746ac094584fdedd3f23e816922a607104bf"), looks := true }, kinds := [], alts := [], laidByText := true, laidKinds := [.data, .data, .data, .data], laidTests := true, laidLooks := .later }
def ShortPowersUptoCardSaid : Prop := Claim7.holds Tryz.pinned (.plain (OpenSpec.upto shortPowersSpec)) shortPowersUptoCard
end Rows
end Go.Proofs.YtpbdiolfdpfmdaaGreatDoor
