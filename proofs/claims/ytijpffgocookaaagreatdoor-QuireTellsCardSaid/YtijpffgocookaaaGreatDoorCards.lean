/-
  DERIVED. GIVEN WITH THE SEED: THE CARDS: each row of YtijpffgocookaaaGreatDoorRows.lean that lists a variable, with what it lists TIED to the program's text (the seventh form; the later family's looks); each row that meets fmt, with fmt's text TOLD by the authors' own Lean function (tested against real Go, not proved from fmt's source: count such statements apart). THE CARD IS WHAT COUNTS. Prove the row's statement (the work); the ties are given (YtijpffgocookaaaGreatDoorTie.lean); close each card by the builder's one call (the guide's Derived/Test/ToyasCard.lean, 'card_holds'). Laid BY PROGRAM, IN A SANDBOX (cutbox-door.mjs). By AI agents, Wed Nov 11 2026. No macro, syntax, notation, axiom, sorry.
-/
import Derived.Test.YtijpffgocookaaaGreatDoorRows
import GoSem.ClaimSeven
namespace Go.Proofs.YtijpffgocookaaaGreatDoor
namespace Rows

/-- THE TIED CARD OF 'caliperlaw15.QuireTells'. -/
def quireTellsCard : Claim7 := { stood := { row := quireTellsRow, standIns := [], harness := (true, "9709da7acf06b76d89cbe0543bd068f2c7214238baa212fe1e0c9c451af05f53"), looks := true }, kinds := [], alts := [], laidByText := true, laidKinds := [.data, .data], laidTests := true, laidLooks := .later }
def QuireTellsCardSaid : Prop := Claim7.holds Tryz.pinned (.plain (OpenSpec.ofChange quireTellsSpec)) quireTellsCard

/-- THE TIED CARD OF 'caliperlaw15.QuireOrder'. -/
def quireOrderCard : Claim7 := { stood := { row := quireOrderRow, standIns := [], harness := (true, "9709da7acf06b76d89cbe0543bd068f2c7214238baa212fe1e0c9c451af05f53"), looks := true }, kinds := [], alts := [], laidByText := true, laidKinds := [.data, .data], laidTests := true, laidLooks := .later }
def QuireOrderCardSaid : Prop := Claim7.holds Tryz.pinned (.plain (OpenSpec.ofChange quireOrderSpec)) quireOrderCard

/-- THE TIED CARD OF 'caliperlaw15.QuireTaken'. -/
def quireTakenCard : Claim7 := { stood := { row := quireTakenRow, standIns := [], harness := (true, "9709da7acf06b76d89cbe0543bd068f2c7214238baa212fe1e0c9c451af05f53"), looks := true }, kinds := [], alts := [], laidByText := true, laidKinds := [.data, .data], laidTests := true, laidLooks := .later }
def QuireTakenCardSaid : Prop := Claim7.holds Tryz.pinned (.plain (OpenSpec.ofChange quireTakenSpec)) quireTakenCard

/-- THE TIED CARD OF 'caliperlaw15.QuireNaR'. -/
def quireNaRCard : Claim7 := { stood := { row := quireNaRRow, standIns := [], harness := (true, "9709da7acf06b76d89cbe0543bd068f2c7214238baa212fe1e0c9c451af05f53"), looks := true }, kinds := [], alts := [], laidByText := true, laidKinds := [.data, .data], laidTests := true, laidLooks := .later }
def QuireNaRCardSaid : Prop := Claim7.holds Tryz.pinned (.plain (OpenSpec.ofChange quireNaRSpec)) quireNaRCard

/-- THE TIED CARD OF 'caliperlaw15.QuireLoads'. -/
def quireLoadsCard : Claim7 := { stood := { row := quireLoadsRow, standIns := [], harness := (true, "9709da7acf06b76d89cbe0543bd068f2c7214238baa212fe1e0c9c451af05f53"), looks := true }, kinds := [], alts := [], laidByText := true, laidKinds := [.data, .data], laidTests := true, laidLooks := .later }
def QuireLoadsCardSaid : Prop := Claim7.holds Tryz.pinned (.plain (OpenSpec.ofChange quireLoadsSpec)) quireLoadsCard

/-- THE TIED CARD OF 'caliperlaw15.QuireOne'. -/
def quireOneCard : Claim7 := { stood := { row := quireOneRow, standIns := [], harness := (true, "9709da7acf06b76d89cbe0543bd068f2c7214238baa212fe1e0c9c451af05f53"), looks := true }, kinds := [], alts := [], laidByText := true, laidKinds := [.data, .data], laidTests := true, laidLooks := .later }
def QuireOneCardSaid : Prop := Claim7.holds Tryz.pinned (.plain (OpenSpec.ofChange quireOneSpec)) quireOneCard

/-- THE TIED CARD OF 'caliperlaw15.QuireSwaps'. -/
def quireSwapsCard : Claim7 := { stood := { row := quireSwapsRow, standIns := [], harness := (true, "9709da7acf06b76d89cbe0543bd068f2c7214238baa212fe1e0c9c451af05f53"), looks := true }, kinds := [], alts := [], laidByText := true, laidKinds := [.data, .data], laidTests := true, laidLooks := .later }
def QuireSwapsCardSaid : Prop := Claim7.holds Tryz.pinned (.plain (OpenSpec.ofChange quireSwapsSpec)) quireSwapsCard

/-- THE TIED CARD OF 'caliperlaw15.QuireWide'. -/
def quireWideCard : Claim7 := { stood := { row := quireWideRow, standIns := [], harness := (true, "9709da7acf06b76d89cbe0543bd068f2c7214238baa212fe1e0c9c451af05f53"), looks := true }, kinds := [], alts := [], laidByText := true, laidKinds := [.data, .data], laidTests := true, laidLooks := .later }
def QuireWideCardSaid : Prop := Claim7.holds Tryz.pinned (.plain (OpenSpec.ofChange quireWideSpec)) quireWideCard

/-- THE TIED CARD OF 'caliperlaw15.QuireRounds'. -/
def quireRoundsCard : Claim7 := { stood := { row := quireRoundsRow, standIns := [], harness := (true, "9709da7acf06b76d89cbe0543bd068f2c7214238baa212fe1e0c9c451af05f53"), looks := true }, kinds := [], alts := [], laidByText := true, laidKinds := [.data, .data], laidTests := true, laidLooks := .later }
def QuireRoundsCardSaid : Prop := Claim7.holds Tryz.pinned (.plain (OpenSpec.ofChange quireRoundsSpec)) quireRoundsCard

/-- THE SECOND FORM's CARD OF 'caliperlaw15.QuireTells'. -/
def quireTellsUptoCard : Claim7 := { stood := { row := quireTellsUptoRow, standIns := [], harness := (true, "9709da7acf06b76d89cbe0543bd068f2c7214238baa212fe1e0c9c451af05f53"), looks := true }, kinds := [], alts := [], laidByText := true, laidKinds := [.data, .data], laidTests := true, laidLooks := .later }
def QuireTellsUptoCardSaid : Prop := Claim7.holds Tryz.pinned (.plain (OpenSpec.upto quireTellsSpec)) quireTellsUptoCard

/-- THE SECOND FORM's CARD OF 'caliperlaw15.QuireOrder'. -/
def quireOrderUptoCard : Claim7 := { stood := { row := quireOrderUptoRow, standIns := [], harness := (true, "9709da7acf06b76d89cbe0543bd068f2c7214238baa212fe1e0c9c451af05f53"), looks := true }, kinds := [], alts := [], laidByText := true, laidKinds := [.data, .data], laidTests := true, laidLooks := .later }
def QuireOrderUptoCardSaid : Prop := Claim7.holds Tryz.pinned (.plain (OpenSpec.upto quireOrderSpec)) quireOrderUptoCard

/-- THE SECOND FORM's CARD OF 'caliperlaw15.QuireTaken'. -/
def quireTakenUptoCard : Claim7 := { stood := { row := quireTakenUptoRow, standIns := [], harness := (true, "9709da7acf06b76d89cbe0543bd068f2c7214238baa212fe1e0c9c451af05f53"), looks := true }, kinds := [], alts := [], laidByText := true, laidKinds := [.data, .data], laidTests := true, laidLooks := .later }
def QuireTakenUptoCardSaid : Prop := Claim7.holds Tryz.pinned (.plain (OpenSpec.upto quireTakenSpec)) quireTakenUptoCard

/-- THE SECOND FORM's CARD OF 'caliperlaw15.QuireNaR'. -/
def quireNaRUptoCard : Claim7 := { stood := { row := quireNaRUptoRow, standIns := [], harness := (true, "9709da7acf06b76d89cbe0543bd068f2c7214238baa212fe1e0c9c451af05f53"), looks := true }, kinds := [], alts := [], laidByText := true, laidKinds := [.data, .data], laidTests := true, laidLooks := .later }
def QuireNaRUptoCardSaid : Prop := Claim7.holds Tryz.pinned (.plain (OpenSpec.upto quireNaRSpec)) quireNaRUptoCard

/-- THE SECOND FORM's CARD OF 'caliperlaw15.QuireLoads'. -/
def quireLoadsUptoCard : Claim7 := { stood := { row := quireLoadsUptoRow, standIns := [], harness := (true, "9709da7acf06b76d89cbe0543bd068f2c7214238baa212fe1e0c9c451af05f53"), looks := true }, kinds := [], alts := [], laidByText := true, laidKinds := [.data, .data], laidTests := true, laidLooks := .later }
def QuireLoadsUptoCardSaid : Prop := Claim7.holds Tryz.pinned (.plain (OpenSpec.upto quireLoadsSpec)) quireLoadsUptoCard

/-- THE SECOND FORM's CARD OF 'caliperlaw15.QuireOne'. -/
def quireOneUptoCard : Claim7 := { stood := { row := quireOneUptoRow, standIns := [], harness := (true, "9709da7acf06b76d89cbe0543bd068f2c7214238baa212fe1e0c9c451af05f53"), looks := true }, kinds := [], alts := [], laidByText := true, laidKinds := [.data, .data], laidTests := true, laidLooks := .later }
def QuireOneUptoCardSaid : Prop := Claim7.holds Tryz.pinned (.plain (OpenSpec.upto quireOneSpec)) quireOneUptoCard

/-- THE SECOND FORM's CARD OF 'caliperlaw15.QuireSwaps'. -/
def quireSwapsUptoCard : Claim7 := { stood := { row := quireSwapsUptoRow, standIns := [], harness := (true, "9709da7acf06b76d89cbe0543bd068f2c7214238baa212fe1e0c9c451af05f53"), looks := true }, kinds := [], alts := [], laidByText := true, laidKinds := [.data, .data], laidTests := true, laidLooks := .later }
def QuireSwapsUptoCardSaid : Prop := Claim7.holds Tryz.pinned (.plain (OpenSpec.upto quireSwapsSpec)) quireSwapsUptoCard

/-- THE SECOND FORM's CARD OF 'caliperlaw15.QuireWide'. -/
def quireWideUptoCard : Claim7 := { stood := { row := quireWideUptoRow, standIns := [], harness := (true, "9709da7acf06b76d89cbe0543bd068f2c7214238baa212fe1e0c9c451af05f53"), looks := true }, kinds := [], alts := [], laidByText := true, laidKinds := [.data, .data], laidTests := true, laidLooks := .later }
def QuireWideUptoCardSaid : Prop := Claim7.holds Tryz.pinned (.plain (OpenSpec.upto quireWideSpec)) quireWideUptoCard

/-- THE SECOND FORM's CARD OF 'caliperlaw15.QuireRounds'. -/
def quireRoundsUptoCard : Claim7 := { stood := { row := quireRoundsUptoRow, standIns := [], harness := (true, "9709da7acf06b76d89cbe0543bd068f2c7214238baa212fe1e0c9c451af05f53"), looks := true }, kinds := [], alts := [], laidByText := true, laidKinds := [.data, .data], laidTests := true, laidLooks := .later }
def QuireRoundsUptoCardSaid : Prop := Claim7.holds Tryz.pinned (.plain (OpenSpec.upto quireRoundsSpec)) quireRoundsUptoCard
end Rows
end Go.Proofs.YtijpffgocookaaaGreatDoor
