/-
  NARROWER THAN 'FOR EVERY INPUT', by the rows' own cells (each row's printed sentence says how): QuireTells: laid · QuireOrder: laid · QuireTaken: laid · QuireNaR: laid · QuireLoads: laid · QuireOne: laid · QuireSwaps: laid · QuireWide: laid · QuireRounds: laid.
  DERIVED. THE GIVEN ROWS OF THIS SEAT. 9 by the template 'for every input the law returns true; each argument reads behind the call as it read before'; 0 by the template 'total and deterministic' (their statements: YtijpffgocookaaaGreatDoorTotals.lean).
  GIVEN WITH THE SEED: the statements are not yours to turn. If you find one false, say at which input.
  Laid BY PROGRAM, IN A SANDBOX (cutbox-rows.mjs): the forced cells as the released guide's own fill.sh prints them over the translation d044a86422a0a8bd… (all of the seat's roots in one cut). By AI agents, Wed Nov 11 2026. No macro, syntax, notation, axiom, sorry.
-/
import Derived.Test.YtijpffgocookaaaGreatDoorChecked
import GoSem.Claim
import GoSem.ClaimJoined
import GoSem.ClaimMapViews
import Derived.JoinedTies
import Derived.KernelRfl
namespace Go.Proofs.YtijpffgocookaaaGreatDoor
/- THE CELL 'sum', in the pinned program and in every row, IS THE sha256 OF THE DUMP (.gsa) THAT YtijpffgocookaaaGreatDoorProg.lean LOADS. Nothing in Lean hashes anything: it is a label: what it is worth is what the hold of that sum in a sandbox is worth. -/
noncomputable def Tryz.pinned : Pinned := { name := "ytijpffgocookaaagreatdoor", sum := "d044a86422a0a8bd42a75a32ae87b96aa3f469256682491cfab38dcfe297010c", checked := Tryz.checked }
namespace Rows
def none {H : Type} : Left H := { results := [], args := [] }

/- WHAT THE LISTED PACKAGE-LEVEL VARIABLES READ AS WHEN THE CALL BEGINS. Each datum BY PROGRAM (the guide's laid-datum.mjs) off the statement by which the dump's own 'gosem.cut.vars' lays the variable. In a bare row this is a premise. The card (YtijpffgocookaaaGreatDoorCards.lean) ties it to the program's text. -/
def laid_math_bits_deBruijn64tab {H : Type} : DataW H := .agg [.lit (.int .u8 0), .lit (.int .u8 1), .lit (.int .u8 56), .lit (.int .u8 2), .lit (.int .u8 57), .lit (.int .u8 49), .lit (.int .u8 28), .lit (.int .u8 3), .lit (.int .u8 61), .lit (.int .u8 58), .lit (.int .u8 42), .lit (.int .u8 50), .lit (.int .u8 38), .lit (.int .u8 29), .lit (.int .u8 17), .lit (.int .u8 4), .lit (.int .u8 62), .lit (.int .u8 47), .lit (.int .u8 59), .lit (.int .u8 36), .lit (.int .u8 45), .lit (.int .u8 43), .lit (.int .u8 51), .lit (.int .u8 22), .lit (.int .u8 53), .lit (.int .u8 39), .lit (.int .u8 33), .lit (.int .u8 30), .lit (.int .u8 24), .lit (.int .u8 18), .lit (.int .u8 12), .lit (.int .u8 5), .lit (.int .u8 63), .lit (.int .u8 55), .lit (.int .u8 48), .lit (.int .u8 27), .lit (.int .u8 60), .lit (.int .u8 41), .lit (.int .u8 37), .lit (.int .u8 16), .lit (.int .u8 46), .lit (.int .u8 35), .lit (.int .u8 44), .lit (.int .u8 21), .lit (.int .u8 52), .lit (.int .u8 32), .lit (.int .u8 23), .lit (.int .u8 11), .lit (.int .u8 54), .lit (.int .u8 26), .lit (.int .u8 40), .lit (.int .u8 15), .lit (.int .u8 34), .lit (.int .u8 20), .lit (.int .u8 31), .lit (.int .u8 10), .lit (.int .u8 25), .lit (.int .u8 14), .lit (.int .u8 19), .lit (.int .u8 9), .lit (.int .u8 13), .lit (.int .u8 8), .lit (.int .u8 7), .lit (.int .u8 6)]
def laid_caliper_forms_table {H : Type} : DataW H := .agg [.agg [.lit (.int .i64 0), .lit (.int .i64 0), .lit (.int .i64 0), .lit (.int .i64 0), .lit (.int .u64 0), .lit (.int .u64 0), .lit (.int .u64 0)], .agg [.lit (.int .i64 1), .lit (.int .i64 8), .lit (.int .i64 0), .lit (.int .i64 0), .lit (.int .u64 127), .lit (.int .u64 0), .lit (.int .u64 128)], .agg [.lit (.int .i64 1), .lit (.int .i64 16), .lit (.int .i64 0), .lit (.int .i64 0), .lit (.int .u64 32767), .lit (.int .u64 0), .lit (.int .u64 32768)], .agg [.lit (.int .i64 1), .lit (.int .i64 32), .lit (.int .i64 0), .lit (.int .i64 0), .lit (.int .u64 2147483647), .lit (.int .u64 0), .lit (.int .u64 2147483648)], .agg [.lit (.int .i64 1), .lit (.int .i64 64), .lit (.int .i64 0), .lit (.int .i64 0), .lit (.int .u64 9223372036854775807), .lit (.int .u64 0), .lit (.int .u64 9223372036854775808)], .agg [.lit (.int .i64 2), .lit (.int .i64 8), .lit (.int .i64 3), .lit (.int .i64 7), .lit (.int .u64 126), .lit (.int .u64 0), .lit (.int .u64 127)], .agg [.lit (.int .i64 2), .lit (.int .i64 8), .lit (.int .i64 2), .lit (.int .i64 15), .lit (.int .u64 123), .lit (.int .u64 124), .lit (.int .u64 126)], .agg [.lit (.int .i64 2), .lit (.int .i64 6), .lit (.int .i64 2), .lit (.int .i64 3), .lit (.int .u64 31), .lit (.int .u64 0), .lit (.int .u64 0)], .agg [.lit (.int .i64 2), .lit (.int .i64 6), .lit (.int .i64 3), .lit (.int .i64 1), .lit (.int .u64 31), .lit (.int .u64 0), .lit (.int .u64 0)], .agg [.lit (.int .i64 2), .lit (.int .i64 4), .lit (.int .i64 1), .lit (.int .i64 1), .lit (.int .u64 7), .lit (.int .u64 0), .lit (.int .u64 0)], .agg [.lit (.int .i64 3), .lit (.int .i64 8), .lit (.int .i64 6), .lit (.int .i64 0), .lit (.int .u64 127), .lit (.int .u64 0), .lit (.int .u64 0)], .agg [.lit (.int .i64 4), .lit (.int .i64 8), .lit (.int .i64 0), .lit (.int .i64 127), .lit (.int .u64 254), .lit (.int .u64 0), .lit (.int .u64 255)], .agg [.lit (.int .i64 2), .lit (.int .i64 16), .lit (.int .i64 10), .lit (.int .i64 15), .lit (.int .u64 31743), .lit (.int .u64 31744), .lit (.int .u64 32256)], .agg [.lit (.int .i64 2), .lit (.int .i64 32), .lit (.int .i64 23), .lit (.int .i64 127), .lit (.int .u64 2139095039), .lit (.int .u64 2139095040), .lit (.int .u64 2143289344)], .agg [.lit (.int .i64 2), .lit (.int .i64 64), .lit (.int .i64 52), .lit (.int .i64 1023), .lit (.int .u64 9218868437227405311), .lit (.int .u64 9218868437227405312), .lit (.int .u64 9221120237041090560)]]

/-- 'caliperlaw15.QuireTells': WHATEVER THE INPUT: true; the input reads as it did. -/
def quireTellsSpec : ChangeSpec := { name := "quireTells", fn := fun _ => fun
  | [d1, d2] => { results := [.lit (.bool true)], args := [d1, d2] }
  | _ => none }
def quireTellsRow : OpenClaim := { program := "ytijpffgocookaaagreatdoor", sum := "d044a86422a0a8bd42a75a32ae87b96aa3f469256682491cfab38dcfe297010c", func := "caliper/caliperlaw15.QuireTells", spec := "quireTells", inPlace := ["math/bits.Add64", "math/bits.Sub64"], unfollowed := true, recurses := true, named := ["caliper/forms.table", "math/bits.deBruijn64tab", "math/bits.divideError", "math/bits.overflowError"], apart := false, laid := [("math/bits.deBruijn64tab", laid_math_bits_deBruijn64tab), ("caliper/forms.table", laid_caliper_forms_table)] }
def QuireTellsSaid : Prop := quireTellsRow.holds Tryz.pinned (OpenSpec.ofChange quireTellsSpec)

/-- ITS FALSE NEIGHBOUR: 'it returns false'. Refute it at one input. -/
def quireTellsWrong : ChangeSpec := { name := "quireTells", fn := fun _ => fun
  | [d1, d2] => { results := [.lit (.bool false)], args := [d1, d2] }
  | _ => none }
def QuireTellsWrongFalsely : Prop := quireTellsRow.holds Tryz.pinned (OpenSpec.ofChange quireTellsWrong)

/-- 'caliperlaw15.QuireOrder': WHATEVER THE INPUT: true; the input reads as it did. -/
def quireOrderSpec : ChangeSpec := { name := "quireOrder", fn := fun _ => fun
  | [d1, d2] => { results := [.lit (.bool true)], args := [d1, d2] }
  | _ => none }
def quireOrderRow : OpenClaim := { program := "ytijpffgocookaaagreatdoor", sum := "d044a86422a0a8bd42a75a32ae87b96aa3f469256682491cfab38dcfe297010c", func := "caliper/caliperlaw15.QuireOrder", spec := "quireOrder", inPlace := ["math/bits.Add64", "math/bits.Sub64"], unfollowed := true, recurses := true, named := ["caliper/forms.table", "math/bits.deBruijn64tab"], apart := false, laid := [("math/bits.deBruijn64tab", laid_math_bits_deBruijn64tab), ("caliper/forms.table", laid_caliper_forms_table)] }
def QuireOrderSaid : Prop := quireOrderRow.holds Tryz.pinned (OpenSpec.ofChange quireOrderSpec)

/-- ITS FALSE NEIGHBOUR: 'it returns false'. Refute it at one input. -/
def quireOrderWrong : ChangeSpec := { name := "quireOrder", fn := fun _ => fun
  | [d1, d2] => { results := [.lit (.bool false)], args := [d1, d2] }
  | _ => none }
def QuireOrderWrongFalsely : Prop := quireOrderRow.holds Tryz.pinned (OpenSpec.ofChange quireOrderWrong)

/-- 'caliperlaw15.QuireTaken': WHATEVER THE INPUT: true; the input reads as it did. -/
def quireTakenSpec : ChangeSpec := { name := "quireTaken", fn := fun _ => fun
  | [d1, d2, d3, d4] => { results := [.lit (.bool true)], args := [d1, d2, d3, d4] }
  | _ => none }
def quireTakenRow : OpenClaim := { program := "ytijpffgocookaaagreatdoor", sum := "d044a86422a0a8bd42a75a32ae87b96aa3f469256682491cfab38dcfe297010c", func := "caliper/caliperlaw15.QuireTaken", spec := "quireTaken", inPlace := ["math/bits.Add64", "math/bits.Sub64"], unfollowed := true, recurses := true, named := ["caliper/forms.table", "math/bits.deBruijn64tab"], apart := false, laid := [("math/bits.deBruijn64tab", laid_math_bits_deBruijn64tab), ("caliper/forms.table", laid_caliper_forms_table)] }
def QuireTakenSaid : Prop := quireTakenRow.holds Tryz.pinned (OpenSpec.ofChange quireTakenSpec)

/-- ITS FALSE NEIGHBOUR: 'it returns false'. Refute it at one input. -/
def quireTakenWrong : ChangeSpec := { name := "quireTaken", fn := fun _ => fun
  | [d1, d2, d3, d4] => { results := [.lit (.bool false)], args := [d1, d2, d3, d4] }
  | _ => none }
def QuireTakenWrongFalsely : Prop := quireTakenRow.holds Tryz.pinned (OpenSpec.ofChange quireTakenWrong)

/-- 'caliperlaw15.QuireNaR': WHATEVER THE INPUT: true; the input reads as it did. -/
def quireNaRSpec : ChangeSpec := { name := "quireNaR", fn := fun _ => fun
  | [d1, d2] => { results := [.lit (.bool true)], args := [d1, d2] }
  | _ => none }
def quireNaRRow : OpenClaim := { program := "ytijpffgocookaaagreatdoor", sum := "d044a86422a0a8bd42a75a32ae87b96aa3f469256682491cfab38dcfe297010c", func := "caliper/caliperlaw15.QuireNaR", spec := "quireNaR", inPlace := ["math/bits.Add64", "math/bits.Sub64"], unfollowed := true, recurses := true, named := ["caliper/forms.table", "math/bits.deBruijn64tab"], apart := false, laid := [("math/bits.deBruijn64tab", laid_math_bits_deBruijn64tab), ("caliper/forms.table", laid_caliper_forms_table)] }
def QuireNaRSaid : Prop := quireNaRRow.holds Tryz.pinned (OpenSpec.ofChange quireNaRSpec)

/-- ITS FALSE NEIGHBOUR: 'it returns false'. Refute it at one input. -/
def quireNaRWrong : ChangeSpec := { name := "quireNaR", fn := fun _ => fun
  | [d1, d2] => { results := [.lit (.bool false)], args := [d1, d2] }
  | _ => none }
def QuireNaRWrongFalsely : Prop := quireNaRRow.holds Tryz.pinned (OpenSpec.ofChange quireNaRWrong)

/-- 'caliperlaw15.QuireLoads': WHATEVER THE INPUT: true; the input reads as it did. -/
def quireLoadsSpec : ChangeSpec := { name := "quireLoads", fn := fun _ => fun
  | [d1, d2] => { results := [.lit (.bool true)], args := [d1, d2] }
  | _ => none }
def quireLoadsRow : OpenClaim := { program := "ytijpffgocookaaagreatdoor", sum := "d044a86422a0a8bd42a75a32ae87b96aa3f469256682491cfab38dcfe297010c", func := "caliper/caliperlaw15.QuireLoads", spec := "quireLoads", inPlace := ["math/bits.Add64", "math/bits.Sub64"], unfollowed := true, recurses := true, named := ["caliper/forms.table", "math/bits.deBruijn64tab", "math/bits.divideError", "math/bits.overflowError"], apart := false, laid := [("math/bits.deBruijn64tab", laid_math_bits_deBruijn64tab), ("caliper/forms.table", laid_caliper_forms_table)] }
def QuireLoadsSaid : Prop := quireLoadsRow.holds Tryz.pinned (OpenSpec.ofChange quireLoadsSpec)

/-- ITS FALSE NEIGHBOUR: 'it returns false'. Refute it at one input. -/
def quireLoadsWrong : ChangeSpec := { name := "quireLoads", fn := fun _ => fun
  | [d1, d2] => { results := [.lit (.bool false)], args := [d1, d2] }
  | _ => none }
def QuireLoadsWrongFalsely : Prop := quireLoadsRow.holds Tryz.pinned (OpenSpec.ofChange quireLoadsWrong)

/-- 'caliperlaw15.QuireOne': WHATEVER THE INPUT: true; the input reads as it did. -/
def quireOneSpec : ChangeSpec := { name := "quireOne", fn := fun _ => fun
  | [d1, d2] => { results := [.lit (.bool true)], args := [d1, d2] }
  | _ => none }
def quireOneRow : OpenClaim := { program := "ytijpffgocookaaagreatdoor", sum := "d044a86422a0a8bd42a75a32ae87b96aa3f469256682491cfab38dcfe297010c", func := "caliper/caliperlaw15.QuireOne", spec := "quireOne", inPlace := ["math/bits.Add64", "math/bits.Sub64"], unfollowed := true, recurses := true, named := ["caliper/forms.table", "math/bits.deBruijn64tab"], apart := false, laid := [("math/bits.deBruijn64tab", laid_math_bits_deBruijn64tab), ("caliper/forms.table", laid_caliper_forms_table)] }
def QuireOneSaid : Prop := quireOneRow.holds Tryz.pinned (OpenSpec.ofChange quireOneSpec)

/-- ITS FALSE NEIGHBOUR: 'it returns false'. Refute it at one input. -/
def quireOneWrong : ChangeSpec := { name := "quireOne", fn := fun _ => fun
  | [d1, d2] => { results := [.lit (.bool false)], args := [d1, d2] }
  | _ => none }
def QuireOneWrongFalsely : Prop := quireOneRow.holds Tryz.pinned (OpenSpec.ofChange quireOneWrong)

/-- 'caliperlaw15.QuireSwaps': WHATEVER THE INPUT: true; the input reads as it did. -/
def quireSwapsSpec : ChangeSpec := { name := "quireSwaps", fn := fun _ => fun
  | [d1, d2, d3, d4] => { results := [.lit (.bool true)], args := [d1, d2, d3, d4] }
  | _ => none }
def quireSwapsRow : OpenClaim := { program := "ytijpffgocookaaagreatdoor", sum := "d044a86422a0a8bd42a75a32ae87b96aa3f469256682491cfab38dcfe297010c", func := "caliper/caliperlaw15.QuireSwaps", spec := "quireSwaps", inPlace := ["math/bits.Add64", "math/bits.Sub64"], unfollowed := true, recurses := true, named := ["caliper/forms.table", "math/bits.deBruijn64tab"], apart := false, laid := [("math/bits.deBruijn64tab", laid_math_bits_deBruijn64tab), ("caliper/forms.table", laid_caliper_forms_table)] }
def QuireSwapsSaid : Prop := quireSwapsRow.holds Tryz.pinned (OpenSpec.ofChange quireSwapsSpec)

/-- ITS FALSE NEIGHBOUR: 'it returns false'. Refute it at one input. -/
def quireSwapsWrong : ChangeSpec := { name := "quireSwaps", fn := fun _ => fun
  | [d1, d2, d3, d4] => { results := [.lit (.bool false)], args := [d1, d2, d3, d4] }
  | _ => none }
def QuireSwapsWrongFalsely : Prop := quireSwapsRow.holds Tryz.pinned (OpenSpec.ofChange quireSwapsWrong)

/-- 'caliperlaw15.QuireWide': WHATEVER THE INPUT: true; the input reads as it did. -/
def quireWideSpec : ChangeSpec := { name := "quireWide", fn := fun _ => fun
  | [d1, d2, d3] => { results := [.lit (.bool true)], args := [d1, d2, d3] }
  | _ => none }
def quireWideRow : OpenClaim := { program := "ytijpffgocookaaagreatdoor", sum := "d044a86422a0a8bd42a75a32ae87b96aa3f469256682491cfab38dcfe297010c", func := "caliper/caliperlaw15.QuireWide", spec := "quireWide", inPlace := ["math/bits.Add64", "math/bits.Sub64"], unfollowed := true, recurses := true, named := ["caliper/forms.table", "math/bits.deBruijn64tab"], apart := false, laid := [("math/bits.deBruijn64tab", laid_math_bits_deBruijn64tab), ("caliper/forms.table", laid_caliper_forms_table)] }
def QuireWideSaid : Prop := quireWideRow.holds Tryz.pinned (OpenSpec.ofChange quireWideSpec)

/-- ITS FALSE NEIGHBOUR: 'it returns false'. Refute it at one input. -/
def quireWideWrong : ChangeSpec := { name := "quireWide", fn := fun _ => fun
  | [d1, d2, d3] => { results := [.lit (.bool false)], args := [d1, d2, d3] }
  | _ => none }
def QuireWideWrongFalsely : Prop := quireWideRow.holds Tryz.pinned (OpenSpec.ofChange quireWideWrong)

/-- 'caliperlaw15.QuireRounds': WHATEVER THE INPUT: true; the input reads as it did. -/
def quireRoundsSpec : ChangeSpec := { name := "quireRounds", fn := fun _ => fun
  | [d1, d2] => { results := [.lit (.bool true)], args := [d1, d2] }
  | _ => none }
def quireRoundsRow : OpenClaim := { program := "ytijpffgocookaaagreatdoor", sum := "d044a86422a0a8bd42a75a32ae87b96aa3f469256682491cfab38dcfe297010c", func := "caliper/caliperlaw15.QuireRounds", spec := "quireRounds", inPlace := ["math/bits.Add64", "math/bits.Sub64"], unfollowed := true, recurses := true, named := ["caliper/forms.table", "math/bits.deBruijn64tab", "math/bits.divideError", "math/bits.overflowError"], apart := false, laid := [("math/bits.deBruijn64tab", laid_math_bits_deBruijn64tab), ("caliper/forms.table", laid_caliper_forms_table)] }
def QuireRoundsSaid : Prop := quireRoundsRow.holds Tryz.pinned (OpenSpec.ofChange quireRoundsSpec)

/-- ITS FALSE NEIGHBOUR: 'it returns false'. Refute it at one input. -/
def quireRoundsWrong : ChangeSpec := { name := "quireRounds", fn := fun _ => fun
  | [d1, d2] => { results := [.lit (.bool false)], args := [d1, d2] }
  | _ => none }
def QuireRoundsWrongFalsely : Prop := quireRoundsRow.holds Tryz.pinned (OpenSpec.ofChange quireRoundsWrong)

/- THE SECOND FORM. 'bulk': how many values and letters a reading holds, each counted each time it is reached (what is shared counts as often as it is met; a slice's spare places count too). A statement '..UptoSaid' is the law's where the arguments, and the package variables that the reading takes, are together of bulk at most 1048576: NARROWER than '..Said'. Prove '..Said' where nothing that the law and all that it calls make is longer than what came in: it says more and counts as full. Else prove '..UptoSaid'. A law counts once. -/
mutual
def uptoBulk {H : Type} : DataW H → Nat
  | .lit (.string bytes) => bytes.length + 1
  | .lit _ => 1
  | .nil => 1
  | .ptr d => uptoBulk d + 1
  | .slice elems spare => uptoBulkAll elems + uptoBulkAll spare + 1
  | .agg parts => uptoBulkAll parts + 1
  | .iface _ d => uptoBulk d + 1
  | .map entries => uptoBulkEntries entries + 1
  | .held _ => 1
def uptoBulkAll {H : Type} : List (DataW H) → Nat
  | [] => 0
  | d :: r => uptoBulk d + uptoBulkAll r
def uptoBulkEntries {H : Type} : List (Lit × DataW H) → Nat
  | [] => 0
  | x :: r => uptoBulkEntry x + uptoBulkEntries r
def uptoBulkEntry {H : Type} : Lit × DataW H → Nat
  | (.string bytes, d) => bytes.length + uptoBulk d + 1
  | (_, d) => uptoBulk d + 1
 end
def uptoSmall : (H : Type) → List (DataW H) → Bool := fun _ ds => decide (uptoBulkAll ds ≤ 1048576)
def OpenSpec.upto (s : _root_.Go.ChangeSpec) : _root_.Go.OpenSpec := { _root_.Go.OpenSpec.ofChange s with cond := some uptoSmall }

/-- 'caliperlaw15.QuireTells', WHERE WHAT IT READS IS OF BULK AT MOST 1048576: true; the input reads as it did. -/
def quireTellsUptoRow : OpenClaim := { program := "ytijpffgocookaaagreatdoor", sum := "d044a86422a0a8bd42a75a32ae87b96aa3f469256682491cfab38dcfe297010c", func := "caliper/caliperlaw15.QuireTells", spec := "quireTells", inPlace := ["math/bits.Add64", "math/bits.Sub64"], unfollowed := true, recurses := true, named := ["caliper/forms.table", "math/bits.deBruijn64tab", "math/bits.divideError", "math/bits.overflowError"], apart := false, laid := [("math/bits.deBruijn64tab", laid_math_bits_deBruijn64tab), ("caliper/forms.table", laid_caliper_forms_table)], narrowed := true }
def QuireTellsUptoSaid : Prop := quireTellsUptoRow.holds Tryz.pinned (OpenSpec.upto quireTellsSpec)

/-- 'caliperlaw15.QuireOrder', WHERE WHAT IT READS IS OF BULK AT MOST 1048576: true; the input reads as it did. -/
def quireOrderUptoRow : OpenClaim := { program := "ytijpffgocookaaagreatdoor", sum := "d044a86422a0a8bd42a75a32ae87b96aa3f469256682491cfab38dcfe297010c", func := "caliper/caliperlaw15.QuireOrder", spec := "quireOrder", inPlace := ["math/bits.Add64", "math/bits.Sub64"], unfollowed := true, recurses := true, named := ["caliper/forms.table", "math/bits.deBruijn64tab"], apart := false, laid := [("math/bits.deBruijn64tab", laid_math_bits_deBruijn64tab), ("caliper/forms.table", laid_caliper_forms_table)], narrowed := true }
def QuireOrderUptoSaid : Prop := quireOrderUptoRow.holds Tryz.pinned (OpenSpec.upto quireOrderSpec)

/-- 'caliperlaw15.QuireTaken', WHERE WHAT IT READS IS OF BULK AT MOST 1048576: true; the input reads as it did. -/
def quireTakenUptoRow : OpenClaim := { program := "ytijpffgocookaaagreatdoor", sum := "d044a86422a0a8bd42a75a32ae87b96aa3f469256682491cfab38dcfe297010c", func := "caliper/caliperlaw15.QuireTaken", spec := "quireTaken", inPlace := ["math/bits.Add64", "math/bits.Sub64"], unfollowed := true, recurses := true, named := ["caliper/forms.table", "math/bits.deBruijn64tab"], apart := false, laid := [("math/bits.deBruijn64tab", laid_math_bits_deBruijn64tab), ("caliper/forms.table", laid_caliper_forms_table)], narrowed := true }
def QuireTakenUptoSaid : Prop := quireTakenUptoRow.holds Tryz.pinned (OpenSpec.upto quireTakenSpec)

/-- 'caliperlaw15.QuireNaR', WHERE WHAT IT READS IS OF BULK AT MOST 1048576: true; the input reads as it did. -/
def quireNaRUptoRow : OpenClaim := { program := "ytijpffgocookaaagreatdoor", sum := "d044a86422a0a8bd42a75a32ae87b96aa3f469256682491cfab38dcfe297010c", func := "caliper/caliperlaw15.QuireNaR", spec := "quireNaR", inPlace := ["math/bits.Add64", "math/bits.Sub64"], unfollowed := true, recurses := true, named := ["caliper/forms.table", "math/bits.deBruijn64tab"], apart := false, laid := [("math/bits.deBruijn64tab", laid_math_bits_deBruijn64tab), ("caliper/forms.table", laid_caliper_forms_table)], narrowed := true }
def QuireNaRUptoSaid : Prop := quireNaRUptoRow.holds Tryz.pinned (OpenSpec.upto quireNaRSpec)

/-- 'caliperlaw15.QuireLoads', WHERE WHAT IT READS IS OF BULK AT MOST 1048576: true; the input reads as it did. -/
def quireLoadsUptoRow : OpenClaim := { program := "ytijpffgocookaaagreatdoor", sum := "d044a86422a0a8bd42a75a32ae87b96aa3f469256682491cfab38dcfe297010c", func := "caliper/caliperlaw15.QuireLoads", spec := "quireLoads", inPlace := ["math/bits.Add64", "math/bits.Sub64"], unfollowed := true, recurses := true, named := ["caliper/forms.table", "math/bits.deBruijn64tab", "math/bits.divideError", "math/bits.overflowError"], apart := false, laid := [("math/bits.deBruijn64tab", laid_math_bits_deBruijn64tab), ("caliper/forms.table", laid_caliper_forms_table)], narrowed := true }
def QuireLoadsUptoSaid : Prop := quireLoadsUptoRow.holds Tryz.pinned (OpenSpec.upto quireLoadsSpec)

/-- 'caliperlaw15.QuireOne', WHERE WHAT IT READS IS OF BULK AT MOST 1048576: true; the input reads as it did. -/
def quireOneUptoRow : OpenClaim := { program := "ytijpffgocookaaagreatdoor", sum := "d044a86422a0a8bd42a75a32ae87b96aa3f469256682491cfab38dcfe297010c", func := "caliper/caliperlaw15.QuireOne", spec := "quireOne", inPlace := ["math/bits.Add64", "math/bits.Sub64"], unfollowed := true, recurses := true, named := ["caliper/forms.table", "math/bits.deBruijn64tab"], apart := false, laid := [("math/bits.deBruijn64tab", laid_math_bits_deBruijn64tab), ("caliper/forms.table", laid_caliper_forms_table)], narrowed := true }
def QuireOneUptoSaid : Prop := quireOneUptoRow.holds Tryz.pinned (OpenSpec.upto quireOneSpec)

/-- 'caliperlaw15.QuireSwaps', WHERE WHAT IT READS IS OF BULK AT MOST 1048576: true; the input reads as it did. -/
def quireSwapsUptoRow : OpenClaim := { program := "ytijpffgocookaaagreatdoor", sum := "d044a86422a0a8bd42a75a32ae87b96aa3f469256682491cfab38dcfe297010c", func := "caliper/caliperlaw15.QuireSwaps", spec := "quireSwaps", inPlace := ["math/bits.Add64", "math/bits.Sub64"], unfollowed := true, recurses := true, named := ["caliper/forms.table", "math/bits.deBruijn64tab"], apart := false, laid := [("math/bits.deBruijn64tab", laid_math_bits_deBruijn64tab), ("caliper/forms.table", laid_caliper_forms_table)], narrowed := true }
def QuireSwapsUptoSaid : Prop := quireSwapsUptoRow.holds Tryz.pinned (OpenSpec.upto quireSwapsSpec)

/-- 'caliperlaw15.QuireWide', WHERE WHAT IT READS IS OF BULK AT MOST 1048576: true; the input reads as it did. -/
def quireWideUptoRow : OpenClaim := { program := "ytijpffgocookaaagreatdoor", sum := "d044a86422a0a8bd42a75a32ae87b96aa3f469256682491cfab38dcfe297010c", func := "caliper/caliperlaw15.QuireWide", spec := "quireWide", inPlace := ["math/bits.Add64", "math/bits.Sub64"], unfollowed := true, recurses := true, named := ["caliper/forms.table", "math/bits.deBruijn64tab"], apart := false, laid := [("math/bits.deBruijn64tab", laid_math_bits_deBruijn64tab), ("caliper/forms.table", laid_caliper_forms_table)], narrowed := true }
def QuireWideUptoSaid : Prop := quireWideUptoRow.holds Tryz.pinned (OpenSpec.upto quireWideSpec)

/-- 'caliperlaw15.QuireRounds', WHERE WHAT IT READS IS OF BULK AT MOST 1048576: true; the input reads as it did. -/
def quireRoundsUptoRow : OpenClaim := { program := "ytijpffgocookaaagreatdoor", sum := "d044a86422a0a8bd42a75a32ae87b96aa3f469256682491cfab38dcfe297010c", func := "caliper/caliperlaw15.QuireRounds", spec := "quireRounds", inPlace := ["math/bits.Add64", "math/bits.Sub64"], unfollowed := true, recurses := true, named := ["caliper/forms.table", "math/bits.deBruijn64tab", "math/bits.divideError", "math/bits.overflowError"], apart := false, laid := [("math/bits.deBruijn64tab", laid_math_bits_deBruijn64tab), ("caliper/forms.table", laid_caliper_forms_table)], narrowed := true }
def QuireRoundsUptoSaid : Prop := quireRoundsUptoRow.holds Tryz.pinned (OpenSpec.upto quireRoundsSpec)

end Rows
end Go.Proofs.YtijpffgocookaaaGreatDoor
