import Derived.Lib.SmallJoins
import Derived.Test.YtijpffgocookaaaGreatDoorRows
import Derived.Test.YtijpffgocookaaaGreatDoorQWFoa
import Derived.Test.YtijpffgocookaaaGreatDoorQWMqa
import Derived.WalkKit
import Derived.ProofKit
import Derived.OpenShut
import Derived.ChangeOld
import Derived.Below
import Derived.LaidMore
import Derived.Stop.LaidErr
import Derived.Lib.LaidTab
set_option maxHeartbeats 32000000
set_option linter.unusedVariables false
set_option linter.unusedSimpArgs false
namespace Go.Proofs.YtijpffgocookaaaGreatDoor
open Go.ChangeShapes Go.WideShapes Go.ChangeAt Go.RowKit
theorem own_ : ownKnob Tryz.prog.godebug = none := by kernel_rfl
theorem laidOut_ : laidOutB Tryz.prog = true := by kernel_rfl
abbrev LstV : List (String × DataW Unit) := [("math/bits.deBruijn64tab", Rows.laid_math_bits_deBruijn64tab), ("caliper/forms.table", Rows.laid_caliper_forms_table)]
def fdata {H : Type} (f : M.Fm) : DataW H := .agg [.lit (.int .i64 f.k), .lit (.int .i64 f.W), .lit (.int .i64 f.m), .lit (.int .i64 f.b), .lit (.int .u64 f.t), .lit (.int .u64 f.n), .lit (.int .u64 f.x)]
set_option maxRecDepth 100000 in
theorem form_of_trod {H : Type} {enc : TypeId × Value → H} {w : World} {base : Nat} {sp : Nat → Bool} {held : Bool} {fuel : Nat} {cs : List Value} {f : M.Fm} {p : List MemPlace}
  (h : DataW.trod enc Tryz.prog w base sp held fuel 74 cs = some (fdata f, p)) :
  cs = [.int .i64 f.k, .int .i64 f.W, .int .i64 f.m, .int .i64 f.b, .int .u64 f.t, .int .u64 f.n, .int .u64 f.x] := by
 obtain ⟨xs, n, rfl, hx, hl, hxl, hall⟩ := DataW.trod_struct Tryz.underlying74 h
 have hxs : xs.map (·.1) = [.lit (.int .i64 f.k), .lit (.int .i64 f.W), .lit (.int .i64 f.m), .lit (.int .i64 f.b), .lit (.int .u64 f.t), .lit (.int .u64 f.n), (.lit (.int .u64 f.x) : DataW H)] := by
  have := congrArg Prod.fst hx
  simpa [fdata] using this.symm
 have hc7 : Tryz.prog.cellsOf 74 = 7 := by kernel_rfl
 rw [hc7] at hl
 have ci : Tryz.prog.cellsOf 3 = 1 := by kernel_rfl
 have cu : Tryz.prog.cellsOf 30 = 1 := by kernel_rfl
 have key : ∀ (i : Nat) (k : IntKind) (z : Int) (fd : Field) (b : DataW H × List MemPlace), DataW.trod enc Tryz.prog w base sp held n fd.type ((cs.drop fd.offset).take (Tryz.prog.cellsOf fd.type)) = xs[i]? → xs[i]? = some b → Tryz.prog.underlying fd.type = some (.int k) → fd.offset = i → Tryz.prog.cellsOf fd.type = 1 →
   b.1 = .lit (.int k z) → cs[i]? = some (.int k z) := by
  intro i k z fd b h1 hb hu ho hc hz
  rw [hb, ho, hc] at h1
  obtain ⟨z', hcz, rfl, _⟩ := DataW.trod_int hu h1
  simp only [DataW.lit.injEq, Lit.int.injEq, true_and] at hz
  subst hz
  have := congrArg (·[0]?) hcz
  simpa [List.getElem?_take, List.getElem?_drop] using this
 match xs, hxs with
 | [x0, x1, x2, x3, x4, x5, x6], hxs =>
  simp only [List.map_cons, List.map_nil, List.cons.injEq, and_true] at hxs
  obtain ⟨e0, e1, e2, e3, e4, e5, e6⟩ := hxs
  have g0 := key 0 .i64 f.k _ x0 (hall 0 _ rfl) rfl Tryz.underlying3 rfl ci e0
  have g1 := key 1 .i64 f.W _ x1 (hall 1 _ rfl) rfl Tryz.underlying3 rfl ci e1
  have g2 := key 2 .i64 f.m _ x2 (hall 2 _ rfl) rfl Tryz.underlying3 rfl ci e2
  have g3 := key 3 .i64 f.b _ x3 (hall 3 _ rfl) rfl Tryz.underlying3 rfl ci e3
  have g4 := key 4 .u64 f.t _ x4 (hall 4 _ rfl) rfl Tryz.underlying30 rfl cu e4
  have g5 := key 5 .u64 f.n _ x5 (hall 5 _ rfl) rfl Tryz.underlying30 rfl cu e5
  have g6 := key 6 .u64 f.x _ x6 (hall 6 _ rfl) rfl Tryz.underlying30 rfl cu e6
  match cs, hl with
  | [c0, c1, c2, c3, c4, c5, c6], _ =>
   simp only [List.getElem?_cons_zero, List.getElem?_cons_succ, Option.some.injEq] at g0 g1 g2 g3 g4 g5 g6
   rw [g0, g1, g2, g3, g4, g5, g6]
theorem table_is : (Rows.laid_caliper_forms_table : DataW Unit) = .agg ((List.range 15).map fun i => fdata (M.tb i)) := by kernel_rfl
theorem gF : Tryz.prog.globalNamed "caliper/forms.table" = some 0 := by kernel_rfl
theorem tF : (Tryz.prog.globals[0]?).map (·.type) = some 121 := by kernel_rfl
theorem of_tabF {W : World} (h : laidMet Tryz.prog [("caliper/forms.table", Rows.laid_caliper_forms_table)] W) : TabF W := by
 obtain ⟨ps, ⟨g', t', cs, fuel, p, q, hg', ht', hvar, hd, _, _⟩, _⟩ := h
 rw [table_is] at hd
 obtain rfl := Option.some.inj (gF.symm.trans hg')
 obtain rfl := Option.some.inj (tF.symm.trans ht')
 have hce : Tryz.prog.cellsOf 74 = 7 := by kernel_rfl
 have hct : Tryz.prog.cellsOf 121 = 105 := by kernel_rfl
 intro i hi
 have key : ∀ j, j < 7 → W.cell? ⟨0, i * 7 + j, none⟩ = ([.int .i64 (M.tb i).k, .int .i64 (M.tb i).W, .int .i64 (M.tb i).m, .int .i64 (M.tb i).b, .int .u64 (M.tb i).t, .int .u64 (M.tb i).n, .int .u64 (M.tb i).x] : List Value)[j]? := by
  intro j hj
  rw [World.var?_cell gF hvar]
  cases fuel with
  | zero => simp [DataW.trod] at hd
  | succ fuel =>
   simp only [DataW.trod, Tryz.underlying121, hce, hct] at hd
   split at hd
   ·obtain ⟨xs, hm, hx⟩ := Option.map_eq_some_iff.1 hd
    have hxs : xs.map (·.1) = (List.range 15).map fun i => (fdata (M.tb i) : DataW Unit) := by
     have := congrArg Prod.fst hx
     simpa using this
    obtain ⟨b, hb, hf⟩ := Lib.mapM_at hm i i (by simp [hi])
    have h2 : (xs.map (·.1))[i]? = some b.1 := by simp [hb]
    rw [hxs] at h2
    have h3 : fdata (M.tb i) = b.1 := by simpa [hi] using h2
    have h4 : b = (fdata (M.tb i), b.2) := by rw [h3]
    rw [h4] at hf
    have h5 := form_of_trod hf
    rw [← h5, List.getElem?_take_of_lt hj, List.getElem?_drop, Array.getElem?_toList]
   ·cases hd
 exact ⟨key 0 (by decide), key 1 (by decide), key 2 (by decide), key 3 (by decide), key 4 (by decide), key 5 (by decide), key 6 (by decide)⟩
theorem tab_is : (Rows.laid_math_bits_deBruijn64tab : DataW Unit) = Lib.tabData .u8 (Lib.deBruijn64tab.map fun (n : Nat) => (n : Int)) := by kernel_rfl
theorem gB : Tryz.prog.globalNamed "math/bits.deBruijn64tab" = some 3 := by kernel_rfl
theorem tB : (Tryz.prog.globals[3]?).map (·.type) = some 200 := by kernel_rfl
theorem of_laidV {W : World} (h : laidMetH Tryz.prog LstV W) : Hid (Tz W) ∧ Hid (TabF W) := by
 rw [MakeChecks.laidMetH_plain _ _ _ (by kernel_rfl)] at h
 refine ⟨?_, of_tabF h.tail⟩
 have h2 : laidMet Tryz.prog (("math/bits.deBruijn64tab", Lib.tabData .u8 (Lib.deBruijn64tab.map fun (n : Nat) => (n : Int))) :: [("caliper/forms.table", Rows.laid_caliper_forms_table)]) W := by rw [← tab_is]; exact h
 have hv : Lib.TabIs Tryz.prog W "math/bits.deBruijn64tab" .u8 (Lib.deBruijn64tab.map fun (n : Nat) => (n : Int)) := Lib.tabIs_of_head gB tB Tryz.underlying200 Tryz.underlying5 (by kernel_rfl) (by kernel_rfl) h2
 intro j hj
 rw [World.var?_cell gB hv]
 simp [List.getD_eq_getElem?_getD, hj]
theorem door_metV (os : Os) (args : Array Value) : laidMetH Tryz.prog LstV ((World.doorLaid Tryz.prog 600 os).forCall (fun _ _ => 0) ⟨#[], args, []⟩).memory :=
 laidMetH_of_parts3 (fuel := 8) (laidMet_of_run' 8 (by kernel_rfl) (by kernel_rfl)) (by kernel_rfl) (by kernel_rfl)
end Go.Proofs.YtijpffgocookaaaGreatDoor
