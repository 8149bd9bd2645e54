/-
  LayoutScanned is true for every input that is of no more than 1,048,576 values and letters together, where the named variables hold what the program's text lays in them: the row, and its tied card.
-/
import Derived.Test.YtkhnobogaiaogaaGreatDoorHy
import Derived.Test.YtkhnobogaiaogaaGreatDoorHx
import Derived.Test.YtkhnobogaiaogaaGreatDoorHlaid
import Derived.Test.YtkhnobogaiaogaaGreatDoorFld
import Derived.Test.YtkhnobogaiaogaaGreatDoorTie
import Derived.Test.YtkhnobogaiaogaaGreatDoorCards
import Derived.SevenTiedAt
import Derived.Deep.DeepHandedRow
namespace Go.Proofs.YtkhnobogaiaogaaGreatDoor.layoutScanned
open Go.ChangeShapes Go.WideShapes Go.ChangeAt Go.RowKit
open Go.ChangeMaps (open_string shut_string)
set_option linter.unusedVariables false

theorem one_le {H : Type} (d : DataW H) : 1 ≤ Rows.uptoBulk d := by
  cases d with
  | lit l => cases l <;> simp [Rows.uptoBulk]
  | nil => simp [Rows.uptoBulk]
  | ptr d => simp [Rows.uptoBulk]
  | slice elems spare => simp [Rows.uptoBulk]
  | agg parts => simp [Rows.uptoBulk]
  | iface t d => simp [Rows.uptoBulk]
  | map entries => simp [Rows.uptoBulk]
  | held h => simp [Rows.uptoBulk]
theorem length_le {H : Type} (l : List (DataW H)) : l.length ≤ Rows.uptoBulkAll l := by
  induction l with
  | nil => simp [Rows.uptoBulkAll]
  | cons x r ih => have := one_le x; simp only [Rows.uptoBulkAll, List.length_cons]; omega
/-- Words of which the bound says how many they are. -/
theorem words_le {H : Type} {enc : TypeId × Value → H} {w : World} {base : Nat} {held : Bool} {n : Nat} {v : Value} {y : DataW H × List MemPlace}
    (h : DataW.trod enc Tryz.prog w base (fun _ => true) held n 23 [v] = some y) (A : Option Addr) (len cap : Nat) (hv : v = .slice A len cap) : len ≤ Rows.uptoBulk y.1 := by
  rcases open_ints Tryz.underlying23 Tryz.underlying42 (by kernel_rfl) h with ⟨hcs, _⟩ | ⟨x, l, c, zs, hcs, _, hl, hm, hzl, hy, hcell, hwz⟩
  · simp only [List.cons.injEq, and_true] at hcs
    rw [hcs] at hv
    cases hv
    exact Nat.zero_le _
  · simp only [List.cons.injEq, and_true] at hcs
    rw [hcs] at hv
    cases hv
    have hz2 : zs.length = cap := by simpa using hzl
    have h1 := length_le (lits (H := H) .u64 (zs.take len))
    have h3 : (lits (H := H) .u64 (zs.take len)).length = len := by
      simp [lits]
      omega
    rw [hy]
    show len ≤ Rows.uptoBulk (.slice _ _)
    simp only [Rows.uptoBulk]
    omega
theorem witness_shaped {H : Type} {enc : TypeId × Value → H} {C : Checked} {os : Os} {f : FuncId} {fn : Func} {s : OpenSpec} {conds : List PathCond} {apart : Bool} {laid : List (String × DataW Unit)} (modest : Bool) (w0 : World) (args : Array Value) (hos : w0.os = os)
    (hsh : (w0.forCall (fun _ _ => 0) ⟨#[], args, []⟩).Shaped C.prog)
    (hok : Input.okWideB C.prog (w0.forCall (fun _ _ => 0) ⟨#[], args, []⟩) f ⟨#[], args, []⟩ = true)
    (hrow : s.preRow enc C.prog fn conds apart laid (w0.forCall (fun _ _ => 0) ⟨#[], args, []⟩).memory args) :
    ∃ (w : World) (tape : Tape) (i : Input), w.os = os ∧ (w.forCall tape i).Shaped C.prog ∧ i.vars = [] ∧ Input.okWide C.prog (w.forCall tape i) .any w.heap.size f i ∧
      s.preRow enc C.prog fn conds apart laid (w.forCall tape i).memory i.args ∧ ({ modest := modest } : Assume).holds C.prog (lone (Frame.enter C.prog f i.args .normal) [] (w.forCall tape i)) :=
  ⟨w0, fun _ _ => 0, ⟨#[], args, []⟩, hos, hsh, (Input.okWide_of_okWideB (base := 0) hok).1, (Input.okWide_of_okWideB hok).2, hrow, by
    simp only [Assume.holds]
    exact ⟨by simp, by simp, fun _ => Modest.zero, by simp, by simp⟩⟩
theorem reads (os : Os) {H : Type} (enc : TypeId × Value → H) : ∃ places, DataW.whole enc Tryz.prog ((World.laidAll Tryz.prog os LstS).forCall (fun _ _ => 0) ⟨#[], #[.agg #[.bool false, .slice none 0 0, .int .i64 0]], []⟩).memory Tryz.f5.params.toList Rows.layoutScannedSpec.vars false #[.agg #[.bool false, .slice none 0 0, .int .i64 0]].toList 8 = some ([.agg [.lit (.bool false), .nil, .lit (.int .i64 0)]], [], places) := ⟨[], by kernel_rfl⟩

set_option maxRecDepth 100000 in
theorem lifted (os : Os) (started : os.Started) (H : Type) (enc : TypeId × Value → H) (F : Stop.Interp) :
    ReturnsInHanded {} Tryz.checked os 5 .any ((Rows.OpenSpec.upto Rows.layoutScannedSpec).preRow enc Tryz.prog Tryz.f5 Rows.layoutScannedUptoRow.domain false Rows.layoutScannedUptoRow.laid) (((Rows.OpenSpec.upto Rows.layoutScannedSpec).at F).post enc Tryz.prog Tryz.f5 false true false false) := by
  obtain ⟨places, hx⟩ := reads os enc
  refine returnsInHanded_of_row (C := Tryz.checked) (s := Rows.OpenSpec.upto Rows.layoutScannedSpec) own_ started (by kernel_rfl) Tryz.func5
    (witness_shaped (enc := enc) (C := Tryz.checked) (os := os) false (World.laidAll Tryz.prog os LstS) #[.agg #[.bool false, .slice none 0 0, .int .i64 0]] (World.laidAll_os _ _ _) (World.shaped_of_ZipB (by kernel_rfl) (by kernel_rfl)) (by kernel_rfl) (OpenSpec.preRow_of_cond 8 hx (by kernel_rfl) (fun k hk => by cases hk; kernel_rfl) (by kernel_rfl) (met_all os _))) ?_
  intro W base args ds gs before hval0 hW0 _ hcond hsz hL _ _
  have hk : Rows.uptoBulkAll (ds ++ gs) ≤ 1048576 := of_decide_eq_true (hcond _ rfl)
  clear hcond
  have hW : DataW.Whole enc Tryz.prog Tryz.f5.params.toList Rows.layoutScannedSpec.vars false W args.toList ds gs before := hW0
  clear hW0
  show Calls Tryz.prog 5 args W fun e W' => ∃ v, e = .returned v ∧ Rows.layoutScannedSpec.post enc Tryz.prog Tryz.f5 false true false false W args v W'
  have hval : ∀ (j : Nat) t v, Tryz.f5.params[j]? = some t → args[j]? = some v → Value.okWide Tryz.prog W .any base t v := hval0
  have hW' := hW
  obtain ⟨p, q, hA0, hV, rfl, hfz, hnd⟩ := hW
  have hA : DataW.TrodAll enc Tryz.prog W 0 (fun _ => true) true Tryz.f5.params.toList args.toList ds p := hA0
  rw [Tryz.params5] at hA hval
  obtain ⟨hTW, hEW⟩ := of_laidT hL
  obtain ⟨v0, vs0, d0, ds0, p0, q0, hargs, rfl, rfl, h0, r0⟩ := trodAll_cons hA
  obtain ⟨rfl, rfl, rfl⟩ := trodAll_nil r0
  obtain rfl : args = #[v0] := by cases args; simp_all
  obtain ⟨rfl, rfl⟩ := trodVars_none hV
  have k0 := h0
  have lt0 : ∀ x ∈ p0, x.block < W.heap.size := by obtain ⟨m, hm⟩ := k0; exact DataW.trod_lt m _ _ _ hm
  obtain ⟨f00, f01, f02, y00, y01, y02, n0, rfl, rfl, rfl, t00, t01, t02⟩ := Go.Joins.open_agg3 Tryz.underlying25 (by kernel_rfl) (by kernel_rfl) (hval 0 25 v0 rfl rfl) h0
  obtain ⟨ng0, rfl⟩ := field_bool Tryz.underlying4 t00
  obtain ⟨A0, ln0, cp0, xs0, rfl, sr0, mx0, pl0⟩ := field_words_at t01
  obtain ⟨kk0, rfl, wk0⟩ := field_int Tryz.underlying3 t02
  have fz0 := fz_of hfz (A := A0) (n := ln0) (fun ad e i hi => by have := pl0 ad e i hi; simp [List.mem_append, this])
  have sz0 := field_words_sz t01 _ _ _ rfl (digits_sz hsz (j := 0) (by rw [Tryz.params5]; rfl) rfl)
  have bk0 : ln0 ≤ 1048576 := by
    have h1 := words_le t01 _ _ _ rfl
    simp only [List.append_nil, Rows.uptoBulkAll, Rows.uptoBulk] at hk
    omega
  clear hA0 hval0
  refine (lscan_walk W hTW hEW lay_face ng0 A0 ln0 cp0 xs0 (dr_src sr0 fz0 mx0 sz0) (wd_src sr0 fz0 (Nat.le_trans bk0 (by decide))) bk0 kk0 (wf_int wk0)).mono fun e W' ⟨he, bel⟩ => ?_
  subst he
  exact ⟨_, rfl, _, _, _, [], _, [], hW', trodAll_mk1 (shut_bool Tryz.underlying4 _), (trodAll_cons_mk (Below.trod laidOut_ (by kernel_rfl) (of_decide_eq_true (by kernel_rfl)) k0 bel lt0) trodAll_mk0), rfl, bel.frame _, fun h => by cases h⟩

theorem over : Rows.LayoutScannedUptoSaid :=
  OpenClaim.holds_of_cond 5 Tryz.f5 rfl rfl rfl rfl rfl rfl rfl ⟨rfl, rfl, rfl, rfl, rfl⟩ rfl rfl rfl rfl rfl (by kernel_rfl) Tryz.func5 (by kernel_rfl)
    (of_decide_eq_true (by kernel_rfl)) (by unfold Func.isWrapper; first | (rw [if_pos (by decide +kernel)]; kernel_rfl) | (rw [if_neg (by decide +kernel)]; exact ⟨rfl, rfl⟩))
    (fun os started H enc _ F => by rw [OpenClaim.pre_eq_preRow]; exact lifted os started H enc F)

/-- The tied card. -/
theorem card_holds : Rows.LayoutScannedUptoCardSaid :=
  Claim7.holds_tied_plain_at .later [] [.data, .data, .data, .data, .sentinel, .sentinel, .pinned] true (true, "5f72815c0f23d1c903cb39d53ca7ea64ec827e8a8de034d87ebe9263eda24ed4") true
    over (fun _ h => by cases h) (by kernel_rfl) (fun _ h => by cases h) layoutScannedUpto_row_tie rfl ⟨rfl, rfl⟩ (by kernel_rfl) rfl
    (fun f fn hf hfn => by
      obtain rfl : f = 5 := Option.some.inj ((show Tryz.prog.funcNamed "caliper/caliperlaw12.LayoutScanned" = some 5 by kernel_rfl).symm.trans hf) |>.symm
      obtain rfl : fn = Tryz.f5 := (Option.some.inj (Tryz.func5.symm.trans hfn)).symm
      exact ⟨by kernel_rfl, fun j t ht => by
        rw [Tryz.params5] at ht
        have hm : t ∈ [25] := by simpa using Array.mem_of_getElem? ht
        have hall : ([25].all fun u => !Tryz.prog.wantsStandIn u) = true := by kernel_rfl
        exact (show Tryz.prog.wantsStandIn t = false by simpa using List.all_eq_true.1 hall t hm)⟩)
    (by kernel_rfl)
#print axioms card_holds
end Go.Proofs.YtkhnobogaiaogaaGreatDoor.layoutScanned
