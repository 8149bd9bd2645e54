/-
  RoundRises is true for every input, where the named variables hold what the program's text lays in them: the row, and its tied card.
-/
import Derived.Test.YtlogglhonlannaaDoorLg
import Derived.Test.YtlogglhonlannaaDoorVlaid
import Derived.Test.YtlogglhonlannaaDoorFld
import Derived.Test.YtlogglhonlannaaDoorTie
import Derived.Test.YtlogglhonlannaaDoorCards
import Derived.SevenTiedAt
namespace Go.Proofs.YtlogglhonlannaaDoor.roundRises
open Go.ChangeShapes Go.WideShapes Go.ChangeAt Go.RowKit
open Go.ChangeMaps (open_string shut_string)
set_option linter.unusedVariables false

set_option maxRecDepth 100000 in
theorem lifted (os : Os) (started : os.Started) (H : Type) (enc : TypeId × Value → H) :
    ReturnsInHanded {} Tryd.checked os 4 .any (fun w args => (Rows.roundRisesSpec.pre enc Tryd.prog Tryd.f4 [] false w args ∧ laidMetH Tryd.prog LstV w) ∧ sizedMet enc Tryd.prog Tryd.f4 (OpenSpec.ofChange Rows.roundRisesSpec) false w args)
      (Rows.roundRisesSpec.post enc Tryd.prog Tryd.f4 false true false false) := by
  refine returnsInHanded_of_change_and (C := Tryd.checked) (X := fun w _ => laidMetH Tryd.prog LstV w) (fun _ _ _ hh h => h.of_heap hh) own_ started (by kernel_rfl) Tryd.func4
    (ChangeSpec.witness_shaped (enc := enc) (C := Tryd.checked) (os := os) (X := fun w _ => laidMetH Tryd.prog LstV w) false (World.doorLaid Tryd.prog 600 os) #[.int .i64 0, .bool false, .agg #[.bool false, .slice none 0 0, .int .i64 0, .int .i64 0], .agg #[.bool false, .slice none 0 0, .int .i64 0, .int .i64 0]] 8 rfl (World.shaped_of_RefB (by kernel_rfl) (by kernel_rfl)) (by kernel_rfl) (by kernel_rfl) (by kernel_rfl) (door_metV os _)) ?_
  intro W base args ds gs before hval0 hW _ _ hL _
  have hval : ∀ (j : Nat) t v, Tryd.f4.params[j]? = some t → args[j]? = some v → Value.okWide Tryd.prog W .any base t v := hval0
  have hW' := hW
  obtain ⟨p, q, hA0, hV, rfl, hfz, hnd⟩ := hW
  have hA : DataW.TrodAll enc Tryd.prog W 0 (fun _ => true) true Tryd.f4.params.toList args.toList ds p := hA0
  rw [Tryd.params4] at hA hval
  obtain ⟨hTW, hEW⟩ := of_laidV hL
  obtain ⟨v0, vs0, d0, ds0, p0, q0, hargs, rfl, rfl, h0, r0⟩ := trodAll_cons hA
  obtain ⟨v1, vs1, d1, ds1, p1, q1, rfl, rfl, rfl, h1, r1⟩ := trodAll_cons r0
  obtain ⟨v2, vs2, d2, ds2, p2, q2, rfl, rfl, rfl, h2, r2⟩ := trodAll_cons r1
  obtain ⟨v3, vs3, d3, ds3, p3, q3, rfl, rfl, rfl, h3, r3⟩ := trodAll_cons r2
  obtain ⟨rfl, rfl, rfl⟩ := trodAll_nil r3
  obtain rfl : args = #[v0, v1, v2, v3] := by cases args; simp_all
  obtain ⟨rfl, rfl⟩ := trodVars_none hV
  obtain ⟨x0, rfl, rfl, rfl, wx0⟩ := open_int Tryd.underlying3 (hval 0 3 v0 rfl rfl) h0
  have k1 := h1
  have lt1 : ∀ x ∈ p1, x.block < W.heap.size := by obtain ⟨m, hm⟩ := k1; exact DataW.trod_lt m _ _ _ hm
  obtain ⟨x1, rfl⟩ := okWide_bool Tryd.underlying4 (hval 1 4 v1 rfl rfl)
  have k2 := h2
  have lt2 : ∀ x ∈ p2, x.block < W.heap.size := by obtain ⟨m, hm⟩ := k2; exact DataW.trod_lt m _ _ _ hm
  obtain ⟨f20, f21, f22, f23, y20, y21, y22, y23, n2, rfl, rfl, rfl, t20, t21, t22, t23⟩ := Go.Joins.open_agg4 Tryd.underlying32 (by kernel_rfl) (by kernel_rfl) (hval 2 32 v2 rfl rfl) h2
  obtain ⟨ng2, rfl⟩ := field_bool Tryd.underlying4 t20
  obtain ⟨A2, ln2, cp2, xs2, rfl, sr2, mx2, pl2⟩ := field_words_at t21
  obtain ⟨tw2, rfl, wt2⟩ := field_int Tryd.underlying3 t22
  obtain ⟨fv2, rfl, wv2⟩ := field_int Tryd.underlying3 t23
  have k3 := h3
  have lt3 : ∀ x ∈ p3, x.block < W.heap.size := by obtain ⟨m, hm⟩ := k3; exact DataW.trod_lt m _ _ _ hm
  obtain ⟨f30, f31, f32, f33, y30, y31, y32, y33, n3, rfl, rfl, rfl, t30, t31, t32, t33⟩ := Go.Joins.open_agg4 Tryd.underlying32 (by kernel_rfl) (by kernel_rfl) (hval 3 32 v3 rfl rfl) h3
  obtain ⟨ng3, rfl⟩ := field_bool Tryd.underlying4 t30
  obtain ⟨A3, ln3, cp3, xs3, rfl, sr3, mx3, pl3⟩ := field_words_at t31
  obtain ⟨tw3, rfl, wt3⟩ := field_int Tryd.underlying3 t32
  obtain ⟨fv3, rfl, wv3⟩ := field_int Tryd.underlying3 t33
  have fz2 := fz_of hfz (A := A2) (n := ln2) (fun ad e i hi => by have := pl2 ad e i hi; simp [List.mem_append, this])
  have fz3 := fz_of hfz (A := A3) (n := ln3) (fun ad e i hi => by have := pl3 ad e i hi; simp [List.mem_append, this])
  clear hA0 hval0
  refine (rrises_walk W hTW hEW x0 wx0 x1 ng2 A2 ln2 cp2 xs2 sr2 fz2 mx2 tw2 wt2 fv2 wv2 ng3 A3 ln3 cp3 xs3 sr3 fz3 mx3 tw3 wt3 fv3 wv3).mono fun e W' ⟨he, bel⟩ => ?_
  subst he
  exact ⟨_, rfl, _, _, _, [], _, [], hW', trodAll_mk1 (shut_bool Tryd.underlying4 _), (trodAll_cons_mk (shut_int Tryd.underlying3 wx0) (trodAll_cons_mk (Below.trod laidOut_ (by kernel_rfl) (of_decide_eq_true (by kernel_rfl)) k1 bel lt1) (trodAll_cons_mk (Below.trod laidOut_ (by kernel_rfl) (of_decide_eq_true (by kernel_rfl)) k2 bel lt2) (trodAll_cons_mk (Below.trod laidOut_ (by kernel_rfl) (of_decide_eq_true (by kernel_rfl)) k3 bel lt3) trodAll_mk0)))), rfl, bel.frame _, fun h => by cases h⟩

theorem over : Rows.RoundRisesSaid :=
  OpenClaim.holds_of_wide 4 Tryd.f4 rfl rfl rfl rfl rfl rfl rfl ⟨rfl, rfl, rfl, rfl, rfl⟩ rfl rfl rfl rfl rfl (by kernel_rfl) Tryd.func4 (by kernel_rfl)
    (of_decide_eq_true (by kernel_rfl)) (by unfold Func.isWrapper; first | (rw [if_pos (by decide +kernel)]; kernel_rfl) | (rw [if_neg (by decide +kernel)]; exact ⟨rfl, rfl⟩))
    (fun os started H enc _ => lifted os started H enc)

/-- The tied card. -/
theorem card_holds : Rows.RoundRisesCardSaid :=
  Claim7.holds_tied_plain_at .later [] [.data, .data] true (true, "b9337a9e7e8c6ec8d8c7b23053e386353e8fd6d07b64c5465e21eb1d7222d030") true
    over (fun _ h => by cases h) (by kernel_rfl) (fun _ h => by cases h) roundRises_row_tie rfl ⟨rfl, rfl⟩ (by kernel_rfl) rfl
    (fun f fn hf hfn => by
      obtain rfl : f = 4 := Option.some.inj ((show Tryd.prog.funcNamed "caliper/caliperlaw08.RoundRises" = some 4 by kernel_rfl).symm.trans hf) |>.symm
      obtain rfl : fn = Tryd.f4 := (Option.some.inj (Tryd.func4.symm.trans hfn)).symm
      exact ⟨by kernel_rfl, fun j t ht => by
        rw [Tryd.params4] at ht
        have hm : t ∈ [3, 4, 32, 32] := by simpa using Array.mem_of_getElem? ht
        have hall : ([3, 4, 32, 32].all fun u => !Tryd.prog.wantsStandIn u) = true := by kernel_rfl
        exact (show Tryd.prog.wantsStandIn t = false by simpa using List.all_eq_true.1 hall t hm)⟩)
    (by kernel_rfl)
#print axioms card_holds
end Go.Proofs.YtlogglhonlannaaDoor.roundRises
