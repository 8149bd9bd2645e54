/-
  What each law of layer 12 shows first.
-/
import Derived.Test.YtkhnobogaiaogaaGreatDoorHd
namespace Go.Proofs.YtkhnobogaiaogaaGreatDoor
open Go.RowKit Go.Shelf
set_option linter.unusedVariables false
set_option linter.unusedSimpArgs false

namespace M
/-- What is read of a text that was written. -/
theorem ly_read {l : List UInt8} {y : Sc} {ng : Bool} {a : Nat} {k : Int} (h : Lok a k) (e : ly ng a k = l) (hs : scan l = .ok y) (S : List UInt8) (hS : tz (lz y.ds) = S) (h0 : S ≠ []) :
    ng = y.neg ∧ a = vsa 0 S ∧ k = pwr y - y.bh + (lz y.ds).length - S.length := by
  obtain ⟨x, x1, x2, x3⟩ := ly_scan h ng
  rw [e, hs] at x1
  obtain rfl : y = x := Except.ok.inj x1
  refine ⟨x2.symm, ?_⟩
  rcases cl_dgs h with ⟨p1, p2, p3⟩ | ⟨p1, p2⟩
  · rw [p1] at x3
    exact absurd (hS.symm.trans x3.tl0) h0
  · obtain ⟨u1, u2⟩ := x3.tl p1
    rw [hS] at u1
    rw [u1, vsa_dgs]
    exact ⟨rfl, by omega⟩
theorem ly_none {l : List UInt8} {ng : Bool} {a : Nat} {k : Int} {i : Nat} (h : Lok a k) (hs : scan l = .error i) : ly ng a k ≠ l := by
  intro e
  obtain ⟨x, x1, _⟩ := ly_scan h ng
  rw [e, hs] at x1
  cases x1
theorem of12_0 : lyn false 125 (-2) = [49, 46, 50, 53] := by simp [lyn, rtn, ly, lyb, lfar, sgt, ntx, Lib.decDigits, List.replicate]
theorem of12_1 : lyn false 1 (20) = [49, 48, 48, 48, 48, 48, 48, 48, 48, 48, 48, 48, 48, 48, 48, 48, 48, 48, 48, 48, 48] := by simp [lyn, rtn, ly, lyb, lfar, sgt, ntx, Lib.decDigits, List.replicate]
theorem of12_2 : lyn false 1 (21) = [49, 101, 50, 49] := by simp [lyn, rtn, ly, lyb, lfar, sgt, ntx, Lib.decDigits, List.replicate]
theorem of12_3 : lyn true 1 (-6) = [45, 48, 46, 48, 48, 48, 48, 48, 49] := by simp [lyn, rtn, ly, lyb, lfar, sgt, ntx, Lib.decDigits, List.replicate]
theorem of12_4 : lyn false 1 (-7) = [49, 101, 45, 55] := by simp [lyn, rtn, ly, lyb, lfar, sgt, ntx, Lib.decDigits, List.replicate]
theorem of12_5 : lyn false 12 (-8) = [49, 46, 50, 101, 45, 55] := by simp [lyn, rtn, ly, lyb, lfar, sgt, ntx, Lib.decDigits, List.replicate]
theorem of12_6 : lyn true 0 (0) = [45, 48] := by simp [lyn, rtn, ly, lyb, lfar, sgt, ntx, Lib.decDigits, List.replicate]
theorem of12_7 : lyn false 10 (0) = [] := by simp [lyn, rtn, ly, lyb, lfar, sgt, ntx, Lib.decDigits, List.replicate]
theorem of12_8 : lyn false 12345 (30) = [49, 46, 50, 51, 52, 53, 101, 51, 52] := by simp [lyn, rtn, ly, lyb, lfar, sgt, ntx, Lib.decDigits, List.replicate]
theorem un12_0 : ∀ ng a k, rtn a k → ly ng a k ≠ [49, 46, 48] := by
  intro ng a k h e
  obtain ⟨e1, e2, e3⟩ := ly_read h.lok e (y := ⟨5, false, [49, 48], 1, false, []⟩) rfl [49] rfl (by simp)
  have e2' : a = 1 := e2
  have e3' : k = 0 := e3
  subst e2' e3' e1
  have : ly false 1 0 = [49] := by simp [ly, lyb, lfar, sgt, Lib.decDigits]
  rw [show (Sc.neg ⟨5, false, [49, 48], 1, false, []⟩) = false from rfl, this] at e
  cases e
theorem un12_1 : ∀ ng a k, rtn a k → ly ng a k ≠ [49, 101, 50, 49, 120] := fun ng a k h => ly_none (i := 4) h.lok rfl
theorem un12_2 : rtn 1 (-7) ∧ ly true 1 (-7) = [45, 49, 101, 45, 55] := by
  constructor
  · simp [rtn, Lib.decDigits]
  · simp [ly, lyb, lfar, sgt, ntx, Lib.decDigits]
end M
def True12 (w : World) (e : Ending) (w' : World) : Prop := e = .returned (.bool true) ∧ Up w w'
set_option maxHeartbeats 8000000 in
set_option maxRecDepth 100000 in
theorem shown12_any (F : Lay) (w : World) (TW : TabW w) (EW : ErrB w) : Calls Tryz.prog 9 #[] w (True12 w) := by
  have U0 := Lib.hid (fun (W : World) (T : TabW W) (E : ErrB W) => F.unlay W ⟨#[49, 46, 48]⟩ [49, 46, 48] T E (Lib.hid (Tx.lit _)) (by decide))
  have U1 := Lib.hid (fun (W : World) (T : TabW W) (E : ErrB W) => F.unlay W ⟨#[49, 101, 50, 49, 120]⟩ [49, 101, 50, 49, 120] T E (Lib.hid (Tx.lit _)) (by decide))
  have U2 := Lib.hid (fun (W : World) (T : TabW W) (E : ErrB W) => F.unlay W ⟨#[45, 49, 101, 45, 55]⟩ [45, 49, 101, 45, 55] T E (Lib.hid (Tx.lit _)) (by decide))
  have C0 := Lib.hid (fun (W : World) (T : TabW W) (E : ErrB W) => of12_any F W T E false 125 125 (-2) rfl (by decide) (by decide) [49, 46, 50, 53] M.of12_0)
  have C1 := Lib.hid (fun (W : World) (T : TabW W) (E : ErrB W) => of12_any F W T E false 1 1 (20) rfl (by decide) (by decide) [49, 48, 48, 48, 48, 48, 48, 48, 48, 48, 48, 48, 48, 48, 48, 48, 48, 48, 48, 48, 48] M.of12_1)
  have C2 := Lib.hid (fun (W : World) (T : TabW W) (E : ErrB W) => of12_any F W T E false 1 1 (21) rfl (by decide) (by decide) [49, 101, 50, 49] M.of12_2)
  have C3 := Lib.hid (fun (W : World) (T : TabW W) (E : ErrB W) => of12_any F W T E true 1 1 (-6) rfl (by decide) (by decide) [45, 48, 46, 48, 48, 48, 48, 48, 49] M.of12_3)
  have C4 := Lib.hid (fun (W : World) (T : TabW W) (E : ErrB W) => of12_any F W T E false 1 1 (-7) rfl (by decide) (by decide) [49, 101, 45, 55] M.of12_4)
  have C5 := Lib.hid (fun (W : World) (T : TabW W) (E : ErrB W) => of12_any F W T E false 12 12 (-8) rfl (by decide) (by decide) [49, 46, 50, 101, 45, 55] M.of12_5)
  have C6 := Lib.hid (fun (W : World) (T : TabW W) (E : ErrB W) => of12_any F W T E true 0 0 (0) rfl (by decide) (by decide) [45, 48] M.of12_6)
  have C7 := Lib.hid (fun (W : World) (T : TabW W) (E : ErrB W) => of12_any F W T E false 10 10 (0) rfl (by decide) (by decide) [] M.of12_7)
  have C8 := Lib.hid (fun (W : World) (T : TabW W) (E : ErrB W) => of12_any F W T E false 12345 12345 (30) rfl (by decide) (by decide) [49, 46, 50, 51, 52, 53, 101, 51, 52] M.of12_8)
  have U := Up.refl w
  replace TW := Lib.hid TW
  replace EW := Lib.hid EW
  clear F
  go_enter Tryz.func9, Tryz.ntmps9
  go_wp2_with fail
  refine (U0.out _ (TW.out.up U) (EW.out.up U)).mono ?_
  rintro _ w0 ⟨ng0, A0, n0, c0, a0, k0, r0, rfl, R0, N0, h0⟩
  replace U := U.trans h0
  clear h0 U0
  obtain ⟨rfl, rfl, rfl, rfl⟩ := R0.none M.un12_0
  clear N0 R0
  go_upto_region 2 with fail
  replace U := U.alloc (.cells #[.bool false, .slice A0 n0 c0, .int .i64 0] 25)
  obtain ⟨V0, hV0⟩ : ∃ V0, w0.alloc (.cells #[.bool false, .slice A0 n0 c0, .int .i64 0] 25) = V0 := ⟨_, rfl⟩
  rw [hV0] at U ⊢
  clear hV0
  go_wp2_with fail
  refine (U1.out _ (TW.out.up U) (EW.out.up U)).mono ?_
  rintro _ w1 ⟨ng1, A1, n1, c1, a1, k1, r1, rfl, R1, N1, h1⟩
  replace U := U.trans h1
  clear h1 U1
  obtain ⟨rfl, rfl, rfl, rfl⟩ := R1.none M.un12_1
  clear N1 R1
  go_upto_region 3 with fail
  replace U := U.alloc (.cells #[.bool false, .slice A1 n1 c1, .int .i64 0] 25)
  obtain ⟨V1, hV1⟩ : ∃ V1, w1.alloc (.cells #[.bool false, .slice A1 n1 c1, .int .i64 0] 25) = V1 := ⟨_, rfl⟩
  rw [hV1] at U ⊢
  clear hV1
  go_wp2_with fail
  refine (U2.out _ (TW.out.up U) (EW.out.up U)).mono ?_
  rintro _ w2 ⟨ng2, A2, n2, c2, a2, k2, r2, rfl, R2, N2, h2⟩
  replace U := U.trans h2
  clear h2 U2
  obtain ⟨rfl, rfl, rfl, rfl⟩ := R2.of M.un12_2.1 M.un12_2.2
  clear R2
  go_upto_region 4 with fail
  have B := Ob.mk_ w2 25 #[.bool true, .slice A2 n2 c2, .int .i64 (-7)]
  have uV : Up w2 (w2.alloc (.cells #[.bool true, .slice A2 n2 c2, .int .i64 (-7)] 25)) := (Up.refl _).alloc _
  obtain ⟨V2, hV2⟩ : ∃ V2, w2.alloc (.cells #[.bool true, .slice A2 n2 c2, .int .i64 (-7)] 25) = V2 := ⟨_, rfl⟩
  rw [hV2] at uV B ⊢
  clear hV2
  replace U := U.trans uV
  replace N2 := N2.up uV
  clear uV
  go_wp2_with fail
  refine (C0.out _ (TW.out.up U) (EW.out.up U)).mono ?_
  rintro _ z0 ⟨rfl, h0⟩
  replace U := U.trans h0
  replace B := B.up h0
  replace N2 := N2.up h0
  clear h0 C0
  go_wp2_with fail
  refine (C1.out _ (TW.out.up U) (EW.out.up U)).mono ?_
  rintro _ z1 ⟨rfl, h1⟩
  replace U := U.trans h1
  replace B := B.up h1
  replace N2 := N2.up h1
  clear h1 C1
  go_wp2_with fail
  refine (C2.out _ (TW.out.up U) (EW.out.up U)).mono ?_
  rintro _ z2 ⟨rfl, h2⟩
  replace U := U.trans h2
  replace B := B.up h2
  replace N2 := N2.up h2
  clear h2 C2
  go_wp2_with fail
  refine (C3.out _ (TW.out.up U) (EW.out.up U)).mono ?_
  rintro _ z3 ⟨rfl, h3⟩
  replace U := U.trans h3
  replace B := B.up h3
  replace N2 := N2.up h3
  clear h3 C3
  go_wp2_with fail
  refine (C4.out _ (TW.out.up U) (EW.out.up U)).mono ?_
  rintro _ z4 ⟨rfl, h4⟩
  replace U := U.trans h4
  replace B := B.up h4
  replace N2 := N2.up h4
  clear h4 C4
  go_wp2_with fail
  refine (C5.out _ (TW.out.up U) (EW.out.up U)).mono ?_
  rintro _ z5 ⟨rfl, h5⟩
  replace U := U.trans h5
  replace B := B.up h5
  replace N2 := N2.up h5
  clear h5 C5
  go_wp2_with fail
  refine (C6.out _ (TW.out.up U) (EW.out.up U)).mono ?_
  rintro _ z6 ⟨rfl, h6⟩
  replace U := U.trans h6
  replace B := B.up h6
  replace N2 := N2.up h6
  clear h6 C6
  go_wp2_with fail
  refine (C7.out _ (TW.out.up U) (EW.out.up U)).mono ?_
  rintro _ z7 ⟨rfl, h7⟩
  replace U := U.trans h7
  replace B := B.up h7
  replace N2 := N2.up h7
  clear h7 C7
  go_wp2_with fail
  refine (C8.out _ (TW.out.up U) (EW.out.up U)).mono ?_
  rintro _ z8 ⟨rfl, h8⟩
  replace U := U.trans h8
  replace B := B.up h8
  replace N2 := N2.up h8
  clear h8 C8
  have b0 := B.get 0
  have b1 := B.get 1
  have b2 := B.get 2
  simp only [List.getElem?_toArray, List.getElem?_cons_zero, List.getElem?_cons_succ] at b0 b1 b2
  have CT := Lib.hid (text_of _ _ _ _ _ N2.nw (by omega) (TW.out.up U) ⟨#[49]⟩ (by simp [Lib.decDigits]))
  clear N2
  go_wp2_with fail
  refine CT.out.mono ?_
  rintro _ z ⟨rfl, h⟩
  go_wp2_with fail
  go_ret
  exact ⟨rfl, U.trans h⟩
end Go.Proofs.YtkhnobogaiaogaaGreatDoor
