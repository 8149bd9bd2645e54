/-
  Package layout: the text of digits that may be written: sizeText's and Layout's contracts.
-/
import Derived.Test.YtkhnobogaiaogaaGreatDoorHr
import Derived.Deep.RegionHeld3
namespace Go.Proofs.YtkhnobogaiaogaaGreatDoor
open Go.RowKit Go.Shelf
set_option linter.unusedVariables false
set_option linter.unusedSimpArgs false

/-- The text of a size. -/
def M.lyu (a : Nat) (k : Int) : List UInt8 := if a = 0 then [48] else M.lyb (Lib.decDigits a) k
theorem M.ly_lyu (ng : Bool) (a : Nat) (k : Int) : M.ly ng a k = M.sgt ng ++ M.lyu a k := rfl
theorem M.dd_zero : Lib.decDigits 0 = [48] := by simp [Lib.decDigits]
/-- The four ways of writing. -/
theorem M.lyu_a {a : Nat} {k : Int} (h : M.rtn a k) (h1 : 0 ≤ k) (h2 : ((Lib.decDigits a).length : Int) + k ≤ 21) : M.lyu a k = Lib.decDigits a ++ List.replicate k.toNat 48 := by
  unfold M.lyu
  rcases h with ⟨e1, e2⟩ | ⟨e1, _⟩
  · rw [if_pos e1, e1, e2, M.dd_zero]; rfl
  · rw [if_neg e1]
    unfold M.lyb
    have hp := M.decDigits_pos a
    rw [if_neg (by unfold M.lfar; omega), if_neg (by omega), if_pos h1]
theorem M.lyu_b {a : Nat} {k : Int} (h : M.rtn a k) (h1 : k < 0) (q : Nat) (hq : ((Lib.decDigits a).length : Int) + k = q) (h2 : 1 ≤ q) (h3 : q ≤ 21) : M.lyu a k = (Lib.decDigits a).take q ++ ([46] ++ (Lib.decDigits a).drop q) := by
  unfold M.lyu
  rcases h with ⟨e1, e2⟩ | ⟨e1, _⟩
  · omega
  · rw [if_neg e1]
    unfold M.lyb
    rw [if_neg (by unfold M.lfar; omega), if_neg (by omega), if_neg (by omega), hq, Int.toNat_natCast]
    rfl
theorem M.lyu_c {a : Nat} {k : Int} (h : M.rtn a k) (m : Nat) (hm : ((Lib.decDigits a).length : Int) + k = -(m : Int)) (h3 : m ≤ 5) : M.lyu a k = [48, 46] ++ (List.replicate m 48 ++ Lib.decDigits a) := by
  have hp := M.decDigits_pos a
  unfold M.lyu
  rcases h with ⟨e1, e2⟩ | ⟨e1, _⟩
  · omega
  · rw [if_neg e1]
    unfold M.lyb
    rw [if_neg (by unfold M.lfar; omega), if_pos (by omega), hm, Int.neg_neg, Int.toNat_natCast]
    rfl
theorem M.lyu_d {a : Nat} {k : Int} (h : M.rtn a k) (h1 : M.lfar (((Lib.decDigits a).length : Int) + k)) : M.lyu a k = (Lib.decDigits a).take 1 ++ ((if 1 < (Lib.decDigits a).length then 46 :: (Lib.decDigits a).drop 1 else []) ++ (101 :: M.ntx (((Lib.decDigits a).length : Int) + k - 1))) := by
  unfold M.lyu
  rcases h with ⟨e1, e2⟩ | ⟨e1, _⟩
  · rw [e1, e2, M.dd_zero] at h1
    exfalso
    unfold M.lfar at h1
    simp at h1
  · rw [if_neg e1]
    unfold M.lyb
    rw [if_pos h1]
theorem M.lyb_len (S : List UInt8) (k : Int) (hl : S.length ≤ 2000) (hk : -5000 ≤ k ∧ k ≤ 5000) : (M.lyb S k).length ≤ 12000 := by
  have hz := M.ntx_len (S.length + k - 1) (by omega)
  unfold M.lyb
  split
  · rw [List.length_append, List.length_append, List.length_take, List.length_cons]
    split
    · rw [List.length_cons, List.length_drop]; omega
    · rw [List.length_nil]; omega
  · split
    · rw [List.length_cons, List.length_cons, List.length_append, List.length_replicate]; omega
    · split
      · rw [List.length_append, List.length_replicate]; omega
      · rw [List.length_append, List.length_cons, List.length_take, List.length_drop]; omega
theorem M.rtn.bds {a : Nat} {k : Int} (h : M.rtn a k) : (-5000 ≤ k ∧ k ≤ 5000) ∧ (Lib.decDigits a).length ≤ 2000 := by
  rcases h with ⟨e1, e2⟩ | ⟨_, e2, e3, _⟩
  · subst e1 e2
    rw [M.dd_zero]
    simp
  · exact ⟨e2, e3⟩

set_option maxHeartbeats 2000000 in
set_option maxRecDepth 100000 in
theorem lsize_any (w : World) (TW : TabW w) (ng : Bool) (A : Option Addr) (n c : Nat) (k : Int) (a : Nat) (N : Nw w 0 128 (.slice A n c) a) (h : M.rtn a k) :
    Calls Tryz.prog 26 #[dv ng (.slice A n c) k] w (Tex (M.lyu a k) w) := by
  obtain ⟨⟨k1, k2⟩, hl⟩ := h.bds
  have hpos := M.decDigits_pos a
  obtain ⟨S, HS0⟩ := tx_ex (Lib.decDigits a)
  have hsz := HS0.size
  have U0 := (Up.refl w).alloc (.cells #[.bool ng, .slice A n c, .int .i64 k] 25)
  have CT : Hid (∀ W, Up w W → Calls Tryz.prog 16 #[.slice A n c] W (Str S W)) := fun W u => text_of W 0 128 _ a (N.up u) (by omega) (TW.up u) S (Tx.uniq (Tx.lit _) HS0)
  have HS := Lib.hid HS0
  have sl : S.size ≤ 2000 := by omega
  have sp : 0 < S.size := by omega
  have TWh := Lib.hid TW
  obtain ⟨T, hT⟩ : ∃ T, Lib.decDigits a = T := ⟨_, rfl⟩
  by_cases hA : 0 ≤ k ∧ (S.size : Int) + k ≤ 21
  · obtain ⟨hA1, hA2⟩ := hA
    have HF := Lib.hid (M.lyu_a h hA1 (by omega))
    obtain ⟨p, hp⟩ : ∃ p : Int, (S.size : Int) + k = p := ⟨_, rfl⟩
    obtain ⟨m, hm⟩ : ∃ m : Nat, k = m := ⟨k.toNat, by omega⟩
    have CN : Hid (∀ W, Calls Tryz.prog 43 #[.int .i64 k] W (Tex (List.replicate k.toNat 48) W)) := fun W => by
      have := noughts_any W m (by omega)
      rw [hm, Int.toNat_natCast]
      exact this
    have CJ : Hid (∀ W b (Z : ByteArray), Tx Z (List.replicate k.toNat 48) → Ob W b 9 #[.string S, .string Z] → Calls Tryz.prog 25 #[.slice (some ⟨b, 0, none⟩) 2 2] W (Tex (M.lyu a k) W)) := fun W b Z tZ ob => by
      rw [HF.out]
      exact join2 W b _ _ _ _ _ ob HS.out tZ (by rw [List.length_replicate]; omega)
    have d1 : decide (k ≥ 0) = true := decide_eq_true hA1
    have d2 : decide (p ≤ 21) = true := decide_eq_true (by omega)
    have bd : -5000 ≤ p ∧ p ≤ 7000 := by omega
    obtain ⟨bd1, bd2⟩ := bd
    clear HF hm hl hpos hsz HS0 h N TW hT hA1 hA2
    generalize M.lyu a k = L at *
    go_enter Tryz.func26, Tryz.ntmps26
    go_wp2_with fail
    refine (CT.out _ U0).mono ?_
    rintro _ w1 ⟨rfl, u1⟩
    have B := (Ob.mk_ w 25 #[.bool ng, .slice A n c, .int .i64 k]).up u1
    have b2 := B.get 2
    simp only [List.getElem?_toArray, List.getElem?_cons_zero, List.getElem?_cons_succ] at b2
    have U1 := U0.trans u1
    clear CT
    go_wp2_with fail
    refine (CN.out _).mono ?_
    rintro _ w2 ⟨Z, rfl, tZ, u2⟩
    have HZ := Lib.hid tZ
    have U2 := U1.trans u2
    clear tZ u2
    go_wp2_with fail
    refine (CJ.out _ _ Z HZ.out (by first | exact Ob.mk_ w2 _ _ | exact Ob.mk_ w2.drew _ _)).mono ?_
    rintro _ w3 ⟨R, rfl, tR, u3⟩
    have U3 : Up w w3 := U2.trans (Up.trans (by repeat (first | exact Up.refl _ | refine Up.drew ?_ | refine Up.drewN ?_ _ | refine Up.alloc ?_ _)) u3)
    go_wp2_with fail
    go_ret
    exact ⟨R, rfl, tR, by first | exact U3 | exact U3.drew⟩
  · obtain ⟨p, hp⟩ : ∃ p : Int, (S.size : Int) + k = p := ⟨_, rfl⟩
    have bd : -5000 ≤ p ∧ p ≤ 7000 := by omega
    obtain ⟨bd1, bd2⟩ := bd
    -- the point within
    by_cases hB : k < 0 ∧ 1 ≤ p ∧ p ≤ 21
    · obtain ⟨hB1, hB2, hB3⟩ := hB
      obtain ⟨q, rfl⟩ : ∃ q : Nat, p = q := ⟨p.toNat, by omega⟩
      have HF := Lib.hid (M.lyu_b h hB1 q (by omega) (by omega) (by omega))
      obtain ⟨X, hX⟩ : ∃ X, S.extract 0 q = X := ⟨_, rfl⟩
      obtain ⟨Y, hY⟩ : ∃ Y, S.extract q S.size = Y := ⟨_, rfl⟩
      have tX : Hid (Tx X ((Lib.decDigits a).take q)) := by
        have := HS0.ext 0 q
        rw [hX] at this
        exact this
      have tY : Hid (Tx Y ((Lib.decDigits a).drop q)) := by
        have := HS0.ext q S.size
        rw [hY, hsz, List.take_of_length_le (by rw [List.length_drop]; omega)] at this
        exact this
      have CJ : Hid (∀ W b, Ob W b 9 #[.string X, .string ⟨#[46]⟩, .string Y] → Calls Tryz.prog 25 #[.slice (some ⟨b, 0, none⟩) 3 3] W (Tex (M.lyu a k) W)) := fun W b ob => by
        rw [HF.out]
        exact join3 W b _ _ _ _ _ _ _ ob tX.out (Tx.lit [46]) tY.out (by rw [List.length_take, List.length_drop, List.length_singleton]; omega)
      have d1 : decide (k ≥ 0) = false := decide_eq_false (by omega)
      have d3 : decide ((q : Int) ≥ 1) = true := decide_eq_true (by omega)
      have d2 : decide ((q : Int) ≤ 21) = true := decide_eq_true (by omega)
      have c1 : (0 : Int) ≤ (q : Int) := by omega
      have c2 : (q : Int) ≤ (S.size : Int) := by omega
      clear HF tX tY hl hpos hsz HS0 h N TW hT hA
      generalize M.lyu a k = L at *
      go_enter Tryz.func26, Tryz.ntmps26
      go_wp2_with fail
      refine (CT.out _ U0).mono ?_
      rintro _ w1 ⟨rfl, u1⟩
      have B := (Ob.mk_ w 25 #[.bool ng, .slice A n c, .int .i64 k]).up u1
      have b2 := B.get 2
      simp only [List.getElem?_toArray, List.getElem?_cons_zero, List.getElem?_cons_succ] at b2
      have U1 := U0.trans u1
      clear CT
      go_wp2_with fail
      go_region_with (first
        | (go_at_call 25; refine (CJ.out _ _ (by first | exact Ob.mk_ w1 _ _ | exact Ob.mk_ w1.drew _ _)).mono ?_; rintro _ w3 ⟨R, rfl, tR, u3⟩; have U3 : Up w w3 := U1.trans (Up.trans (by repeat (first | exact Up.refl _ | refine Up.drew ?_ | refine Up.drewN ?_ _ | refine Up.alloc ?_ _)) u3)))
      all_goals
        go_wp2_with fail
        go_ret
        exact ⟨R, rfl, tR, by first | exact U3 | exact U3.drew⟩
    · by_cases hC : -5 ≤ p ∧ p ≤ 0
      · obtain ⟨hC1, hC2⟩ := hC
        obtain ⟨m, hm⟩ : ∃ m : Nat, -p = m := ⟨(-p).toNat, by omega⟩
        have HF := Lib.hid (M.lyu_c h m (by omega) (by omega))
        have CN : Hid (∀ W, Calls Tryz.prog 43 #[.int .i64 (m : Int)] W (Tex (List.replicate m 48) W)) := fun W => noughts_any W m (by omega)
        have CJ : Hid (∀ W b (Z : ByteArray), Tx Z (List.replicate m 48) → Ob W b 9 #[.string ⟨#[48, 46]⟩, .string Z, .string S] → Calls Tryz.prog 25 #[.slice (some ⟨b, 0, none⟩) 3 3] W (Tex (M.lyu a k) W)) := fun W b Z tZ ob => by
          rw [HF.out]
          exact join3 W b _ _ _ _ _ _ _ ob (Tx.lit [48, 46]) tZ HS.out (by rw [List.length_replicate]; show 2 + m + _ ≤ _; omega)
        have d1 : decide (k ≥ 0) = false := decide_eq_false (by omega)
        have d3 : decide (p ≥ 1) = false := decide_eq_false (by omega)
        have d4 : decide (p ≥ -5) = true := decide_eq_true (by omega)
        have d5 : decide (p ≤ 0) = true := decide_eq_true (by omega)
        clear HF hB hl hpos hsz HS0 h N TW hT hA
        generalize M.lyu a k = L at *
        go_enter Tryz.func26, Tryz.ntmps26
        go_wp2_with fail
        refine (CT.out _ U0).mono ?_
        rintro _ w1 ⟨rfl, u1⟩
        have B := (Ob.mk_ w 25 #[.bool ng, .slice A n c, .int .i64 k]).up u1
        have b2 := B.get 2
        simp only [List.getElem?_toArray, List.getElem?_cons_zero, List.getElem?_cons_succ] at b2
        have U1 := U0.trans u1
        clear CT
        go_wp2_with fail
        refine (CN.out _).mono ?_
        rintro _ w2 ⟨Z, rfl, tZ, u2⟩
        have HZ := Lib.hid tZ
        have U2 := U1.trans u2
        clear tZ u2
        go_wp2_with fail
        refine (CJ.out _ _ Z HZ.out (by first | exact Ob.mk_ w2 _ _ | exact Ob.mk_ w2.drew _ _)).mono ?_
        rintro _ w3 ⟨R, rfl, tR, u3⟩
        have U3 : Up w w3 := U2.trans (Up.trans (by repeat (first | exact Up.refl _ | refine Up.drew ?_ | refine Up.drewN ?_ _ | refine Up.alloc ?_ _)) u3)
        go_wp2_with fail
        go_ret
        exact ⟨R, rfl, tR, by first | exact U3 | exact U3.drew⟩
      · have hfar : M.lfar (((Lib.decDigits a).length : Int) + k) := by unfold M.lfar; omega
        have HF := Lib.hid (M.lyu_d h hfar)
        obtain ⟨z, hz⟩ : ∃ z, p - 1 = z := ⟨_, rfl⟩
        have CP : Hid (∀ W, Up w W → Calls Tryz.prog 44 #[.string S, .int .i64 z] W (Tex (M.lyu a k) W)) := fun W u => by
          rw [HF.out, show ((Lib.decDigits a).length : Int) + k - 1 = z from by omega]
          exact lpow_any W (TWh.out.up u) S _ HS.out (by omega) (by omega) z (by omega)
        have dd : (decide (k ≥ 0) = false ∨ (decide (k ≥ 0) = true ∧ decide (p ≤ 21) = false)) := by
          by_cases hk0 : k ≥ 0
          · right; exact ⟨decide_eq_true hk0, decide_eq_false (fun x => hA ⟨hk0, by omega⟩)⟩
          · left; exact decide_eq_false hk0
        have de : (decide (p ≥ 1) = false ∧ decide (p ≥ -5) = false) ∨ (decide (p ≥ 1) = true ∧ decide (p ≤ 21) = false ∧ decide (p ≥ -5) = true ∧ decide (p ≤ 0) = false) := by
          unfold M.lfar at hfar
          rcases hfar with hf | hf
          · right; exact ⟨decide_eq_true (by omega), decide_eq_false (by omega), decide_eq_true (by omega), decide_eq_false (by omega)⟩
          · left; exact ⟨decide_eq_false (by omega), decide_eq_false (by omega)⟩
        have DD := Lib.hid dd
        have DE := Lib.hid de
        clear hfar hB hC dd de
        clear HF hl hpos hsz HS0 h N TW hT hA
        generalize M.lyu a k = L at *
        go_enter Tryz.func26, Tryz.ntmps26
        go_wp2_with fail
        refine (CT.out _ U0).mono ?_
        rintro _ w1 ⟨rfl, u1⟩
        have B := (Ob.mk_ w 25 #[.bool ng, .slice A n c, .int .i64 k]).up u1
        have b2 := B.get 2
        simp only [List.getElem?_toArray, List.getElem?_cons_zero, List.getElem?_cons_succ] at b2
        have U1 := U0.trans u1
        clear CT
        rcases DD.out with d1 | ⟨d1, d2⟩ <;> rcases DE.out with ⟨d3, d4⟩ | ⟨d3, d2', d4, d5⟩
        all_goals
          go_wp2_with fail
          refine (CP.out _ (by first | exact U1 | exact U1.drew)).mono ?_
          rintro _ w3 ⟨R, rfl, tR, u3⟩
          have U3 : Up w w3 := U1.trans u3
          go_wp2_with fail
          go_ret
          exact ⟨R, rfl, tR, by first | exact U3 | exact U3.drew⟩

set_option maxHeartbeats 2000000 in
set_option maxRecDepth 100000 in
theorem llayout_any (w : World) (ng : Bool) (A : Option Addr) (n c : Nat) (xs : List Nat) (k : Int) (TW : TabW w) (h : Dr w A n c xs) :
    Calls Tryz.prog 12 #[dv ng (.slice A n c) k] w (Tex (M.lyr ng xs k) w) := by
  have U0 := (Up.refl w).alloc (.cells #[.bool ng, .slice A n c, .int .i64 k] 25)
  have CR : Hid (∀ r, Hid (decide (M.rt xs k) = r) → Calls Tryz.prog 10 #[dv ng (.slice A n c) k] (w.alloc (.cells #[.bool ng, .slice A n c, .int .i64 k] 25)) (Boo r (w.alloc (.cells #[.bool ng, .slice A n c, .int .i64 k] 25)))) := fun r hr => lright_any _ ng A n c xs k r (TW.up U0) (h.up U0) hr
  by_cases hr : M.rt xs k
  · have HL : Hid (M.lyr ng xs k = M.sgt ng ++ M.lyu (M.val xs) k) := by
      show _ = _
      unfold M.lyr
      rw [if_pos hr, M.ly_lyu]
    have CC := Lib.hid (CR.out true (decide_eq_true hr))
    have hlen := M.rt_len hr
    rw [h.num] at hlen
    have CS : Hid (∀ W, Up w W → Calls Tryz.prog 26 #[dv ng (.slice A n c) k] W (Tex (M.lyu (M.val xs) k) W)) := fun W u => lsize_any W (TW.up u) ng A n c k _ ⟨_, _, _, _, rfl, (h.wd (by omega)).up u, rfl, hlen⟩ hr.2
    have hz : (M.lyu (M.val xs) k).length ≤ 50000 := by
      obtain ⟨⟨k1, k2⟩, hl⟩ := hr.2.bds
      unfold M.lyu
      split
      · simp
      · exact Nat.le_trans (M.lyb_len _ k hl (by omega)) (by omega)
    clear hr CR h TW
    generalize M.lyu (M.val xs) k = L at *
    have CJ : Hid (∀ W b (X : ByteArray), Tx X L → Ob W b 9 #[.string ⟨#[45]⟩, .string X] → Calls Tryz.prog 25 #[.slice (some ⟨b, 0, none⟩) 2 2] W (Tex ([45] ++ L) W)) := fun W b X tX ob => join2 W b _ _ _ _ _ ob (Tx.lit [45]) tX (by rw [List.length_singleton]; omega)
    cases ng with
    | true =>
      go_enter Tryz.func12, Tryz.ntmps12
      go_wp2_with fail
      refine CC.out.mono ?_
      rintro _ w1 ⟨rfl, u1⟩
      have B := (Ob.mk_ w 25 #[.bool true, .slice A n c, .int .i64 k]).up u1
      have b0 := B.get 0
      have b1 := B.get 1
      have b2 := B.get 2
      simp only [List.getElem?_toArray, List.getElem?_cons_zero, List.getElem?_cons_succ] at b0 b1 b2
      have U1 := U0.trans u1
      clear CC
      go_wp2_with fail
      refine (CS.out _ (by first | exact U1 | exact U1.drew)).mono ?_
      rintro _ w2 ⟨X, rfl, tX, u2⟩
      have U2 : Up w w2 := Up.trans (by first | exact U1 | exact U1.drew) u2
      have HX := Lib.hid tX
      clear tX u2
      go_wp2_with fail
      refine (CJ.out _ _ X HX.out (by first | exact Ob.mk_ w2 _ _ | exact Ob.mk_ w2.drew _ _)).mono ?_
      rintro _ w3 ⟨R, rfl, tR, u3⟩
      have U3 : Up w w3 := U2.trans (Up.trans (by repeat (first | exact Up.refl _ | refine Up.drew ?_ | refine Up.drewN ?_ _ | refine Up.alloc ?_ _)) u3)
      go_wp2_with fail
      go_ret
      exact ⟨R, rfl, tR.to HL.out.symm, by first | exact U3 | exact U3.drew⟩
    | false =>
      go_enter Tryz.func12, Tryz.ntmps12
      go_wp2_with fail
      refine CC.out.mono ?_
      rintro _ w1 ⟨rfl, u1⟩
      have B := (Ob.mk_ w 25 #[.bool false, .slice A n c, .int .i64 k]).up u1
      have b0 := B.get 0
      have b1 := B.get 1
      have b2 := B.get 2
      simp only [List.getElem?_toArray, List.getElem?_cons_zero, List.getElem?_cons_succ] at b0 b1 b2
      have U1 := U0.trans u1
      clear CC
      go_wp2_with fail
      refine (CS.out _ (by first | exact U1 | exact U1.drew)).mono ?_
      rintro _ w2 ⟨X, rfl, tX, u2⟩
      have U2 : Up w w2 := Up.trans (by first | exact U1 | exact U1.drew) u2
      go_wp2_with fail
      go_ret
      exact ⟨X, rfl, tX.to HL.out.symm, by first | exact U2 | exact U2.drew⟩
  · have HL : Hid (M.lyr ng xs k = []) := by
      show _ = _
      unfold M.lyr
      rw [if_neg hr]
    have CC := Lib.hid (CR.out false (decide_eq_false hr))
    clear hr CR h TW
    go_enter Tryz.func12, Tryz.ntmps12
    go_wp2_with fail
    refine CC.out.mono ?_
    rintro _ w1 ⟨rfl, u1⟩
    go_wp2_with fail
    go_ret
    exact ⟨_, rfl, (Tx.lit []).to HL.out.symm, U0.trans u1⟩
end Go.Proofs.YtkhnobogaiaogaaGreatDoor
