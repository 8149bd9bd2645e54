import Derived.Test.YtcmlanfgafancaaGreatDoorQDHr
import Derived.Deep.RegionHeld3
import Derived.Test.YtcmlanfgafancaaGreatDoorQDEx3
import Derived.Shelf.Strconv.ErrVarAll
import Derived.Lib.AtoiErrMem
set_option maxHeartbeats 32000000
set_option linter.unusedVariables false
set_option linter.unusedSimpArgs false
namespace Go.Proofs.YtcmlanfgafancaaGreatDoor
open Go.RowKit Go.Shelf
def M.lyu (a : Nat) (k : Int) : List UInt8 := if a = 0 then [48] else M.lyb (Lib.decDigits a) k
theorem M.ly_lyu (ng : Bool) (a : Nat) (k : Int) : M.ly ng a k = M.sgt ng ++ M.lyu a k := rfl
theorem M.dd_zero : Lib.decDigits 0 = [48] := by simp [Lib.decDigits]
theorem M.lyu_a {a : Nat} {k : Int} (h : M.rtn a k) (h1 : 0 ≤ k) (h2 : ((Lib.decDigits a).length : Int) + k ≤ 21) : M.lyu a k = Lib.decDigits a ++ List.replicate k.toNat 48 := by
 unfold M.lyu
 rcases h with ⟨e1, e2⟩ | ⟨e1, _⟩
 ·rw [if_pos e1, e1, e2, M.dd_zero]; rfl
 ·rw [if_neg e1]
  unfold M.lyb
  have hp := M.decDigits_pos a
  rw [if_neg (by unfold M.lfar; omega), if_neg (by omega), if_pos h1]
theorem M.lyu_b {a : Nat} {k : Int} (h : M.rtn a k) (h1 : k < 0) (q : Nat) (hq : ((Lib.decDigits a).length : Int) + k = q) (h2 : 1 ≤ q) (h3 : q ≤ 21) : M.lyu a k = (Lib.decDigits a).take q ++ ([46] ++ (Lib.decDigits a).drop q) := by
 unfold M.lyu
 rcases h with ⟨e1, e2⟩ | ⟨e1, _⟩
 ·omega
 ·rw [if_neg e1]
  unfold M.lyb
  rw [if_neg (by unfold M.lfar; omega), if_neg (by omega), if_neg (by omega), hq, Int.toNat_natCast]
  rfl
theorem M.lyu_c {a : Nat} {k : Int} (h : M.rtn a k) (m : Nat) (hm : ((Lib.decDigits a).length : Int) + k = -(m : Int)) (h3 : m ≤ 5) : M.lyu a k = [48, 46] ++ (List.replicate m 48 ++ Lib.decDigits a) := by
 have hp := M.decDigits_pos a
 unfold M.lyu
 rcases h with ⟨e1, e2⟩ | ⟨e1, _⟩
 ·omega
 ·rw [if_neg e1]
  unfold M.lyb
  rw [if_neg (by unfold M.lfar; omega), if_pos (by omega), hm, Int.neg_neg, Int.toNat_natCast]
  rfl
theorem M.lyu_d {a : Nat} {k : Int} (h : M.rtn a k) (h1 : M.lfar (((Lib.decDigits a).length : Int) + k)) : M.lyu a k = (Lib.decDigits a).take 1 ++ ((if 1 < (Lib.decDigits a).length then 46 :: (Lib.decDigits a).drop 1 else []) ++ (101 :: M.ntx (((Lib.decDigits a).length : Int) + k - 1))) := by
 unfold M.lyu
 rcases h with ⟨e1, e2⟩ | ⟨e1, _⟩
 ·rw [e1, e2, M.dd_zero] at h1
  exfalso
  unfold M.lfar at h1
  simp at h1
 ·rw [if_neg e1]
  unfold M.lyb
  rw [if_pos h1]
theorem M.lyb_len (S : List UInt8) (k : Int) (hl : S.length ≤ 2000) (hk : -5000 ≤ k ∧ k ≤ 5000) : (M.lyb S k).length ≤ 12000 := by
 have hz := M.ntx_len (S.length + k - 1) (by omega)
 unfold M.lyb
 split
 ·rw [List.length_append, List.length_append, List.length_take, List.length_cons]
  split
  ·rw [List.length_cons, List.length_drop]; omega
  ·rw [List.length_nil]; omega
 ·split
  ·rw [List.length_cons, List.length_cons, List.length_append, List.length_replicate]; omega
  ·split
   ·rw [List.length_append, List.length_replicate]; omega
   ·rw [List.length_append, List.length_cons, List.length_take, List.length_drop]; omega
theorem M.rtn.bds {a : Nat} {k : Int} (h : M.rtn a k) : (-5000 ≤ k ∧ k ≤ 5000) ∧ (Lib.decDigits a).length ≤ 2000 := by
 rcases h with ⟨e1, e2⟩ | ⟨_, e2, e3, _⟩
 ·subst e1 e2
  rw [M.dd_zero]
  simp
 ·exact ⟨e2, e3⟩
set_option maxRecDepth 100000 in
theorem lsize_any (w : World) (TW : TabW w) (ng : Bool) (A : Option Addr) (n c : Nat) (k : Int) (a : Nat) (N : Nw w 0 128 (.slice A n c) a) (h : M.rtn a k) :
  Calls Tryz.prog 76 #[dv ng (.slice A n c) k] w (Tex (M.lyu a k) w) := by
 obtain ⟨⟨k1, k2⟩, hl⟩ := h.bds
 have hpos := M.decDigits_pos a
 obtain ⟨S, HS0⟩ := tx_ex (Lib.decDigits a)
 have hsz := HS0.size
 have U0 := (Up.refl w).alloc (.cells #[.bool ng, .slice A n c, .int .i64 k] 44)
 have CT : Hid (∀ W, Up w W → Calls Tryz.prog 140 #[.slice A n c] W (Str S W)) := fun W u => text_of W 0 128 _ a (N.up u) (by omega) (TW.up u) S (Tx.uniq (Tx.lit _) HS0)
 have HS := Lib.hid HS0
 have sl : S.size ≤ 2000 := by omega
 have sp : 0 < S.size := by omega
 have TWh := Lib.hid TW
 obtain ⟨T, hT⟩ : ∃ T, Lib.decDigits a = T := ⟨_, rfl⟩
 by_cases hA : 0 ≤ k ∧ (S.size : Int) + k ≤ 21
 ·obtain ⟨hA1, hA2⟩ := hA
  have HF := Lib.hid (M.lyu_a h hA1 (by omega))
  obtain ⟨p, hp⟩ : ∃ p : Int, (S.size : Int) + k = p := ⟨_, rfl⟩
  obtain ⟨m, hm⟩ : ∃ m : Nat, k = m := ⟨k.toNat, by omega⟩
  have CN : Hid (∀ W, Calls Tryz.prog 141 #[.int .i64 k] W (Tex (List.replicate k.toNat 48) W)) := fun W => by
   have := noughts_any W m (by omega)
   rw [hm, Int.toNat_natCast]
   exact this
  have CJ : Hid (∀ W b (Z : ByteArray), Tx Z (List.replicate k.toNat 48) → Ob W b 9 #[.string S, .string Z] → Calls Tryz.prog 75 #[.slice (some ⟨b, 0, none⟩) 2 2] W (Tex (M.lyu a k) W)) := fun W b Z tZ ob => by
   rw [HF.out]
   exact join2 W b _ _ _ _ _ ob HS.out tZ (by rw [List.length_replicate]; omega)
  have d1 : decide (k ≥ 0) = true := decide_eq_true hA1
  have d2 : decide (p ≤ 21) = true := decide_eq_true (by omega)
  have bd : -5000 ≤ p ∧ p ≤ 7000 := by omega
  obtain ⟨bd1, bd2⟩ := bd
  clear HF hm hl hpos hsz HS0 h N TW hT hA1 hA2
  generalize M.lyu a k = L at *
  go_enter Tryz.func76, Tryz.ntmps76
  go_wp2_with fail
  refine (CT.out _ U0).mono ?_
  rintro _ w1 ⟨rfl, u1⟩
  have B := (Ob.mk_ w 44 #[.bool ng, .slice A n c, .int .i64 k]).up u1
  have b2 := B.get 2
  simp only [M.z7, M.z8, M.z9] at b2
  have U1 := U0.trans u1
  clear CT
  go_wp2_with fail
  refine (CN.out _).mono ?_
  rintro _ w2 ⟨Z, rfl, tZ, u2⟩
  have HZ := Lib.hid tZ
  have U2 := U1.trans u2
  clear tZ u2
  go_wp2_with fail
  refine (CJ.out _ _ Z HZ.out (by first | exact Ob.mk_ w2 _ _ | exact Ob.mk_ w2.drew _ _)).mono ?_
  rintro _ w3 ⟨R, rfl, tR, u3⟩
  have U3 : Up w w3 := U2.trans (Up.trans (by repeat (first | exact Up.refl _ | refine Up.drew ?_ | refine Up.drewN ?_ _ | refine Up.alloc ?_ _)) u3)
  go_wp2_with fail
  go_ret
  exact ⟨R, rfl, tR, by first | exact U3 | exact U3.drew⟩
 ·obtain ⟨p, hp⟩ : ∃ p : Int, (S.size : Int) + k = p := ⟨_, rfl⟩
  have bd : -5000 ≤ p ∧ p ≤ 7000 := by omega
  obtain ⟨bd1, bd2⟩ := bd
  by_cases hB : k < 0 ∧ 1 ≤ p ∧ p ≤ 21
  ·obtain ⟨hB1, hB2, hB3⟩ := hB
   obtain ⟨q, rfl⟩ : ∃ q : Nat, p = q := ⟨p.toNat, by omega⟩
   have HF := Lib.hid (M.lyu_b h hB1 q (by omega) (by omega) (by omega))
   obtain ⟨X, hX⟩ : ∃ X, S.extract 0 q = X := ⟨_, rfl⟩
   obtain ⟨Y, hY⟩ : ∃ Y, S.extract q S.size = Y := ⟨_, rfl⟩
   have tX : Hid (Tx X ((Lib.decDigits a).take q)) := by
    have := HS0.ext 0 q
    rw [hX] at this
    exact this
   have tY : Hid (Tx Y ((Lib.decDigits a).drop q)) := by
    have := HS0.ext q S.size
    rw [hY, hsz, List.take_of_length_le (by rw [List.length_drop]; omega)] at this
    exact this
   have CJ : Hid (∀ W b, Ob W b 9 #[.string X, .string ⟨#[46]⟩, .string Y] → Calls Tryz.prog 75 #[.slice (some ⟨b, 0, none⟩) 3 3] W (Tex (M.lyu a k) W)) := fun W b ob => by
    rw [HF.out]
    exact join3 W b _ _ _ _ _ _ _ ob tX.out (Tx.lit [46]) tY.out (by rw [List.length_take, List.length_drop, List.length_singleton]; omega)
   have d1 : decide (k ≥ 0) = false := decide_eq_false (by omega)
   have d3 : decide ((q : Int) ≥ 1) = true := decide_eq_true (by omega)
   have d2 : decide ((q : Int) ≤ 21) = true := decide_eq_true (by omega)
   have c1 : (0 : Int) ≤ (q : Int) := by omega
   have c2 : (q : Int) ≤ (S.size : Int) := by omega
   clear HF tX tY hl hpos hsz HS0 h N TW hT hA
   generalize M.lyu a k = L at *
   go_enter Tryz.func76, Tryz.ntmps76
   go_wp2_with fail
   refine (CT.out _ U0).mono ?_
   rintro _ w1 ⟨rfl, u1⟩
   have B := (Ob.mk_ w 44 #[.bool ng, .slice A n c, .int .i64 k]).up u1
   have b2 := B.get 2
   simp only [M.z7, M.z8, M.z9] at b2
   have U1 := U0.trans u1
   clear CT
   go_wp2_with fail
   go_region_with (first
    | (go_at_call 75; refine (CJ.out _ _ (by first | exact Ob.mk_ w1 _ _ | exact Ob.mk_ w1.drew _ _)).mono ?_; rintro _ w3 ⟨R, rfl, tR, u3⟩; have U3 : Up w w3 := U1.trans (Up.trans (by repeat (first | exact Up.refl _ | refine Up.drew ?_ | refine Up.drewN ?_ _ | refine Up.alloc ?_ _)) u3)))
   all_goals
    go_wp2_with fail
    go_ret
    exact ⟨R, rfl, tR, by first | exact U3 | exact U3.drew⟩
  ·by_cases hC : -5 ≤ p ∧ p ≤ 0
   ·obtain ⟨hC1, hC2⟩ := hC
    obtain ⟨m, hm⟩ : ∃ m : Nat, -p = m := ⟨(-p).toNat, by omega⟩
    have HF := Lib.hid (M.lyu_c h m (by omega) (by omega))
    have CN : Hid (∀ W, Calls Tryz.prog 141 #[.int .i64 (m : Int)] W (Tex (List.replicate m 48) W)) := fun W => noughts_any W m (by omega)
    have CJ : Hid (∀ W b (Z : ByteArray), Tx Z (List.replicate m 48) → Ob W b 9 #[.string ⟨#[48, 46]⟩, .string Z, .string S] → Calls Tryz.prog 75 #[.slice (some ⟨b, 0, none⟩) 3 3] W (Tex (M.lyu a k) W)) := fun W b Z tZ ob => by
     rw [HF.out]
     exact join3 W b _ _ _ _ _ _ _ ob (Tx.lit [48, 46]) tZ HS.out (by rw [List.length_replicate]; show 2 + m + _ ≤ _; omega)
    have d1 : decide (k ≥ 0) = false := decide_eq_false (by omega)
    have d3 : decide (p ≥ 1) = false := decide_eq_false (by omega)
    have d4 : decide (p ≥ -5) = true := decide_eq_true (by omega)
    have d5 : decide (p ≤ 0) = true := decide_eq_true (by omega)
    clear HF hB hl hpos hsz HS0 h N TW hT hA
    generalize M.lyu a k = L at *
    go_enter Tryz.func76, Tryz.ntmps76
    go_wp2_with fail
    refine (CT.out _ U0).mono ?_
    rintro _ w1 ⟨rfl, u1⟩
    have B := (Ob.mk_ w 44 #[.bool ng, .slice A n c, .int .i64 k]).up u1
    have b2 := B.get 2
    simp only [M.z7, M.z8, M.z9] at b2
    have U1 := U0.trans u1
    clear CT
    go_wp2_with fail
    refine (CN.out _).mono ?_
    rintro _ w2 ⟨Z, rfl, tZ, u2⟩
    have HZ := Lib.hid tZ
    have U2 := U1.trans u2
    clear tZ u2
    go_wp2_with fail
    refine (CJ.out _ _ Z HZ.out (by first | exact Ob.mk_ w2 _ _ | exact Ob.mk_ w2.drew _ _)).mono ?_
    rintro _ w3 ⟨R, rfl, tR, u3⟩
    have U3 : Up w w3 := U2.trans (Up.trans (by repeat (first | exact Up.refl _ | refine Up.drew ?_ | refine Up.drewN ?_ _ | refine Up.alloc ?_ _)) u3)
    go_wp2_with fail
    go_ret
    exact ⟨R, rfl, tR, by first | exact U3 | exact U3.drew⟩
   ·have hfar : M.lfar (((Lib.decDigits a).length : Int) + k) := by unfold M.lfar; omega
    have HF := Lib.hid (M.lyu_d h hfar)
    obtain ⟨z, hz⟩ : ∃ z, p - 1 = z := ⟨_, rfl⟩
    have CP : Hid (∀ W, Up w W → Calls Tryz.prog 142 #[.string S, .int .i64 z] W (Tex (M.lyu a k) W)) := fun W u => by
     rw [HF.out, show ((Lib.decDigits a).length : Int) + k - 1 = z from by omega]
     exact lpow_any W (TWh.out.up u) S _ HS.out (by omega) (by omega) z (by omega)
    have dd : (decide (k ≥ 0) = false ∨ (decide (k ≥ 0) = true ∧ decide (p ≤ 21) = false)) := by
     by_cases hk0 : k ≥ 0
     ·right; exact ⟨decide_eq_true hk0, decide_eq_false (fun x => hA ⟨hk0, by omega⟩)⟩
     ·left; exact decide_eq_false hk0
    have de : (decide (p ≥ 1) = false ∧ decide (p ≥ -5) = false) ∨ (decide (p ≥ 1) = true ∧ decide (p ≤ 21) = false ∧ decide (p ≥ -5) = true ∧ decide (p ≤ 0) = false) := by
     unfold M.lfar at hfar
     rcases hfar with hf | hf
     ·right; exact ⟨decide_eq_true (by omega), decide_eq_false (by omega), decide_eq_true (by omega), decide_eq_false (by omega)⟩
     ·left; exact ⟨decide_eq_false (by omega), decide_eq_false (by omega)⟩
    have DD := Lib.hid dd
    have DE := Lib.hid de
    clear hfar hB hC dd de
    clear HF hl hpos hsz HS0 h N TW hT hA
    generalize M.lyu a k = L at *
    go_enter Tryz.func76, Tryz.ntmps76
    go_wp2_with fail
    refine (CT.out _ U0).mono ?_
    rintro _ w1 ⟨rfl, u1⟩
    have B := (Ob.mk_ w 44 #[.bool ng, .slice A n c, .int .i64 k]).up u1
    have b2 := B.get 2
    simp only [M.z7, M.z8, M.z9] at b2
    have U1 := U0.trans u1
    clear CT
    rcases DD.out with d1 | ⟨d1, d2⟩ <;> rcases DE.out with ⟨d3, d4⟩ | ⟨d3, d2', d4, d5⟩
    all_goals
     go_wp2_with fail
     refine (CP.out _ (by first | exact U1 | exact U1.drew)).mono ?_
     rintro _ w3 ⟨R, rfl, tR, u3⟩
     have U3 : Up w w3 := U1.trans u3
     go_wp2_with fail
     go_ret
     exact ⟨R, rfl, tR, by first | exact U3 | exact U3.drew⟩
set_option maxRecDepth 100000 in
theorem llayout_any (w : World) (ng : Bool) (A : Option Addr) (n c : Nat) (xs : List Nat) (k : Int) (TW : TabW w) (h : Dr w A n c xs) :
  Calls Tryz.prog 39 #[dv ng (.slice A n c) k] w (Tex (M.lyr ng xs k) w) := by
 have U0 := (Up.refl w).alloc (.cells #[.bool ng, .slice A n c, .int .i64 k] 44)
 have CR : Hid (∀ r, Hid (decide (M.rt xs k) = r) → Calls Tryz.prog 74 #[dv ng (.slice A n c) k] (w.alloc (.cells #[.bool ng, .slice A n c, .int .i64 k] 44)) (Boo r (w.alloc (.cells #[.bool ng, .slice A n c, .int .i64 k] 44)))) := fun r hr => lright_any _ ng A n c xs k r (TW.up U0) (h.up U0) hr
 by_cases hr : M.rt xs k
 ·have HL : Hid (M.lyr ng xs k = M.sgt ng ++ M.lyu (M.val xs) k) := by
   show _ = _
   unfold M.lyr
   rw [if_pos hr, M.ly_lyu]
  have CC := Lib.hid (CR.out true (decide_eq_true hr))
  have hlen := M.rt_len hr
  rw [h.num] at hlen
  have CS : Hid (∀ W, Up w W → Calls Tryz.prog 76 #[dv ng (.slice A n c) k] W (Tex (M.lyu (M.val xs) k) W)) := fun W u => lsize_any W (TW.up u) ng A n c k _ ⟨_, _, _, _, rfl, (h.wd (by omega)).up u, rfl, hlen⟩ hr.2
  have hz : (M.lyu (M.val xs) k).length ≤ 50000 := by
   obtain ⟨⟨k1, k2⟩, hl⟩ := hr.2.bds
   unfold M.lyu
   split
   ·simp
   ·exact Nat.le_trans (M.lyb_len _ k hl (by omega)) (by omega)
  clear hr CR h TW
  generalize M.lyu (M.val xs) k = L at *
  have CJ : Hid (∀ W b (X : ByteArray), Tx X L → Ob W b 9 #[.string ⟨#[45]⟩, .string X] → Calls Tryz.prog 75 #[.slice (some ⟨b, 0, none⟩) 2 2] W (Tex ([45] ++ L) W)) := fun W b X tX ob => join2 W b _ _ _ _ _ ob (Tx.lit [45]) tX (by rw [List.length_singleton]; omega)
  cases ng with
  | true =>
   go_enter Tryz.func39, Tryz.ntmps39
   go_wp2_with fail
   refine CC.out.mono ?_
   rintro _ w1 ⟨rfl, u1⟩
   have B := (Ob.mk_ w 44 #[.bool true, .slice A n c, .int .i64 k]).up u1
   obtain ⟨b0, b1, b2⟩ := B.g3
   have U1 := U0.trans u1
   clear CC
   go_wp2_with fail
   refine (CS.out _ (by first | exact U1 | exact U1.drew)).mono ?_
   rintro _ w2 ⟨X, rfl, tX, u2⟩
   have U2 : Up w w2 := Up.trans (by first | exact U1 | exact U1.drew) u2
   have HX := Lib.hid tX
   clear tX u2
   go_wp2_with fail
   refine (CJ.out _ _ X HX.out (by first | exact Ob.mk_ w2 _ _ | exact Ob.mk_ w2.drew _ _)).mono ?_
   rintro _ w3 ⟨R, rfl, tR, u3⟩
   have U3 : Up w w3 := U2.trans (Up.trans (by repeat (first | exact Up.refl _ | refine Up.drew ?_ | refine Up.drewN ?_ _ | refine Up.alloc ?_ _)) u3)
   go_wp2_with fail
   go_ret
   exact ⟨R, rfl, tR.to HL.out.symm, by first | exact U3 | exact U3.drew⟩
  | false =>
   go_enter Tryz.func39, Tryz.ntmps39
   go_wp2_with fail
   refine CC.out.mono ?_
   rintro _ w1 ⟨rfl, u1⟩
   have B := (Ob.mk_ w 44 #[.bool false, .slice A n c, .int .i64 k]).up u1
   obtain ⟨b0, b1, b2⟩ := B.g3
   have U1 := U0.trans u1
   clear CC
   go_wp2_with fail
   refine (CS.out _ (by first | exact U1 | exact U1.drew)).mono ?_
   rintro _ w2 ⟨X, rfl, tX, u2⟩
   have U2 : Up w w2 := Up.trans (by first | exact U1 | exact U1.drew) u2
   go_wp2_with fail
   go_ret
   exact ⟨X, rfl, tX.to HL.out.symm, by first | exact U2 | exact U2.drew⟩
 ·have HL : Hid (M.lyr ng xs k = []) := by
   show _ = _
   unfold M.lyr
   rw [if_neg hr]
  have CC := Lib.hid (CR.out false (decide_eq_false hr))
  clear hr CR h TW
  go_enter Tryz.func39, Tryz.ntmps39
  go_wp2_with fail
  refine CC.out.mono ?_
  rintro _ w1 ⟨rfl, u1⟩
  go_wp2_with fail
  go_ret
  exact ⟨_, rfl, (Tx.lit []).to HL.out.symm, U0.trans u1⟩
end Go.Proofs.YtcmlanfgafancaaGreatDoor
namespace Go.Proofs.YtcmlanfgafancaaGreatDoor
open Go.RowKit Go.Shelf
theorem trl_any (w : World) (s : ByteArray) (l : List UInt8) (hs : Tx s l) : Calls Tryz.prog 134 #[.string s, .string ⟨#[48]⟩] w (fun e w' => ∃ t, e = .returned (.string t) ∧ Tx t (M.lz l) ∧ w = w') := by
 refine (Tryz.strings_TrimLeft_one s 48 (by decide) w).mono ?_
 rintro _ _ ⟨rfl, rfl⟩
 rw [show s.data.toList = l from hs]
 exact ⟨_, rfl, Tx.lit (M.lz l), rfl⟩
theorem trr_any (w : World) (s : ByteArray) (l : List UInt8) (hs : Tx s l) (hl : s.size ≤ 9223372036854775807) : Calls Tryz.prog 135 #[.string s, .string ⟨#[48]⟩] w (fun e w' => ∃ t, e = .returned (.string t) ∧ Tx t (M.tz l) ∧ w = w') := by
 refine (Tryz.strings_TrimRight_one s 48 (by decide) w hl).mono ?_
 rintro _ _ ⟨rfl, rfl⟩
 rw [show s.data.toList = l from hs]
 exact ⟨_, rfl, Tx.lit (M.tz l), rfl⟩
def M.few (l : List UInt8) : Prop := M.allD l = true ∧ l.length ≤ 2000
instance (l : List UInt8) : Decidable (M.few l) := by unfold M.few; infer_instance
theorem nparse_any (w : World) (EW : ErrW w) (s : ByteArray) (l : List UInt8) (hs : Tx s l) (h0 : l ≠ []) (hz : l.headD 0 ≠ 48) (r : Bool) (hr : Hid (decide (M.few l) = r)) :
  Calls Tryz.prog 136 #[.string s] w (Opt 2001 (if r = true then M.vsa 0 l else 0) r w) := by
 by_cases h1 : l.length ≤ 2000
 ·have e : M.allD l = r := by
   rw [← hr.out, Bool.eq_iff_iff, decide_eq_true_iff]
   exact ⟨fun x => ⟨x, h1⟩, fun x => x.1⟩
  have := parse_any w s l hs h0 h1 (.inl hz) EW
  unfold Parsed at this
  rw [e] at this
  exact this
 ·have e : false = r := by
   rw [← hr.out, eq_comm, decide_eq_false_iff_not]
   exact fun x => h1 x.2
  subst e
  exact parse_bad w s l hs (.inr (.inl (by omega)))
def Ato (l : List UInt8) (w : World) (e : Ending) (w' : World) : Prop :=
 (∃ z, Lib.atoiAll l = .ok z ∧ e = .returned (.tuple #[.int .i64 z, .nilIface]) ∧ Up w w') ∨ ((∀ z, Lib.atoiAll l ≠ .ok z) ∧ ∃ z t p, (-9223372036854775808 ≤ z ∧ z ≤ 9223372036854775807) ∧ e = .returned (.tuple #[.int .i64 z, .iface t (.pointer (some p))]) ∧ Up w w')
theorem atoi_any (w : World) (EB : ErrB w) (s : ByteArray) (l : List UInt8) (hs : Tx s l) (hl : l.length ≤ 100000) : Calls Tryz.prog 137 #[.string s] w (Ato l w) := by
 have hsz := hs.size
 have e : s.data.toList = l := hs
 rcases h : Lib.atoiAll l with z | _ | _
 ·refine (Tryz.strconv_Atoi_ok s (by omega) z (by rw [e]; exact h) w).mono ?_
  rintro _ w' ⟨rfl, hw⟩
  refine .inl ⟨z, h, rfl, ?_⟩
  rcases hw with rfl | ⟨t, rfl⟩
  ·exact Up.refl _
  ·exact Lib.bytesWorld_below w _ t
 ·obtain ⟨tp, p, hv⟩ := EB.syn
  refine (Any.strconv_Atoi_syntax_var Tryz.laysC172 s (by omega) (by rw [e]; exact h) tp p w hv).mono ?_
  rintro _ w' ⟨N, rfl, _, _, hb⟩
  exact .inr ⟨(fun z hz => by rw [h] at hz; cases hz), 0, _, _, by omega, rfl, hb⟩
 ·obtain ⟨tp, p, hv⟩ := EB.rng
  refine (Any.strconv_Atoi_range_var Tryz.laysC172 s (by omega) (by rw [e]; exact h) tp p w hv).mono ?_
  rintro _ w' ⟨N, rfl, _, _, hb⟩
  exact .inr ⟨(fun z hz => by rw [h] at hz; cases hz), _, _, _, Lib.atoiSat_bounds _, rfl, hb⟩
def Szo (l : List UInt8) (w : World) (e : Ending) (w' : World) : Prop :=
 (∃ n k A nn c, M.szx l = some (n, k) ∧ e = .returned (dv false (.slice A nn c) k) ∧ Nt w' w.heap.size 128 (.slice A nn c) n ∧ Up w w') ∨ (M.szx l = none ∧ Pnl w e w')
set_option maxRecDepth 100000 in
theorem sizeOf_any (w : World) (EB : ErrB w) (s : ByteArray) (l : List UInt8) (hs : Tx s l) (hl : l.length ≤ 3000) :
  Calls Tryz.prog 72 #[.string s] w (Szo l w) := by
 obtain ⟨x, y, hp, h1⟩ : ∃ x y hp, Lib.cut l [101] = (x, y, hp) := ⟨_, _, _, rfl⟩
 obtain ⟨u, v, q, h2⟩ : ∃ u v q, Lib.cut x [46] = (u, v, q) := ⟨_, _, _, rfl⟩
 obtain ⟨lx1, lx2, _⟩ := M.cut_len l [101]
 rw [h1] at lx1 lx2
 obtain ⟨_, lu2, lu3⟩ := M.cut_len x [46]
 rw [h2] at lu2 lu3
 simp only at lx1 lx2 lu2 lu3
 have la := M.lz_len (u ++ v)
 have ld := M.tz_len (M.lz (u ++ v))
 rw [List.length_append] at la
 have H1 := Lib.hid h1
 have H2 := Lib.hid h2
 have C1 : Hid (∀ W, Calls Tryz.prog 133 #[.string s, .string ⟨#[101]⟩] W (Ctt x y hp W)) := fun W => cut_any W s 101 l x y hp hs (by omega) h1
 have C2 : Hid (∀ W X, Tx X x → Calls Tryz.prog 133 #[.string X, .string ⟨#[46]⟩] W (Ctt u v q W)) := fun W X tX => cut_any W X 46 x u v q tX (by omega) h2
 have CJ : Hid (∀ W b (X Y : ByteArray), Tx X u → Tx Y v → Ob W b 9 #[.string X, .string Y] → Calls Tryz.prog 75 #[.slice (some ⟨b, 0, none⟩) 2 2] W (Tex (u ++ v) W)) := fun W b X Y tX tY ob => join2 W b _ _ _ _ _ ob tX tY (by omega)
 clear h1 h2
 have HD : Hid (M.tz (M.lz (u ++ v)) = [] ∨ M.tz (M.lz (u ++ v)) ≠ [] ∧ (M.tz (M.lz (u ++ v))).headD 0 ≠ 48) := by
  rcases M.tz_head _ (M.lz_head (u ++ v)) with h | h
  ·exact .inl h.1
  ·exact .inr h
 have KD : Hid (M.tz (M.lz (u ++ v)) = [] → M.szx l = some (0, 0)) := fun h => M.szx_none H1.out H2.out h
 have KB : Hid (M.tz (M.lz (u ++ v)) ≠ [] → ¬ M.few (M.tz (M.lz (u ++ v))) → M.szx l = none) := fun h h' => M.szx_bad H1.out H2.out h h'
 have KP : Hid (hp = false → M.tz (M.lz (u ++ v)) ≠ [] → M.few (M.tz (M.lz (u ++ v))) → M.szx l = some (M.vsa 0 (M.tz (M.lz (u ++ v))), ((M.lz (u ++ v)).length : Int) - (M.tz (M.lz (u ++ v))).length - v.length)) := fun e h h' => M.szx_plain (by rw [← e]; exact H1.out) H2.out h h'
 have KO : Hid (hp = true → M.tz (M.lz (u ++ v)) ≠ [] → M.few (M.tz (M.lz (u ++ v))) → ∀ z, Lib.atoiAll y = .ok z → M.szx l = some (M.vsa 0 (M.tz (M.lz (u ++ v))), IntKind.i64.wrap (((M.lz (u ++ v)).length : Int) - (M.tz (M.lz (u ++ v))).length - v.length + z))) := fun e h h' z hz => M.szx_pow (by rw [← e]; exact H1.out) H2.out h h' hz
 have KF : Hid (hp = true → M.tz (M.lz (u ++ v)) ≠ [] → M.few (M.tz (M.lz (u ++ v))) → (∀ z, Lib.atoiAll y ≠ .ok z) → M.szx l = none) := fun e h h' hz => M.szx_far (by rw [← e]; exact H1.out) H2.out h h' hz
 have CL : Hid (∀ W X, Tx X (u ++ v) → Calls Tryz.prog 134 #[.string X, .string ⟨#[48]⟩] W (fun e w' => ∃ t, e = .returned (.string t) ∧ Tx t (M.lz (u ++ v)) ∧ W = w')) := fun W X tX => trl_any W X _ tX
 have CR : Hid (∀ W X, Tx X (M.lz (u ++ v)) → Calls Tryz.prog 135 #[.string X, .string ⟨#[48]⟩] W (fun e w' => ∃ t, e = .returned (.string t) ∧ Tx t (M.tz (M.lz (u ++ v))) ∧ W = w')) := fun W X tX => trr_any W X _ tX (by rw [tX.size]; omega)
 generalize M.tz (M.lz (u ++ v)) = dl at *
 generalize M.lz (u ++ v) = al at *
 generalize u ++ v = uv at *
 clear H1 H2 hs
 have EB' := Lib.hid EB
 clear EB
 go_enter Tryz.func72, Tryz.ntmps72
 go_upto_region 1 with fail
 obtain ⟨V, hV⟩ : ∃ V, w.alloc (.cells #[.bool false, .slice none 0 0, .int .i64 0] 44) = V := ⟨_, rfl⟩
 have R : Ob V w.heap.size 44 #[.bool false, .slice none 0 0, .int .i64 0] := by rw [← hV]; exact Ob.mk_ _ _ _
 have U : Up w V := by rw [← hV]; exact (Up.refl _).alloc _
 rw [hV]
 clear hV
 go_wp2_with fail
 refine (C1.out _).mono ?_
 rintro _ W1 ⟨X, Y, rfl, tX, tY, u1⟩
 replace U := Up.trans (by first | exact U | exact U.drew) u1
 replace R := R.up u1
 have HY := Lib.hid tY
 clear u1 C1 tY
 go_wp2_with fail
 refine (C2.out _ X tX).mono ?_
 rintro _ W2 ⟨A, B, rfl, tA, tB, u2⟩
 replace U := Up.trans (by first | exact U | exact U.drew) u2
 replace R := R.up u2
 have HB := Lib.hid tB
 clear u2 C2 tX
 go_wp2_with fail
 refine (CJ.out _ _ A B tA tB (by first | exact Ob.mk_ W2 _ _ | exact Ob.mk_ W2.drew _ _)).mono ?_
 rintro _ W3 ⟨J, rfl, tJ, u3⟩
 have v3 : Up W2 W3 := Up.trans (by repeat (first | exact Up.refl _ | refine Up.drew ?_ | refine Up.drewN ?_ _ | refine Up.alloc ?_ _)) u3
 replace U := U.trans v3
 replace R := R.up v3
 clear u3 v3 CJ tA tB
 go_wp2_with fail
 refine (CL.out _ J tJ).mono ?_
 rintro _ W4 ⟨L, rfl, tL, hw4⟩
 replace U : Up w W4 := by rw [← hw4]; first | exact U | exact U.drew
 replace R : Ob W4 w.heap.size 44 #[.bool false, .slice none 0 0, .int .i64 0] := by rw [← hw4]; exact R
 clear hw4 CL tJ
 go_wp2_with fail
 refine (CR.out _ L tL).mono ?_
 rintro _ W5 ⟨D, rfl, tD, hw5⟩
 replace U : Up w W5 := by rw [← hw5]; first | exact U | exact U.drew
 replace R : Ob W5 w.heap.size 44 #[.bool false, .slice none 0 0, .int .i64 0] := by rw [← hw5]; exact R
 clear hw5 CR
 have HL := Lib.hid tL
 have HT := Lib.hid tD
 clear tL tD
 rcases HD.out with e0 | ⟨e0, e1⟩
 ·have eD : D.toList.isEmpty = true := by
   rw [Lib.toList_data, show D.data.toList = dl from HT.out, e0]
   rfl
  have KK := Lib.hid (KD.out e0)
  clear KD KB KP KO KF HD e0
  go_upto_region 6 with fail
  go_wp2_with (refine store_ob2 rfl 44 (.tmp 2) (.tmp 37) rfl _ #[.bool false, .slice none 0 0, .int .i64 0] #[.bool false, .slice none 0 0, .int .i64 0] rfl rfl 3 (by kernel_rfl) rfl rfl (by simp [Value.oneCell']) w U (Nat.le_refl _) 44 R ?_; clear U; intro V9 Z9 U ho)
  obtain ⟨z0, z1, z2⟩ := Z9.g3
  refine bodyPost_ret (v := dv false (.slice none 0 0) 0) (by simp [results, Tryz.results72, go_sem, z0, z1, z2]) rfl ?_
  exact .inl ⟨0, 0, none, 0, 0, KK.out, rfl, Nt.nil _ _ _, U⟩
 ·have eD : D.toList.isEmpty = false := by
   rw [Lib.toList_data, show D.data.toList = dl from HT.out]
   cases dl with
   | nil => exact absurd rfl e0
   | cons _ _ => rfl
  obtain ⟨ok, hok⟩ : ∃ ok, decide (M.few dl) = ok := ⟨_, rfl⟩
  have CP := Lib.hid (nparse_any W5 (EB'.out.syn.up U) D dl HT.out e0 e1 ok (Lib.hid hok))
  have HE0 := Lib.hid e0
  clear KD HD e0 e1
  cases ok with
  | false =>
   have KK := Lib.hid (KB.out HE0.out (of_decide_eq_false hok))
   clear KB KP KO KF hok
   go_wp2_with fail
   refine CP.out.mono ?_
   rintro _ W6 ⟨vv, rfl, N6, u6⟩
   replace U := U.trans u6
   clear CP R u6
   go_wp2_with fail
   refine (lmust_bad _).mono ?_
   rintro _ W7 ⟨rfl, u7⟩
   exact ⟨rfl, .inr ⟨KK.out, rfl, Up.trans (by first | exact U | exact U.drew) u7⟩⟩
  | true =>
   have hfew : M.few dl := of_decide_eq_true hok
   have HV := Lib.hid (Nat.lt_trans (M.vsa_lt _ hfew.1) (M.ten_gap _ hfew.2))
   simp only [if_true] at CP
   have HFW := Lib.hid hfew
   clear KB hok hfew
   go_wp2_with fail
   refine CP.out.mono ?_
   rintro _ W6 ⟨vv, rfl, N6, u6⟩
   have g6 : w.heap.size < W5.heap.size := R.lt
   replace U := U.trans u6
   replace R := R.up u6
   obtain ⟨A6, n6, c6, ys6, rfl, N6'⟩ := N6
   replace N6 : Nt W6 _ 2001 (.slice A6 n6 c6) (M.vsa 0 dl) := ⟨_, _, _, _, rfl, N6'⟩
   replace N6 := (N6.lower (lo' := W5.heap.size) (Nat.le_refl _)).fit HV.out
   clear HV
   clear N6' CP u6
   go_wp2_with fail
   refine (lmust_ok _).mono ?_
   rintro _ _ ⟨rfl, rfl⟩
   have bL := HL.out.size
   have bD := HT.out.size
   have bB := HB.out.size
   obtain ⟨k0, hk0⟩ : ∃ k0 : Int, (L.size : Int) - D.size - B.size = k0 := ⟨_, rfl⟩
   have hk1 : -10000 ≤ k0 ∧ k0 ≤ 10000 := by omega
   obtain ⟨hk2, hk3⟩ := hk1
   have HK : Hid ((al.length : Int) - dl.length - v.length = k0) := by show _ = _; omega
   have i1 : L.size ≤ 3000 := by omega
   have i2 : D.size ≤ 3000 := by omega
   have i3 : B.size ≤ 3000 := by omega
   clear bL bD bB
   cases hp with
   | false =>
    have KK := Lib.hid (KP.out rfl HE0.out HFW.out)
    rw [HK.out] at KK
    clear KP KO KF
    go_upto_region 14 with fail
    go_wp2_with (refine store_ob2 rfl 44 (.tmp 2) (.tmp 67) rfl _ #[.bool false, .slice none 0 0, .int .i64 0] #[.bool false, .slice A6 n6 c6, .int .i64 k0] rfl rfl 3 (by kernel_rfl) rfl rfl (by simp [Value.oneCell']) w U (Nat.le_refl _) 44 R ?_; clear U; intro V9 Z9 U ho)
    obtain ⟨z0, z1, z2⟩ := Z9.g3
    refine bodyPost_ret (v := dv false (.slice A6 n6 c6) k0) (by simp [results, Tryz.results72, go_sem, z0, z1, z2]) rfl ?_
    exact .inl ⟨_, _, _, _, _, KK.out, rfl, (N6.other ho g6).lower (Nat.le_of_lt g6), U⟩
   | true =>
    have CA := Lib.hid (fun W (u : Up w W) => atoi_any W (EB'.out.up u) Y y HY.out (by omega))
    have KK := Lib.hid (KO.out rfl HE0.out HFW.out)
    have KL := Lib.hid (KF.out rfl HE0.out HFW.out)
    clear KP KO KF
    go_wp2_with fail
    refine (CA.out _ (by first | exact U | exact U.drew)).mono ?_
    rintro _ W8 (⟨z, hz, rfl, u8⟩ | ⟨hz, z, ty, pp, zb, rfl, u8⟩)
    ·have KM := KK.out z hz
     rw [HK.out] at KM
     obtain ⟨kk, hkk⟩ : ∃ kk, IntKind.i64.wrap (k0 + z) = kk := ⟨_, rfl⟩
     rw [hkk] at KM
     have KN := Lib.hid KM
     have v8 : Up W6 W8 := Up.trans (by repeat (first | exact Up.refl _ | refine Up.drew ?_ | refine Up.drewN ?_ _ | refine Up.alloc ?_ _)) u8
     replace U := U.trans v8
     replace R := R.up v8
     replace N6 := N6.up v8
     clear KM hz KK KL CA u8 v8
     go_wp2_with fail
     refine (lmust_ok _).mono ?_
     rintro _ _ ⟨rfl, rfl⟩
     go_upto_region 14 with fail
     go_wp2_with (refine store_ob2 rfl 44 (.tmp 2) (.tmp 67) rfl _ #[.bool false, .slice none 0 0, .int .i64 0] #[.bool false, .slice A6 n6 c6, .int .i64 kk] rfl rfl 3 (by kernel_rfl) rfl rfl (by simp [Value.oneCell']) w U (Nat.le_refl _) 44 R ?_; clear U; intro V9 Z9 U ho)
     obtain ⟨z0, z1, z2⟩ := Z9.g3
     refine bodyPost_ret (v := dv false (.slice A6 n6 c6) kk) (by simp [results, Tryz.results72, go_sem, z0, z1, z2]) rfl ?_
     exact .inl ⟨_, _, _, _, _, KN.out, rfl, (N6.other ho g6).lower (Nat.le_of_lt g6), U⟩
    ·have KM := Lib.hid (KL.out hz)
     have v8 : Up W6 W8 := Up.trans (by repeat (first | exact Up.refl _ | refine Up.drew ?_ | refine Up.drewN ?_ _ | refine Up.alloc ?_ _)) u8
     replace U := U.trans v8
     clear hz KK KL CA u8 v8
     go_wp2_with fail
     refine (lmust_bad _).mono ?_
     rintro _ W9 ⟨rfl, u9⟩
     exact ⟨rfl, .inr ⟨KM.out, rfl, Up.trans (by first | exact U | exact U.drew) u9⟩⟩
end Go.Proofs.YtcmlanfgafancaaGreatDoor
namespace Go.Proofs.YtcmlanfgafancaaGreatDoor
open Go.RowKit Go.Shelf
def Dgo (l : List UInt8) (w : World) (e : Ending) (w' : World) : Prop :=
 (∃ ng a k A n c, M.rtn a k ∧ M.ly ng a k = l ∧ e = .returned (dv ng (.slice A n c) k) ∧ Nt w' w.heap.size 128 (.slice A n c) a ∧ Up w w') ∨ ((∀ ng a k, M.rtn a k → M.ly ng a k ≠ l) ∧ Pnl w e w')
theorem M.ly_only {l : List UInt8} {ng : Bool} {a : Nat} {k : Int} (h : M.rtn a k) (e : M.ly ng a k = l) : Lib.hasPrefix l [45] = ng ∧ M.szx (Lib.trimPrefix l [45]) = some (a, k) := by
 subst e
 refine M.ly_back ng a k ?_
 rcases h with h | ⟨h1, h2, h3, h4⟩
 ·exact .inl h
 ·exact .inr ⟨h1, h4, h3, h2.1, h2.2⟩
theorem M.trim_len (l p : List UInt8) : (Lib.trimPrefix l p).length ≤ l.length := by
 unfold Lib.trimPrefix
 split
 ·rw [List.length_drop]; omega
 ·exact Nat.le_refl _
theorem cutp_any (w : World) (s : ByteArray) (l : List UInt8) (hs : Tx s l) : Calls Tryz.prog 71 #[.string s, .string ⟨#[45]⟩] w (fun e w' => ∃ t, e = .returned (.tuple #[.string t, .bool (Lib.hasPrefix l [45])]) ∧ Tx t (Lib.trimPrefix l [45]) ∧ w = w') := by
 refine (Tryz.strings_CutPrefix s ⟨#[45]⟩ w).mono ?_
 rintro _ _ ⟨rfl, rfl⟩
 rw [show s.data.toList = l from hs, show (⟨#[45]⟩ : ByteArray).data.toList = [45] from rfl]
 exact ⟨_, rfl, Tx.lit _, rfl⟩
set_option maxRecDepth 100000 in
theorem digitsOf_any (w : World) (TW : TabW w) (EB : ErrB w) (s : ByteArray) (l : List UInt8) (hs : Tx s l) (hl : l.length ≤ 3000) :
  Calls Tryz.prog 36 #[.string s] w (Dgo l w) := by
 have hone := Lib.hid (fun ng a k (h : M.rtn a k) (e : M.ly ng a k = l) => M.ly_only h e)
 have htl := M.trim_len l [45]
 have CC := Lib.hid (fun W => cutp_any W s l hs)
 have TWh := Lib.hid TW
 have EBh := Lib.hid EB
 have HS := Lib.hid hs
 obtain ⟨ng, hng⟩ : ∃ ng, Lib.hasPrefix l [45] = ng := ⟨_, rfl⟩
 have CS := Lib.hid (fun W (u : Up w W) X (tX : Tx X (Lib.trimPrefix l [45])) => sizeOf_any W (EB.up u) X _ tX (by omega))
 rw [hng] at hone CC
 generalize Lib.trimPrefix l [45] = tl at *
 clear TW EB hs hng
 go_enter Tryz.func36, Tryz.ntmps36
 go_upto_region 1 with fail
 obtain ⟨V, hV⟩ : ∃ V, w.alloc (.cells #[.bool false, .slice none 0 0, .int .i64 0] 44) = V := ⟨_, rfl⟩
 have R : Ob V w.heap.size 44 #[.bool false, .slice none 0 0, .int .i64 0] := by rw [← hV]; exact Ob.mk_ _ _ _
 have U : Up w V := by rw [← hV]; exact (Up.refl _).alloc _
 rw [hV]
 clear hV
 go_wp2_with fail
 refine (CC.out _).mono ?_
 rintro _ W0 ⟨X, rfl, tX, hw0⟩
 replace U : Up w W0 := by rw [← hw0]; first | exact U | exact U.drew
 replace R : Ob W0 w.heap.size 44 #[.bool false, .slice none 0 0, .int .i64 0] := by rw [← hw0]; exact R
 clear hw0 CC
 go_wp2_with fail
 refine (CS.out _ (by first | exact U | exact U.drew) X tX).mono ?_
 rintro _ W1 (⟨a, k, A, n, c, hz, rfl, N1, u1⟩ | ⟨hz, rfl, u1⟩)
 ·have g0 : w.heap.size < W0.heap.size := R.lt
  replace N1 := N1.lower (lo' := W0.heap.size) (by first | exact Nat.le_refl _ | (show W0.heap.size ≤ W0.drew.heap.size; exact Nat.le_refl _))
  replace U := Up.trans (by first | exact U | exact U.drew) u1
  replace R := R.up u1
  have HZ := Lib.hid hz
  clear u1 hz CS tX
  go_upto_region 3 with (refine store_ob rfl 44 (.tmp 5) (.tmp 12) rfl _ #[.bool false, .slice none 0 0, .int .i64 0] #[.bool false, .slice A n c, .int .i64 k] rfl rfl 3 (by kernel_rfl) rfl rfl (by simp [Value.oneCell']) W1 ((Up.refl _).alloc _) (Nat.le_refl _) 44 (Ob.mk_ _ _ _) ?_; intro V2 X2 q2)
  have gx : w.heap.size < W1.heap.size := R.lt
  obtain ⟨ga, hga⟩ : ∃ g, W1.heap.size = g := ⟨_, rfl⟩
  obtain ⟨x0, x1, x2⟩ := X2.g3
  have xf0 := X2.fr 0
  rw [hga] at x0 x1 x2 xf0 X2 gx ⊢
  replace R := R.up q2
  go_upto_region 4 with fail
  have oV : ∀ b', b' ≠ ga → (V2.setCell ⟨ga, 0, none⟩ (.bool ng)).heap[b']? = V2.heap[b']? := fun b' hne => Below.heap_setCell _ _ _ b' hne
  have X3 : Ob (V2.setCell ⟨ga, 0, none⟩ (.bool ng)) ga 44 #[.bool ng, .slice A n c, .int .i64 k] := X2.put 0 (.bool ng)
  have R3 := R.oth oV (by omega)
  have q3 : Up W1 (V2.setCell ⟨ga, 0, none⟩ (.bool ng)) := q2.setCell (p := ⟨ga, 0, none⟩) (Nat.le_of_eq hga) _
  obtain ⟨V3, hV3⟩ : ∃ V3, V2.setCell ⟨ga, 0, none⟩ (.bool ng) = V3 := ⟨_, rfl⟩
  rw [hV3] at X3 R3 q3 ⊢
  clear hV3 oV X2 R q2 x0 x1 x2 xf0 hga
  have N3 := N1.up q3
  replace U := U.trans q3
  clear N1 q3
  obtain ⟨xs, D3, hv, hn⟩ := (N3.lower (Nat.zero_le _)).dr (by omega)
  obtain ⟨r, hr⟩ : ∃ r, decide (M.rt xs k) = r := ⟨_, rfl⟩
  have CR := Lib.hid (fun W (u : Up V3 W) => lright_any W ng A n c xs k r (TWh.out.up (U.trans u)) (D3.up u) (Lib.hid hr))
  have CL := Lib.hid (fun W (u : Up V3 W) => llayout_any W ng A n c xs k (TWh.out.up (U.trans u)) (D3.up u))
  rw [M.lyr_nrm hn, hv] at CL
  have hr2 : decide (M.rtn a k) = r := by
   rw [← hr, Bool.eq_iff_iff, decide_eq_true_iff, decide_eq_true_iff, ← hv]
   exact ⟨fun h => ⟨hn, h⟩, fun h => h.2⟩
  clear D3 hv hn hr
  obtain ⟨x0, x1, x2⟩ := X3.g3
  cases r with
  | false =>
   have hno : Hid (∀ ng a k, M.rtn a k → M.ly ng a k ≠ l) := fun ng' a' k' h' e' => by
    obtain ⟨e1, e2⟩ := hone.out ng' a' k' h' e'
    rw [HZ.out] at e2
    cases e2
    exact absurd h' (of_decide_eq_false hr2)
   clear CL hone hr2
   go_wp2_with fail
   refine (CR.out _ (by repeat (first | exact Up.refl _ | refine Up.drew ?_ | refine Up.drewN ?_ _))).mono ?_
   rintro _ W5 ⟨rfl, u5⟩
   replace U := U.trans (Up.trans (by repeat (first | exact Up.refl _ | refine Up.drew ?_ | refine Up.drewN ?_ _)) u5)
   clear u5
   go_wp2_with fail
   refine (lmust_bad _).mono ?_
   rintro _ W6 ⟨rfl, u6⟩
   exact ⟨rfl, .inr ⟨hno.out, rfl, Up.trans (by first | exact U | exact U.drew) u6⟩⟩
  | true =>
   have hrt : M.rtn a k := of_decide_eq_true hr2
   have HRT := Lib.hid hrt
   rw [show M.lyn ng a k = M.ly ng a k from if_pos hrt] at CL
   clear hr2 hrt
   go_wp2_with fail
   refine (CR.out _ (by repeat (first | exact Up.refl _ | refine Up.drew ?_ | refine Up.drewN ?_ _))).mono ?_
   rintro _ W5 ⟨rfl, u5⟩
   have v5 : Up V3 W5 := Up.trans (by repeat (first | exact Up.refl _ | refine Up.drew ?_ | refine Up.drewN ?_ _)) u5
   replace U := U.trans v5
   replace X3 := X3.up v5
   replace R3 := R3.up v5
   replace N3 := N3.up v5
   clear u5 x0 x1 x2 CR
   obtain ⟨x0, x1, x2⟩ := X3.g3
   go_wp2_with fail
   refine (CL.out _ (by first | exact v5 | exact v5.drew)).mono ?_
   rintro _ W6 ⟨T, rfl, tT, u6⟩
   have v6 : Up W5 W6 := Up.trans (by repeat (first | exact Up.refl _ | refine Up.drew ?_ | refine Up.drewN ?_ _)) u6
   replace U := U.trans v6
   replace X3 := X3.up v6
   replace R3 := R3.up v6
   replace N3 := N3.up v6
   clear u6 x0 x1 x2 CL v5 v6
   obtain ⟨x0, x1, x2⟩ := X3.g3
   have HT := Lib.hid tT
   clear tT
   have hb : (T.toList == s.toList) = decide (M.ly ng a k = l) := by
    rw [Lib.toList_data, Lib.toList_data, show T.data.toList = M.ly ng a k from HT.out, show s.data.toList = l from HS.out, Bool.eq_iff_iff, beq_iff_eq, decide_eq_true_iff]
   by_cases he : M.ly ng a k = l
   ·rw [decide_eq_true he] at hb
    have HE := Lib.hid he
    clear he
    go_wp2_with fail
    refine (lmust_ok _).mono ?_
    rintro _ _ ⟨rfl, rfl⟩
    go_wp2_with (refine store_ob2 rfl 44 (.tmp 2) (.tmp 24) rfl _ #[.bool false, .slice none 0 0, .int .i64 0] #[.bool ng, .slice A n c, .int .i64 k] rfl rfl 3 (by kernel_rfl) rfl rfl (by simp [Value.oneCell']) w U (Nat.le_refl _) 44 R3 ?_; intro V9 Z9 U9 ho)
    obtain ⟨z0, z1, z2⟩ := Z9.g3
    refine bodyPost_ret (v := dv ng (.slice A n c) k) (by simp [results, Tryz.results36, go_sem, z0, z1, z2]) rfl ?_
    exact .inl ⟨ng, a, k, A, n, c, HRT.out, HE.out, rfl, (N3.other ho g0).lower (Nat.le_of_lt g0), U9⟩
   ·have hno : Hid (∀ ng a k, M.rtn a k → M.ly ng a k ≠ l) := fun ng' a' k' h' e' => by
     obtain ⟨e1, e2⟩ := hone.out ng' a' k' h' e'
     rw [HZ.out] at e2
     cases e2
     rw [e1] at he
     exact he e'
    rw [decide_eq_false he] at hb
    clear hone he
    go_wp2_with fail
    refine (lmust_bad _).mono ?_
    rintro _ W9 ⟨rfl, u9⟩
    exact ⟨rfl, .inr ⟨hno.out, rfl, Up.trans (by first | exact U | exact U.drew) u9⟩⟩
 ·have hno : Hid (∀ ng a k, M.rtn a k → M.ly ng a k ≠ l) := fun ng' a' k' h' e' => by
   obtain ⟨e1, e2⟩ := hone.out ng' a' k' h' e'
   rw [hz] at e2
   cases e2
  exact ⟨rfl, .inr ⟨hno.out, rfl, Up.trans (by first | exact U | exact U.drew) u1⟩⟩
end Go.Proofs.YtcmlanfgafancaaGreatDoor
