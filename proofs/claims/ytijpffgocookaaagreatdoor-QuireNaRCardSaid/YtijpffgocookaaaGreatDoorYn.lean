/-
  QuireNaR: its walk.
-/
import Derived.Test.YtijpffgocookaaaGreatDoorYf
import Derived.Deep.RegionHeld3
import Derived.Deep.DeepCutAuto
namespace Go.Proofs.YtijpffgocookaaaGreatDoor
open Go.RowKit Go.Shelf
set_option linter.unusedVariables false
set_option linter.unusedSimpArgs false

section
variable {Is : Nat → Nat → Nat → Thg}
set_option maxHeartbeats 4000000 in
set_option maxRecDepth 100000 in
theorem qnar_walk (Q : Qui Is) (w : World) (TT : Hid (Tz w)) (TF : Hid (TabF w)) (x0 : Int) (_wx0 : (Lit.int .i64 x0).wf = true) (A : Option Addr) (n c : Nat) (K : Nat → Int) (P R : Nat → Nat) (h : Stps w A n c K P R) : Calls Tryz.prog 6 #[.int .i64 x0, .slice A n c] w (True15 w) := by
  have CH := Lib.hid (fun W (u : Up w W) => shown15_any Q W (Lib.hid (TT.out.up u)) (Lib.hid (TF.out.up u)))
  have U := Up.refl w
  have hnc := h.len
  have HS := Lib.hid h.at_
  clear h
  obtain ⟨m, hm, m3⟩ := and_3 x0
  rcases (show m = 0 ∨ m = 1 ∨ m = 2 ∨ m = 3 by omega) with rfl | rfl | rfl | rfl
  · have HQ := Lib.hid (M.nar_q (i := 1) (by decide) (by decide))
    rw [show 2 ^ ((M.tb 1).W.toNat - 1) = 128 by decide] at HQ
    have HZ := Lib.hid (M.qp_zero (i := 1) (by decide) (by decide))
    have HP : Hid (M.Qp 1 (M.qn 1) 128) := Lib.hid M.qp_nar
    have HN : Hid (¬ 0 = M.qn 1) := Lib.hid (show ¬ 0 = M.qn 1 by have := M.qn_pos 1; omega)
    go_enter Tryz.func6, Tryz.ntmps6
    go_wp2_with fail
    refine (CH.out _ (by first | exact U | exact U.drew | exact U.drewN _)).mono ?_
    rintro _ w1 ⟨rfl, h1⟩
    replace U := Up.trans (by first | exact U | exact U.drew | exact U.drewN _) h1
    have S := Sd3.start U
    clear CH h1 U
    go_wp2_with fail
    refine (Q.fresh_ TF.out (by first | exact S | exact S.pure ((Up.refl _).drew) | exact S.pure ((Up.refl _).drewN _)) (i := 1) (by decide) (by decide)).mono ?_
    clear S
    rintro _ w2 ⟨p1, rfl, S⟩
    go_wp2_with fail
    refine (Q.add_ TT.out TF.out (by first | exact S | exact S.pure ((Up.refl _).drew) | exact S.pure ((Up.refl _).drewN _)) 128 0 (by decide) (by decide) _ _ HQ.out).mono ?_
    clear S
    rintro _ w3 ⟨rfl, S⟩
    rw [M.qst_none] at S
    go_wp2_with fail
    go_loopw [9] (fun iv wr => ∃ j : Nat, iv = .int .i64 (j : Int) ∧ j ≤ n ∧ j ≤ 50 ∧ Sd3 w wr (Is p1 1 (M.qn 1)) Non Non) (fun iv _ => n - (intOf iv).toNat)
    case atStart => exact ⟨0, rfl, Nat.zero_le _, Nat.zero_le _, (by first | exact S | exact S.pure ((Up.refl _).drew) | exact S.pure ((Up.refl _).drewN _))⟩
    case round =>
      clear S
      obtain ⟨j, rfl, hj, hj5, S⟩ := hrel
      by_cases hjn : j < n ∧ j < 50
      · obtain ⟨jn, j5⟩ := hjn
        have e1 : (j : Int) < (n : Int) := by omega
        have e3 : (j : Int) < 50 := by omega
        obtain ⟨b, o, rfl, hc⟩ := HS.out (by omega)
        obtain ⟨hc0, hc1, hc2, hP, hR⟩ := hc j jn
        obtain ⟨k, hk⟩ : ∃ k, K j = k := ⟨_, rfl⟩
        obtain ⟨a, ha⟩ : ∃ a, P j = a := ⟨_, rfl⟩
        obtain ⟨d, hd⟩ : ∃ d, R j = d := ⟨_, rfl⟩
        rw [hk] at hc0
        rw [ha] at hc1 hP
        rw [hd] at hc2 hR
        obtain ⟨oo, y, hq⟩ := M.qa_ex (i := 1) (by decide) (by decide) a d
        have HA := Lib.hid hq
        clear hq hk ha hd hc HS HQ HZ
        have f0 := cell_up S.up hc0
        have f1 := cell_up S.up hc1
        have f2 := cell_up S.up hc2
        rcases (show k = 0 ∨ k = 1 ∨ k = 2 ∨ k = 3 ∨ k = 4 ∨ k = 5 ∨ k = 6 ∨ (k ≠ 0 ∧ k ≠ 1 ∧ k ≠ 2 ∧ k ≠ 3 ∧ k ≠ 4 ∧ k ≠ 5 ∧ k ≠ 6) by omega) with rfl | rfl | rfl | rfl | rfl | rfl | rfl | ⟨k0, k1, k2, k3, k4, k5, k6⟩
        · go_wp2_with fail
          go_region_held3 (fun w' => w'.cell? ⟨b, o + j * 8 + 1, none⟩ = some (.int .u64 (a : Int)) ∧ w'.cell? ⟨b, o + j * 8 + 2, none⟩ = some (.int .u64 (d : Int))) (go_keep) (first
            | (go_at_call 16; (with_reducible refine (Q.add_ TT.out TF.out (by first | exact S | exact S.pure ((Up.refl _).drew) | exact S.pure ((Up.refl _).drewN _)) a d hP hR _ _ HA.out).mono ?_); rintro _ w4 ⟨rfl, S⟩; have g1 := cell_up S.up hc1; have g2 := cell_up S.up hc2))
          rw [M.qst_nar] at S
          go_wp2_with fail
          refine (Q.nar_ TT.out TF.out (by first | exact S | exact S.pure ((Up.refl _).drew) | exact S.pure ((Up.refl _).drewN _)) true (decide_eq_true rfl)).mono ?_
          clear S
          rintro _ w5 ⟨rfl, S⟩
          go_wp2_with fail
          refine (Q.posit_ TT.out TF.out (by first | exact S | exact S.pure ((Up.refl _).drew) | exact S.pure ((Up.refl _).drewN _)) _ HP.out).mono ?_
          clear S
          rintro _ w6 ⟨rfl, S⟩
          go_wp2_with fail
          go_roundw
          case rel => exact ⟨j + 1, by go_num, by omega, by omega, (by first | exact S | exact S.pure ((Up.refl _).drew) | exact S.pure ((Up.refl _).drewN _))⟩
          case measure => simp [intOf]; omega
        · go_wp2_with fail
          go_region_held3 (fun w' => w'.cell? ⟨b, o + j * 8 + 1, none⟩ = some (.int .u64 (a : Int)) ∧ w'.cell? ⟨b, o + j * 8 + 2, none⟩ = some (.int .u64 (d : Int))) (go_keep) (first
            | (go_at_call 16; (with_reducible refine (Q.add_ TT.out TF.out (by first | exact S | exact S.pure ((Up.refl _).drew) | exact S.pure ((Up.refl _).drewN _)) a d hP hR _ _ HA.out).mono ?_); rintro _ w4 ⟨rfl, S⟩; have g1 := cell_up S.up hc1; have g2 := cell_up S.up hc2))
          rw [M.qst_nar] at S
          go_wp2_with fail
          refine (Q.nar_ TT.out TF.out (by first | exact S | exact S.pure ((Up.refl _).drew) | exact S.pure ((Up.refl _).drewN _)) true (decide_eq_true rfl)).mono ?_
          clear S
          rintro _ w5 ⟨rfl, S⟩
          go_wp2_with fail
          refine (Q.posit_ TT.out TF.out (by first | exact S | exact S.pure ((Up.refl _).drew) | exact S.pure ((Up.refl _).drewN _)) _ HP.out).mono ?_
          clear S
          rintro _ w6 ⟨rfl, S⟩
          go_wp2_with fail
          go_roundw
          case rel => exact ⟨j + 1, by go_num, by omega, by omega, (by first | exact S | exact S.pure ((Up.refl _).drew) | exact S.pure ((Up.refl _).drewN _))⟩
          case measure => simp [intOf]; omega
        · go_wp2_with fail
          go_region_held3 (fun w' => w'.cell? ⟨b, o + j * 8 + 1, none⟩ = some (.int .u64 (a : Int)) ∧ w'.cell? ⟨b, o + j * 8 + 2, none⟩ = some (.int .u64 (d : Int))) (go_keep) (first
            | (go_at_call 16; (with_reducible refine (Q.add_ TT.out TF.out (by first | exact S | exact S.pure ((Up.refl _).drew) | exact S.pure ((Up.refl _).drewN _)) a d hP hR _ _ HA.out).mono ?_); rintro _ w4 ⟨rfl, S⟩; have g1 := cell_up S.up hc1; have g2 := cell_up S.up hc2))
          rw [M.qst_nar] at S
          go_wp2_with fail
          refine (Q.nar_ TT.out TF.out (by first | exact S | exact S.pure ((Up.refl _).drew) | exact S.pure ((Up.refl _).drewN _)) true (decide_eq_true rfl)).mono ?_
          clear S
          rintro _ w5 ⟨rfl, S⟩
          go_wp2_with fail
          refine (Q.posit_ TT.out TF.out (by first | exact S | exact S.pure ((Up.refl _).drew) | exact S.pure ((Up.refl _).drewN _)) _ HP.out).mono ?_
          clear S
          rintro _ w6 ⟨rfl, S⟩
          go_wp2_with fail
          go_roundw
          case rel => exact ⟨j + 1, by go_num, by omega, by omega, (by first | exact S | exact S.pure ((Up.refl _).drew) | exact S.pure ((Up.refl _).drewN _))⟩
          case measure => simp [intOf]; omega
        · go_wp2_with fail
          go_region_held3 (fun w' => w'.cell? ⟨b, o + j * 8 + 1, none⟩ = some (.int .u64 (a : Int)) ∧ w'.cell? ⟨b, o + j * 8 + 2, none⟩ = some (.int .u64 (d : Int))) (go_keep) (first
            | (go_at_call 16; (with_reducible refine (Q.add_ TT.out TF.out (by first | exact S | exact S.pure ((Up.refl _).drew) | exact S.pure ((Up.refl _).drewN _)) a d hP hR _ _ HA.out).mono ?_); rintro _ w4 ⟨rfl, S⟩; have g1 := cell_up S.up hc1; have g2 := cell_up S.up hc2))
          rw [M.qst_nar] at S
          go_wp2_with fail
          refine (Q.nar_ TT.out TF.out (by first | exact S | exact S.pure ((Up.refl _).drew) | exact S.pure ((Up.refl _).drewN _)) true (decide_eq_true rfl)).mono ?_
          clear S
          rintro _ w5 ⟨rfl, S⟩
          go_wp2_with fail
          refine (Q.posit_ TT.out TF.out (by first | exact S | exact S.pure ((Up.refl _).drew) | exact S.pure ((Up.refl _).drewN _)) _ HP.out).mono ?_
          clear S
          rintro _ w6 ⟨rfl, S⟩
          go_wp2_with fail
          go_roundw
          case rel => exact ⟨j + 1, by go_num, by omega, by omega, (by first | exact S | exact S.pure ((Up.refl _).drew) | exact S.pure ((Up.refl _).drewN _))⟩
          case measure => simp [intOf]; omega
        · go_wp2_with fail
          go_region_held3 (fun w' => w'.cell? ⟨b, o + j * 8 + 1, none⟩ = some (.int .u64 (a : Int)) ∧ w'.cell? ⟨b, o + j * 8 + 2, none⟩ = some (.int .u64 (d : Int))) (go_keep) (first
            | (go_at_call 18; (with_reducible refine (Q.sub_ TT.out TF.out (by first | exact S | exact S.pure ((Up.refl _).drew) | exact S.pure ((Up.refl _).drewN _)) a d hP hR _ _ HA.out).mono ?_); rintro _ w4 ⟨rfl, S⟩; have g1 := cell_up S.up hc1; have g2 := cell_up S.up hc2))
          rw [M.qst_nar] at S
          go_wp2_with fail
          refine (Q.nar_ TT.out TF.out (by first | exact S | exact S.pure ((Up.refl _).drew) | exact S.pure ((Up.refl _).drewN _)) true (decide_eq_true rfl)).mono ?_
          clear S
          rintro _ w5 ⟨rfl, S⟩
          go_wp2_with fail
          refine (Q.posit_ TT.out TF.out (by first | exact S | exact S.pure ((Up.refl _).drew) | exact S.pure ((Up.refl _).drewN _)) _ HP.out).mono ?_
          clear S
          rintro _ w6 ⟨rfl, S⟩
          go_wp2_with fail
          go_roundw
          case rel => exact ⟨j + 1, by go_num, by omega, by omega, (by first | exact S | exact S.pure ((Up.refl _).drew) | exact S.pure ((Up.refl _).drewN _))⟩
          case measure => simp [intOf]; omega
        · go_wp2_with fail
          go_region_held3 (fun w' => w'.cell? ⟨b, o + j * 8 + 1, none⟩ = some (.int .u64 (a : Int)) ∧ w'.cell? ⟨b, o + j * 8 + 2, none⟩ = some (.int .u64 (d : Int))) (go_keep) (first
            | (go_at_call 18; (with_reducible refine (Q.sub_ TT.out TF.out (by first | exact S | exact S.pure ((Up.refl _).drew) | exact S.pure ((Up.refl _).drewN _)) a d hP hR _ _ HA.out).mono ?_); rintro _ w4 ⟨rfl, S⟩; have g1 := cell_up S.up hc1; have g2 := cell_up S.up hc2))
          rw [M.qst_nar] at S
          go_wp2_with fail
          refine (Q.nar_ TT.out TF.out (by first | exact S | exact S.pure ((Up.refl _).drew) | exact S.pure ((Up.refl _).drewN _)) true (decide_eq_true rfl)).mono ?_
          clear S
          rintro _ w5 ⟨rfl, S⟩
          go_wp2_with fail
          refine (Q.posit_ TT.out TF.out (by first | exact S | exact S.pure ((Up.refl _).drew) | exact S.pure ((Up.refl _).drewN _)) _ HP.out).mono ?_
          clear S
          rintro _ w6 ⟨rfl, S⟩
          go_wp2_with fail
          go_roundw
          case rel => exact ⟨j + 1, by go_num, by omega, by omega, (by first | exact S | exact S.pure ((Up.refl _).drew) | exact S.pure ((Up.refl _).drewN _))⟩
          case measure => simp [intOf]; omega
        · go_wp2_with fail
          refine (Q.neg_ TT.out TF.out (by first | exact S | exact S.pure ((Up.refl _).drew) | exact S.pure ((Up.refl _).drewN _))).mono ?_
          clear S
          rintro _ w4 ⟨rfl, S⟩
          rw [M.qn_ng (by decide) (by decide)] at S
          go_wp2_with fail
          refine (Q.nar_ TT.out TF.out (by first | exact S | exact S.pure ((Up.refl _).drew) | exact S.pure ((Up.refl _).drewN _)) true (decide_eq_true rfl)).mono ?_
          clear S
          rintro _ w5 ⟨rfl, S⟩
          go_wp2_with fail
          refine (Q.posit_ TT.out TF.out (by first | exact S | exact S.pure ((Up.refl _).drew) | exact S.pure ((Up.refl _).drewN _)) _ HP.out).mono ?_
          clear S
          rintro _ w6 ⟨rfl, S⟩
          go_wp2_with fail
          go_roundw
          case rel => exact ⟨j + 1, by go_num, by omega, by omega, (by first | exact S | exact S.pure ((Up.refl _).drew) | exact S.pure ((Up.refl _).drewN _))⟩
          case measure => simp [intOf]; omega
        · have z0 : (k == 0) = false := by simpa using k0
          have z1 : (k == 1) = false := by simpa using k1
          have z2 : (k == 2) = false := by simpa using k2
          have z3 : (k == 3) = false := by simpa using k3
          have z4 : (k == 4) = false := by simpa using k4
          have z5 : (k == 5) = false := by simpa using k5
          have z6 : (k == 6) = false := by simpa using k6
          clear k0 k1 k2 k3 k4 k5 k6
          go_wp2_with fail
          refine (Q.nar_ TT.out TF.out (by first | exact S | exact S.pure ((Up.refl _).drew) | exact S.pure ((Up.refl _).drewN _)) true (decide_eq_true rfl)).mono ?_
          clear S
          rintro _ w4 ⟨rfl, S⟩
          go_wp2_with fail
          refine (Q.posit_ TT.out TF.out (by first | exact S | exact S.pure ((Up.refl _).drew) | exact S.pure ((Up.refl _).drewN _)) _ HP.out).mono ?_
          clear S
          rintro _ w5 ⟨rfl, S⟩
          go_wp2_with fail
          go_roundw
          case rel => exact ⟨j + 1, by go_num, by omega, by omega, (by first | exact S | exact S.pure ((Up.refl _).drew) | exact S.pure ((Up.refl _).drewN _))⟩
          case measure => simp [intOf]; omega
      · by_cases jn : j < n
        · have j5 : j = 50 := by omega
          subst j5
          clear hjn
          go_wp2_with fail
          refine (Q.clear_ TT.out TF.out (by first | exact S | exact S.pure ((Up.refl _).drew) | exact S.pure ((Up.refl _).drewN _))).mono ?_
          clear S
          rintro _ w24 ⟨rfl, S⟩
          go_wp2_with fail
          refine (Q.nar_ TT.out TF.out (by first | exact S | exact S.pure ((Up.refl _).drew) | exact S.pure ((Up.refl _).drewN _)) false (decide_eq_false HN.out)).mono ?_
          clear S
          rintro _ w25 ⟨rfl, S⟩
          go_wp2_with fail
          refine (Q.posit_ TT.out TF.out (by first | exact S | exact S.pure ((Up.refl _).drew) | exact S.pure ((Up.refl _).drewN _)) _ HZ.out).mono ?_
          clear S
          rintro _ w26 ⟨rfl, S⟩
          go_wp2_with fail
          go_ret
          exact ⟨by first | rfl | simp, by first | exact S.up | exact S.up.drew | exact S.up.drewN _⟩
        · obtain rfl : j = n := by omega
          clear hjn
          go_wp2_with fail
          refine (Q.clear_ TT.out TF.out (by first | exact S | exact S.pure ((Up.refl _).drew) | exact S.pure ((Up.refl _).drewN _))).mono ?_
          clear S
          rintro _ w24 ⟨rfl, S⟩
          go_wp2_with fail
          refine (Q.nar_ TT.out TF.out (by first | exact S | exact S.pure ((Up.refl _).drew) | exact S.pure ((Up.refl _).drewN _)) false (decide_eq_false HN.out)).mono ?_
          clear S
          rintro _ w25 ⟨rfl, S⟩
          go_wp2_with fail
          refine (Q.posit_ TT.out TF.out (by first | exact S | exact S.pure ((Up.refl _).drew) | exact S.pure ((Up.refl _).drewN _)) _ HZ.out).mono ?_
          clear S
          rintro _ w26 ⟨rfl, S⟩
          go_wp2_with fail
          go_ret
          exact ⟨by first | rfl | simp, by first | exact S.up | exact S.up.drew | exact S.up.drewN _⟩
  · have HQ := Lib.hid (M.nar_q (i := 2) (by decide) (by decide))
    rw [show 2 ^ ((M.tb 2).W.toNat - 1) = 32768 by decide] at HQ
    have HZ := Lib.hid (M.qp_zero (i := 2) (by decide) (by decide))
    have HP : Hid (M.Qp 2 (M.qn 2) 32768) := Lib.hid M.qp_nar
    have HN : Hid (¬ 0 = M.qn 2) := Lib.hid (show ¬ 0 = M.qn 2 by have := M.qn_pos 2; omega)
    go_enter Tryz.func6, Tryz.ntmps6
    go_wp2_with fail
    refine (CH.out _ (by first | exact U | exact U.drew | exact U.drewN _)).mono ?_
    rintro _ w1 ⟨rfl, h1⟩
    replace U := Up.trans (by first | exact U | exact U.drew | exact U.drewN _) h1
    have S := Sd3.start U
    clear CH h1 U
    go_wp2_with fail
    refine (Q.fresh_ TF.out (by first | exact S | exact S.pure ((Up.refl _).drew) | exact S.pure ((Up.refl _).drewN _)) (i := 2) (by decide) (by decide)).mono ?_
    clear S
    rintro _ w2 ⟨p1, rfl, S⟩
    go_wp2_with fail
    refine (Q.add_ TT.out TF.out (by first | exact S | exact S.pure ((Up.refl _).drew) | exact S.pure ((Up.refl _).drewN _)) 32768 0 (by decide) (by decide) _ _ HQ.out).mono ?_
    clear S
    rintro _ w3 ⟨rfl, S⟩
    rw [M.qst_none] at S
    go_wp2_with fail
    go_loopw [9] (fun iv wr => ∃ j : Nat, iv = .int .i64 (j : Int) ∧ j ≤ n ∧ j ≤ 50 ∧ Sd3 w wr (Is p1 2 (M.qn 2)) Non Non) (fun iv _ => n - (intOf iv).toNat)
    case atStart => exact ⟨0, rfl, Nat.zero_le _, Nat.zero_le _, (by first | exact S | exact S.pure ((Up.refl _).drew) | exact S.pure ((Up.refl _).drewN _))⟩
    case round =>
      clear S
      obtain ⟨j, rfl, hj, hj5, S⟩ := hrel
      by_cases hjn : j < n ∧ j < 50
      · obtain ⟨jn, j5⟩ := hjn
        have e1 : (j : Int) < (n : Int) := by omega
        have e3 : (j : Int) < 50 := by omega
        obtain ⟨b, o, rfl, hc⟩ := HS.out (by omega)
        obtain ⟨hc0, hc1, hc2, hP, hR⟩ := hc j jn
        obtain ⟨k, hk⟩ : ∃ k, K j = k := ⟨_, rfl⟩
        obtain ⟨a, ha⟩ : ∃ a, P j = a := ⟨_, rfl⟩
        obtain ⟨d, hd⟩ : ∃ d, R j = d := ⟨_, rfl⟩
        rw [hk] at hc0
        rw [ha] at hc1 hP
        rw [hd] at hc2 hR
        obtain ⟨oo, y, hq⟩ := M.qa_ex (i := 2) (by decide) (by decide) a d
        have HA := Lib.hid hq
        clear hq hk ha hd hc HS HQ HZ
        have f0 := cell_up S.up hc0
        have f1 := cell_up S.up hc1
        have f2 := cell_up S.up hc2
        rcases (show k = 0 ∨ k = 1 ∨ k = 2 ∨ k = 3 ∨ k = 4 ∨ k = 5 ∨ k = 6 ∨ (k ≠ 0 ∧ k ≠ 1 ∧ k ≠ 2 ∧ k ≠ 3 ∧ k ≠ 4 ∧ k ≠ 5 ∧ k ≠ 6) by omega) with rfl | rfl | rfl | rfl | rfl | rfl | rfl | ⟨k0, k1, k2, k3, k4, k5, k6⟩
        · go_wp2_with fail
          go_region_held3 (fun w' => w'.cell? ⟨b, o + j * 8 + 1, none⟩ = some (.int .u64 (a : Int)) ∧ w'.cell? ⟨b, o + j * 8 + 2, none⟩ = some (.int .u64 (d : Int))) (go_keep) (first
            | (go_at_call 16; (with_reducible refine (Q.add_ TT.out TF.out (by first | exact S | exact S.pure ((Up.refl _).drew) | exact S.pure ((Up.refl _).drewN _)) a d hP hR _ _ HA.out).mono ?_); rintro _ w4 ⟨rfl, S⟩; have g1 := cell_up S.up hc1; have g2 := cell_up S.up hc2))
          rw [M.qst_nar] at S
          go_wp2_with fail
          refine (Q.nar_ TT.out TF.out (by first | exact S | exact S.pure ((Up.refl _).drew) | exact S.pure ((Up.refl _).drewN _)) true (decide_eq_true rfl)).mono ?_
          clear S
          rintro _ w5 ⟨rfl, S⟩
          go_wp2_with fail
          refine (Q.posit_ TT.out TF.out (by first | exact S | exact S.pure ((Up.refl _).drew) | exact S.pure ((Up.refl _).drewN _)) _ HP.out).mono ?_
          clear S
          rintro _ w6 ⟨rfl, S⟩
          go_wp2_with fail
          go_roundw
          case rel => exact ⟨j + 1, by go_num, by omega, by omega, (by first | exact S | exact S.pure ((Up.refl _).drew) | exact S.pure ((Up.refl _).drewN _))⟩
          case measure => simp [intOf]; omega
        · go_wp2_with fail
          go_region_held3 (fun w' => w'.cell? ⟨b, o + j * 8 + 1, none⟩ = some (.int .u64 (a : Int)) ∧ w'.cell? ⟨b, o + j * 8 + 2, none⟩ = some (.int .u64 (d : Int))) (go_keep) (first
            | (go_at_call 16; (with_reducible refine (Q.add_ TT.out TF.out (by first | exact S | exact S.pure ((Up.refl _).drew) | exact S.pure ((Up.refl _).drewN _)) a d hP hR _ _ HA.out).mono ?_); rintro _ w4 ⟨rfl, S⟩; have g1 := cell_up S.up hc1; have g2 := cell_up S.up hc2))
          rw [M.qst_nar] at S
          go_wp2_with fail
          refine (Q.nar_ TT.out TF.out (by first | exact S | exact S.pure ((Up.refl _).drew) | exact S.pure ((Up.refl _).drewN _)) true (decide_eq_true rfl)).mono ?_
          clear S
          rintro _ w5 ⟨rfl, S⟩
          go_wp2_with fail
          refine (Q.posit_ TT.out TF.out (by first | exact S | exact S.pure ((Up.refl _).drew) | exact S.pure ((Up.refl _).drewN _)) _ HP.out).mono ?_
          clear S
          rintro _ w6 ⟨rfl, S⟩
          go_wp2_with fail
          go_roundw
          case rel => exact ⟨j + 1, by go_num, by omega, by omega, (by first | exact S | exact S.pure ((Up.refl _).drew) | exact S.pure ((Up.refl _).drewN _))⟩
          case measure => simp [intOf]; omega
        · go_wp2_with fail
          go_region_held3 (fun w' => w'.cell? ⟨b, o + j * 8 + 1, none⟩ = some (.int .u64 (a : Int)) ∧ w'.cell? ⟨b, o + j * 8 + 2, none⟩ = some (.int .u64 (d : Int))) (go_keep) (first
            | (go_at_call 16; (with_reducible refine (Q.add_ TT.out TF.out (by first | exact S | exact S.pure ((Up.refl _).drew) | exact S.pure ((Up.refl _).drewN _)) a d hP hR _ _ HA.out).mono ?_); rintro _ w4 ⟨rfl, S⟩; have g1 := cell_up S.up hc1; have g2 := cell_up S.up hc2))
          rw [M.qst_nar] at S
          go_wp2_with fail
          refine (Q.nar_ TT.out TF.out (by first | exact S | exact S.pure ((Up.refl _).drew) | exact S.pure ((Up.refl _).drewN _)) true (decide_eq_true rfl)).mono ?_
          clear S
          rintro _ w5 ⟨rfl, S⟩
          go_wp2_with fail
          refine (Q.posit_ TT.out TF.out (by first | exact S | exact S.pure ((Up.refl _).drew) | exact S.pure ((Up.refl _).drewN _)) _ HP.out).mono ?_
          clear S
          rintro _ w6 ⟨rfl, S⟩
          go_wp2_with fail
          go_roundw
          case rel => exact ⟨j + 1, by go_num, by omega, by omega, (by first | exact S | exact S.pure ((Up.refl _).drew) | exact S.pure ((Up.refl _).drewN _))⟩
          case measure => simp [intOf]; omega
        · go_wp2_with fail
          go_region_held3 (fun w' => w'.cell? ⟨b, o + j * 8 + 1, none⟩ = some (.int .u64 (a : Int)) ∧ w'.cell? ⟨b, o + j * 8 + 2, none⟩ = some (.int .u64 (d : Int))) (go_keep) (first
            | (go_at_call 16; (with_reducible refine (Q.add_ TT.out TF.out (by first | exact S | exact S.pure ((Up.refl _).drew) | exact S.pure ((Up.refl _).drewN _)) a d hP hR _ _ HA.out).mono ?_); rintro _ w4 ⟨rfl, S⟩; have g1 := cell_up S.up hc1; have g2 := cell_up S.up hc2))
          rw [M.qst_nar] at S
          go_wp2_with fail
          refine (Q.nar_ TT.out TF.out (by first | exact S | exact S.pure ((Up.refl _).drew) | exact S.pure ((Up.refl _).drewN _)) true (decide_eq_true rfl)).mono ?_
          clear S
          rintro _ w5 ⟨rfl, S⟩
          go_wp2_with fail
          refine (Q.posit_ TT.out TF.out (by first | exact S | exact S.pure ((Up.refl _).drew) | exact S.pure ((Up.refl _).drewN _)) _ HP.out).mono ?_
          clear S
          rintro _ w6 ⟨rfl, S⟩
          go_wp2_with fail
          go_roundw
          case rel => exact ⟨j + 1, by go_num, by omega, by omega, (by first | exact S | exact S.pure ((Up.refl _).drew) | exact S.pure ((Up.refl _).drewN _))⟩
          case measure => simp [intOf]; omega
        · go_wp2_with fail
          go_region_held3 (fun w' => w'.cell? ⟨b, o + j * 8 + 1, none⟩ = some (.int .u64 (a : Int)) ∧ w'.cell? ⟨b, o + j * 8 + 2, none⟩ = some (.int .u64 (d : Int))) (go_keep) (first
            | (go_at_call 18; (with_reducible refine (Q.sub_ TT.out TF.out (by first | exact S | exact S.pure ((Up.refl _).drew) | exact S.pure ((Up.refl _).drewN _)) a d hP hR _ _ HA.out).mono ?_); rintro _ w4 ⟨rfl, S⟩; have g1 := cell_up S.up hc1; have g2 := cell_up S.up hc2))
          rw [M.qst_nar] at S
          go_wp2_with fail
          refine (Q.nar_ TT.out TF.out (by first | exact S | exact S.pure ((Up.refl _).drew) | exact S.pure ((Up.refl _).drewN _)) true (decide_eq_true rfl)).mono ?_
          clear S
          rintro _ w5 ⟨rfl, S⟩
          go_wp2_with fail
          refine (Q.posit_ TT.out TF.out (by first | exact S | exact S.pure ((Up.refl _).drew) | exact S.pure ((Up.refl _).drewN _)) _ HP.out).mono ?_
          clear S
          rintro _ w6 ⟨rfl, S⟩
          go_wp2_with fail
          go_roundw
          case rel => exact ⟨j + 1, by go_num, by omega, by omega, (by first | exact S | exact S.pure ((Up.refl _).drew) | exact S.pure ((Up.refl _).drewN _))⟩
          case measure => simp [intOf]; omega
        · go_wp2_with fail
          go_region_held3 (fun w' => w'.cell? ⟨b, o + j * 8 + 1, none⟩ = some (.int .u64 (a : Int)) ∧ w'.cell? ⟨b, o + j * 8 + 2, none⟩ = some (.int .u64 (d : Int))) (go_keep) (first
            | (go_at_call 18; (with_reducible refine (Q.sub_ TT.out TF.out (by first | exact S | exact S.pure ((Up.refl _).drew) | exact S.pure ((Up.refl _).drewN _)) a d hP hR _ _ HA.out).mono ?_); rintro _ w4 ⟨rfl, S⟩; have g1 := cell_up S.up hc1; have g2 := cell_up S.up hc2))
          rw [M.qst_nar] at S
          go_wp2_with fail
          refine (Q.nar_ TT.out TF.out (by first | exact S | exact S.pure ((Up.refl _).drew) | exact S.pure ((Up.refl _).drewN _)) true (decide_eq_true rfl)).mono ?_
          clear S
          rintro _ w5 ⟨rfl, S⟩
          go_wp2_with fail
          refine (Q.posit_ TT.out TF.out (by first | exact S | exact S.pure ((Up.refl _).drew) | exact S.pure ((Up.refl _).drewN _)) _ HP.out).mono ?_
          clear S
          rintro _ w6 ⟨rfl, S⟩
          go_wp2_with fail
          go_roundw
          case rel => exact ⟨j + 1, by go_num, by omega, by omega, (by first | exact S | exact S.pure ((Up.refl _).drew) | exact S.pure ((Up.refl _).drewN _))⟩
          case measure => simp [intOf]; omega
        · go_wp2_with fail
          refine (Q.neg_ TT.out TF.out (by first | exact S | exact S.pure ((Up.refl _).drew) | exact S.pure ((Up.refl _).drewN _))).mono ?_
          clear S
          rintro _ w4 ⟨rfl, S⟩
          rw [M.qn_ng (by decide) (by decide)] at S
          go_wp2_with fail
          refine (Q.nar_ TT.out TF.out (by first | exact S | exact S.pure ((Up.refl _).drew) | exact S.pure ((Up.refl _).drewN _)) true (decide_eq_true rfl)).mono ?_
          clear S
          rintro _ w5 ⟨rfl, S⟩
          go_wp2_with fail
          refine (Q.posit_ TT.out TF.out (by first | exact S | exact S.pure ((Up.refl _).drew) | exact S.pure ((Up.refl _).drewN _)) _ HP.out).mono ?_
          clear S
          rintro _ w6 ⟨rfl, S⟩
          go_wp2_with fail
          go_roundw
          case rel => exact ⟨j + 1, by go_num, by omega, by omega, (by first | exact S | exact S.pure ((Up.refl _).drew) | exact S.pure ((Up.refl _).drewN _))⟩
          case measure => simp [intOf]; omega
        · have z0 : (k == 0) = false := by simpa using k0
          have z1 : (k == 1) = false := by simpa using k1
          have z2 : (k == 2) = false := by simpa using k2
          have z3 : (k == 3) = false := by simpa using k3
          have z4 : (k == 4) = false := by simpa using k4
          have z5 : (k == 5) = false := by simpa using k5
          have z6 : (k == 6) = false := by simpa using k6
          clear k0 k1 k2 k3 k4 k5 k6
          go_wp2_with fail
          refine (Q.nar_ TT.out TF.out (by first | exact S | exact S.pure ((Up.refl _).drew) | exact S.pure ((Up.refl _).drewN _)) true (decide_eq_true rfl)).mono ?_
          clear S
          rintro _ w4 ⟨rfl, S⟩
          go_wp2_with fail
          refine (Q.posit_ TT.out TF.out (by first | exact S | exact S.pure ((Up.refl _).drew) | exact S.pure ((Up.refl _).drewN _)) _ HP.out).mono ?_
          clear S
          rintro _ w5 ⟨rfl, S⟩
          go_wp2_with fail
          go_roundw
          case rel => exact ⟨j + 1, by go_num, by omega, by omega, (by first | exact S | exact S.pure ((Up.refl _).drew) | exact S.pure ((Up.refl _).drewN _))⟩
          case measure => simp [intOf]; omega
      · by_cases jn : j < n
        · have j5 : j = 50 := by omega
          subst j5
          clear hjn
          go_wp2_with fail
          refine (Q.clear_ TT.out TF.out (by first | exact S | exact S.pure ((Up.refl _).drew) | exact S.pure ((Up.refl _).drewN _))).mono ?_
          clear S
          rintro _ w24 ⟨rfl, S⟩
          go_wp2_with fail
          refine (Q.nar_ TT.out TF.out (by first | exact S | exact S.pure ((Up.refl _).drew) | exact S.pure ((Up.refl _).drewN _)) false (decide_eq_false HN.out)).mono ?_
          clear S
          rintro _ w25 ⟨rfl, S⟩
          go_wp2_with fail
          refine (Q.posit_ TT.out TF.out (by first | exact S | exact S.pure ((Up.refl _).drew) | exact S.pure ((Up.refl _).drewN _)) _ HZ.out).mono ?_
          clear S
          rintro _ w26 ⟨rfl, S⟩
          go_wp2_with fail
          go_ret
          exact ⟨by first | rfl | simp, by first | exact S.up | exact S.up.drew | exact S.up.drewN _⟩
        · obtain rfl : j = n := by omega
          clear hjn
          go_wp2_with fail
          refine (Q.clear_ TT.out TF.out (by first | exact S | exact S.pure ((Up.refl _).drew) | exact S.pure ((Up.refl _).drewN _))).mono ?_
          clear S
          rintro _ w24 ⟨rfl, S⟩
          go_wp2_with fail
          refine (Q.nar_ TT.out TF.out (by first | exact S | exact S.pure ((Up.refl _).drew) | exact S.pure ((Up.refl _).drewN _)) false (decide_eq_false HN.out)).mono ?_
          clear S
          rintro _ w25 ⟨rfl, S⟩
          go_wp2_with fail
          refine (Q.posit_ TT.out TF.out (by first | exact S | exact S.pure ((Up.refl _).drew) | exact S.pure ((Up.refl _).drewN _)) _ HZ.out).mono ?_
          clear S
          rintro _ w26 ⟨rfl, S⟩
          go_wp2_with fail
          go_ret
          exact ⟨by first | rfl | simp, by first | exact S.up | exact S.up.drew | exact S.up.drewN _⟩
  · have HQ := Lib.hid (M.nar_q (i := 3) (by decide) (by decide))
    rw [show 2 ^ ((M.tb 3).W.toNat - 1) = 2147483648 by decide] at HQ
    have HZ := Lib.hid (M.qp_zero (i := 3) (by decide) (by decide))
    have HP : Hid (M.Qp 3 (M.qn 3) 2147483648) := Lib.hid M.qp_nar
    have HN : Hid (¬ 0 = M.qn 3) := Lib.hid (show ¬ 0 = M.qn 3 by have := M.qn_pos 3; omega)
    go_enter Tryz.func6, Tryz.ntmps6
    go_wp2_with fail
    refine (CH.out _ (by first | exact U | exact U.drew | exact U.drewN _)).mono ?_
    rintro _ w1 ⟨rfl, h1⟩
    replace U := Up.trans (by first | exact U | exact U.drew | exact U.drewN _) h1
    have S := Sd3.start U
    clear CH h1 U
    go_wp2_with fail
    refine (Q.fresh_ TF.out (by first | exact S | exact S.pure ((Up.refl _).drew) | exact S.pure ((Up.refl _).drewN _)) (i := 3) (by decide) (by decide)).mono ?_
    clear S
    rintro _ w2 ⟨p1, rfl, S⟩
    go_wp2_with fail
    refine (Q.add_ TT.out TF.out (by first | exact S | exact S.pure ((Up.refl _).drew) | exact S.pure ((Up.refl _).drewN _)) 2147483648 0 (by decide) (by decide) _ _ HQ.out).mono ?_
    clear S
    rintro _ w3 ⟨rfl, S⟩
    rw [M.qst_none] at S
    go_wp2_with fail
    go_loopw [9] (fun iv wr => ∃ j : Nat, iv = .int .i64 (j : Int) ∧ j ≤ n ∧ j ≤ 50 ∧ Sd3 w wr (Is p1 3 (M.qn 3)) Non Non) (fun iv _ => n - (intOf iv).toNat)
    case atStart => exact ⟨0, rfl, Nat.zero_le _, Nat.zero_le _, (by first | exact S | exact S.pure ((Up.refl _).drew) | exact S.pure ((Up.refl _).drewN _))⟩
    case round =>
      clear S
      obtain ⟨j, rfl, hj, hj5, S⟩ := hrel
      by_cases hjn : j < n ∧ j < 50
      · obtain ⟨jn, j5⟩ := hjn
        have e1 : (j : Int) < (n : Int) := by omega
        have e3 : (j : Int) < 50 := by omega
        obtain ⟨b, o, rfl, hc⟩ := HS.out (by omega)
        obtain ⟨hc0, hc1, hc2, hP, hR⟩ := hc j jn
        obtain ⟨k, hk⟩ : ∃ k, K j = k := ⟨_, rfl⟩
        obtain ⟨a, ha⟩ : ∃ a, P j = a := ⟨_, rfl⟩
        obtain ⟨d, hd⟩ : ∃ d, R j = d := ⟨_, rfl⟩
        rw [hk] at hc0
        rw [ha] at hc1 hP
        rw [hd] at hc2 hR
        obtain ⟨oo, y, hq⟩ := M.qa_ex (i := 3) (by decide) (by decide) a d
        have HA := Lib.hid hq
        clear hq hk ha hd hc HS HQ HZ
        have f0 := cell_up S.up hc0
        have f1 := cell_up S.up hc1
        have f2 := cell_up S.up hc2
        rcases (show k = 0 ∨ k = 1 ∨ k = 2 ∨ k = 3 ∨ k = 4 ∨ k = 5 ∨ k = 6 ∨ (k ≠ 0 ∧ k ≠ 1 ∧ k ≠ 2 ∧ k ≠ 3 ∧ k ≠ 4 ∧ k ≠ 5 ∧ k ≠ 6) by omega) with rfl | rfl | rfl | rfl | rfl | rfl | rfl | ⟨k0, k1, k2, k3, k4, k5, k6⟩
        · go_wp2_with fail
          go_region_held3 (fun w' => w'.cell? ⟨b, o + j * 8 + 1, none⟩ = some (.int .u64 (a : Int)) ∧ w'.cell? ⟨b, o + j * 8 + 2, none⟩ = some (.int .u64 (d : Int))) (go_keep) (first
            | (go_at_call 16; (with_reducible refine (Q.add_ TT.out TF.out (by first | exact S | exact S.pure ((Up.refl _).drew) | exact S.pure ((Up.refl _).drewN _)) a d hP hR _ _ HA.out).mono ?_); rintro _ w4 ⟨rfl, S⟩; have g1 := cell_up S.up hc1; have g2 := cell_up S.up hc2))
          rw [M.qst_nar] at S
          go_wp2_with fail
          refine (Q.nar_ TT.out TF.out (by first | exact S | exact S.pure ((Up.refl _).drew) | exact S.pure ((Up.refl _).drewN _)) true (decide_eq_true rfl)).mono ?_
          clear S
          rintro _ w5 ⟨rfl, S⟩
          go_wp2_with fail
          refine (Q.posit_ TT.out TF.out (by first | exact S | exact S.pure ((Up.refl _).drew) | exact S.pure ((Up.refl _).drewN _)) _ HP.out).mono ?_
          clear S
          rintro _ w6 ⟨rfl, S⟩
          go_wp2_with fail
          go_roundw
          case rel => exact ⟨j + 1, by go_num, by omega, by omega, (by first | exact S | exact S.pure ((Up.refl _).drew) | exact S.pure ((Up.refl _).drewN _))⟩
          case measure => simp [intOf]; omega
        · go_wp2_with fail
          go_region_held3 (fun w' => w'.cell? ⟨b, o + j * 8 + 1, none⟩ = some (.int .u64 (a : Int)) ∧ w'.cell? ⟨b, o + j * 8 + 2, none⟩ = some (.int .u64 (d : Int))) (go_keep) (first
            | (go_at_call 16; (with_reducible refine (Q.add_ TT.out TF.out (by first | exact S | exact S.pure ((Up.refl _).drew) | exact S.pure ((Up.refl _).drewN _)) a d hP hR _ _ HA.out).mono ?_); rintro _ w4 ⟨rfl, S⟩; have g1 := cell_up S.up hc1; have g2 := cell_up S.up hc2))
          rw [M.qst_nar] at S
          go_wp2_with fail
          refine (Q.nar_ TT.out TF.out (by first | exact S | exact S.pure ((Up.refl _).drew) | exact S.pure ((Up.refl _).drewN _)) true (decide_eq_true rfl)).mono ?_
          clear S
          rintro _ w5 ⟨rfl, S⟩
          go_wp2_with fail
          refine (Q.posit_ TT.out TF.out (by first | exact S | exact S.pure ((Up.refl _).drew) | exact S.pure ((Up.refl _).drewN _)) _ HP.out).mono ?_
          clear S
          rintro _ w6 ⟨rfl, S⟩
          go_wp2_with fail
          go_roundw
          case rel => exact ⟨j + 1, by go_num, by omega, by omega, (by first | exact S | exact S.pure ((Up.refl _).drew) | exact S.pure ((Up.refl _).drewN _))⟩
          case measure => simp [intOf]; omega
        · go_wp2_with fail
          go_region_held3 (fun w' => w'.cell? ⟨b, o + j * 8 + 1, none⟩ = some (.int .u64 (a : Int)) ∧ w'.cell? ⟨b, o + j * 8 + 2, none⟩ = some (.int .u64 (d : Int))) (go_keep) (first
            | (go_at_call 16; (with_reducible refine (Q.add_ TT.out TF.out (by first | exact S | exact S.pure ((Up.refl _).drew) | exact S.pure ((Up.refl _).drewN _)) a d hP hR _ _ HA.out).mono ?_); rintro _ w4 ⟨rfl, S⟩; have g1 := cell_up S.up hc1; have g2 := cell_up S.up hc2))
          rw [M.qst_nar] at S
          go_wp2_with fail
          refine (Q.nar_ TT.out TF.out (by first | exact S | exact S.pure ((Up.refl _).drew) | exact S.pure ((Up.refl _).drewN _)) true (decide_eq_true rfl)).mono ?_
          clear S
          rintro _ w5 ⟨rfl, S⟩
          go_wp2_with fail
          refine (Q.posit_ TT.out TF.out (by first | exact S | exact S.pure ((Up.refl _).drew) | exact S.pure ((Up.refl _).drewN _)) _ HP.out).mono ?_
          clear S
          rintro _ w6 ⟨rfl, S⟩
          go_wp2_with fail
          go_roundw
          case rel => exact ⟨j + 1, by go_num, by omega, by omega, (by first | exact S | exact S.pure ((Up.refl _).drew) | exact S.pure ((Up.refl _).drewN _))⟩
          case measure => simp [intOf]; omega
        · go_wp2_with fail
          go_region_held3 (fun w' => w'.cell? ⟨b, o + j * 8 + 1, none⟩ = some (.int .u64 (a : Int)) ∧ w'.cell? ⟨b, o + j * 8 + 2, none⟩ = some (.int .u64 (d : Int))) (go_keep) (first
            | (go_at_call 16; (with_reducible refine (Q.add_ TT.out TF.out (by first | exact S | exact S.pure ((Up.refl _).drew) | exact S.pure ((Up.refl _).drewN _)) a d hP hR _ _ HA.out).mono ?_); rintro _ w4 ⟨rfl, S⟩; have g1 := cell_up S.up hc1; have g2 := cell_up S.up hc2))
          rw [M.qst_nar] at S
          go_wp2_with fail
          refine (Q.nar_ TT.out TF.out (by first | exact S | exact S.pure ((Up.refl _).drew) | exact S.pure ((Up.refl _).drewN _)) true (decide_eq_true rfl)).mono ?_
          clear S
          rintro _ w5 ⟨rfl, S⟩
          go_wp2_with fail
          refine (Q.posit_ TT.out TF.out (by first | exact S | exact S.pure ((Up.refl _).drew) | exact S.pure ((Up.refl _).drewN _)) _ HP.out).mono ?_
          clear S
          rintro _ w6 ⟨rfl, S⟩
          go_wp2_with fail
          go_roundw
          case rel => exact ⟨j + 1, by go_num, by omega, by omega, (by first | exact S | exact S.pure ((Up.refl _).drew) | exact S.pure ((Up.refl _).drewN _))⟩
          case measure => simp [intOf]; omega
        · go_wp2_with fail
          go_region_held3 (fun w' => w'.cell? ⟨b, o + j * 8 + 1, none⟩ = some (.int .u64 (a : Int)) ∧ w'.cell? ⟨b, o + j * 8 + 2, none⟩ = some (.int .u64 (d : Int))) (go_keep) (first
            | (go_at_call 18; (with_reducible refine (Q.sub_ TT.out TF.out (by first | exact S | exact S.pure ((Up.refl _).drew) | exact S.pure ((Up.refl _).drewN _)) a d hP hR _ _ HA.out).mono ?_); rintro _ w4 ⟨rfl, S⟩; have g1 := cell_up S.up hc1; have g2 := cell_up S.up hc2))
          rw [M.qst_nar] at S
          go_wp2_with fail
          refine (Q.nar_ TT.out TF.out (by first | exact S | exact S.pure ((Up.refl _).drew) | exact S.pure ((Up.refl _).drewN _)) true (decide_eq_true rfl)).mono ?_
          clear S
          rintro _ w5 ⟨rfl, S⟩
          go_wp2_with fail
          refine (Q.posit_ TT.out TF.out (by first | exact S | exact S.pure ((Up.refl _).drew) | exact S.pure ((Up.refl _).drewN _)) _ HP.out).mono ?_
          clear S
          rintro _ w6 ⟨rfl, S⟩
          go_wp2_with fail
          go_roundw
          case rel => exact ⟨j + 1, by go_num, by omega, by omega, (by first | exact S | exact S.pure ((Up.refl _).drew) | exact S.pure ((Up.refl _).drewN _))⟩
          case measure => simp [intOf]; omega
        · go_wp2_with fail
          go_region_held3 (fun w' => w'.cell? ⟨b, o + j * 8 + 1, none⟩ = some (.int .u64 (a : Int)) ∧ w'.cell? ⟨b, o + j * 8 + 2, none⟩ = some (.int .u64 (d : Int))) (go_keep) (first
            | (go_at_call 18; (with_reducible refine (Q.sub_ TT.out TF.out (by first | exact S | exact S.pure ((Up.refl _).drew) | exact S.pure ((Up.refl _).drewN _)) a d hP hR _ _ HA.out).mono ?_); rintro _ w4 ⟨rfl, S⟩; have g1 := cell_up S.up hc1; have g2 := cell_up S.up hc2))
          rw [M.qst_nar] at S
          go_wp2_with fail
          refine (Q.nar_ TT.out TF.out (by first | exact S | exact S.pure ((Up.refl _).drew) | exact S.pure ((Up.refl _).drewN _)) true (decide_eq_true rfl)).mono ?_
          clear S
          rintro _ w5 ⟨rfl, S⟩
          go_wp2_with fail
          refine (Q.posit_ TT.out TF.out (by first | exact S | exact S.pure ((Up.refl _).drew) | exact S.pure ((Up.refl _).drewN _)) _ HP.out).mono ?_
          clear S
          rintro _ w6 ⟨rfl, S⟩
          go_wp2_with fail
          go_roundw
          case rel => exact ⟨j + 1, by go_num, by omega, by omega, (by first | exact S | exact S.pure ((Up.refl _).drew) | exact S.pure ((Up.refl _).drewN _))⟩
          case measure => simp [intOf]; omega
        · go_wp2_with fail
          refine (Q.neg_ TT.out TF.out (by first | exact S | exact S.pure ((Up.refl _).drew) | exact S.pure ((Up.refl _).drewN _))).mono ?_
          clear S
          rintro _ w4 ⟨rfl, S⟩
          rw [M.qn_ng (by decide) (by decide)] at S
          go_wp2_with fail
          refine (Q.nar_ TT.out TF.out (by first | exact S | exact S.pure ((Up.refl _).drew) | exact S.pure ((Up.refl _).drewN _)) true (decide_eq_true rfl)).mono ?_
          clear S
          rintro _ w5 ⟨rfl, S⟩
          go_wp2_with fail
          refine (Q.posit_ TT.out TF.out (by first | exact S | exact S.pure ((Up.refl _).drew) | exact S.pure ((Up.refl _).drewN _)) _ HP.out).mono ?_
          clear S
          rintro _ w6 ⟨rfl, S⟩
          go_wp2_with fail
          go_roundw
          case rel => exact ⟨j + 1, by go_num, by omega, by omega, (by first | exact S | exact S.pure ((Up.refl _).drew) | exact S.pure ((Up.refl _).drewN _))⟩
          case measure => simp [intOf]; omega
        · have z0 : (k == 0) = false := by simpa using k0
          have z1 : (k == 1) = false := by simpa using k1
          have z2 : (k == 2) = false := by simpa using k2
          have z3 : (k == 3) = false := by simpa using k3
          have z4 : (k == 4) = false := by simpa using k4
          have z5 : (k == 5) = false := by simpa using k5
          have z6 : (k == 6) = false := by simpa using k6
          clear k0 k1 k2 k3 k4 k5 k6
          go_wp2_with fail
          refine (Q.nar_ TT.out TF.out (by first | exact S | exact S.pure ((Up.refl _).drew) | exact S.pure ((Up.refl _).drewN _)) true (decide_eq_true rfl)).mono ?_
          clear S
          rintro _ w4 ⟨rfl, S⟩
          go_wp2_with fail
          refine (Q.posit_ TT.out TF.out (by first | exact S | exact S.pure ((Up.refl _).drew) | exact S.pure ((Up.refl _).drewN _)) _ HP.out).mono ?_
          clear S
          rintro _ w5 ⟨rfl, S⟩
          go_wp2_with fail
          go_roundw
          case rel => exact ⟨j + 1, by go_num, by omega, by omega, (by first | exact S | exact S.pure ((Up.refl _).drew) | exact S.pure ((Up.refl _).drewN _))⟩
          case measure => simp [intOf]; omega
      · by_cases jn : j < n
        · have j5 : j = 50 := by omega
          subst j5
          clear hjn
          go_wp2_with fail
          refine (Q.clear_ TT.out TF.out (by first | exact S | exact S.pure ((Up.refl _).drew) | exact S.pure ((Up.refl _).drewN _))).mono ?_
          clear S
          rintro _ w24 ⟨rfl, S⟩
          go_wp2_with fail
          refine (Q.nar_ TT.out TF.out (by first | exact S | exact S.pure ((Up.refl _).drew) | exact S.pure ((Up.refl _).drewN _)) false (decide_eq_false HN.out)).mono ?_
          clear S
          rintro _ w25 ⟨rfl, S⟩
          go_wp2_with fail
          refine (Q.posit_ TT.out TF.out (by first | exact S | exact S.pure ((Up.refl _).drew) | exact S.pure ((Up.refl _).drewN _)) _ HZ.out).mono ?_
          clear S
          rintro _ w26 ⟨rfl, S⟩
          go_wp2_with fail
          go_ret
          exact ⟨by first | rfl | simp, by first | exact S.up | exact S.up.drew | exact S.up.drewN _⟩
        · obtain rfl : j = n := by omega
          clear hjn
          go_wp2_with fail
          refine (Q.clear_ TT.out TF.out (by first | exact S | exact S.pure ((Up.refl _).drew) | exact S.pure ((Up.refl _).drewN _))).mono ?_
          clear S
          rintro _ w24 ⟨rfl, S⟩
          go_wp2_with fail
          refine (Q.nar_ TT.out TF.out (by first | exact S | exact S.pure ((Up.refl _).drew) | exact S.pure ((Up.refl _).drewN _)) false (decide_eq_false HN.out)).mono ?_
          clear S
          rintro _ w25 ⟨rfl, S⟩
          go_wp2_with fail
          refine (Q.posit_ TT.out TF.out (by first | exact S | exact S.pure ((Up.refl _).drew) | exact S.pure ((Up.refl _).drewN _)) _ HZ.out).mono ?_
          clear S
          rintro _ w26 ⟨rfl, S⟩
          go_wp2_with fail
          go_ret
          exact ⟨by first | rfl | simp, by first | exact S.up | exact S.up.drew | exact S.up.drewN _⟩
  · have HQ := Lib.hid (M.nar_q (i := 4) (by decide) (by decide))
    rw [show 2 ^ ((M.tb 4).W.toNat - 1) = 9223372036854775808 by decide] at HQ
    have HZ := Lib.hid (M.qp_zero (i := 4) (by decide) (by decide))
    have HP : Hid (M.Qp 4 (M.qn 4) 9223372036854775808) := Lib.hid M.qp_nar
    have HN : Hid (¬ 0 = M.qn 4) := Lib.hid (show ¬ 0 = M.qn 4 by have := M.qn_pos 4; omega)
    go_enter Tryz.func6, Tryz.ntmps6
    go_wp2_with fail
    refine (CH.out _ (by first | exact U | exact U.drew | exact U.drewN _)).mono ?_
    rintro _ w1 ⟨rfl, h1⟩
    replace U := Up.trans (by first | exact U | exact U.drew | exact U.drewN _) h1
    have S := Sd3.start U
    clear CH h1 U
    go_wp2_with fail
    refine (Q.fresh_ TF.out (by first | exact S | exact S.pure ((Up.refl _).drew) | exact S.pure ((Up.refl _).drewN _)) (i := 4) (by decide) (by decide)).mono ?_
    clear S
    rintro _ w2 ⟨p1, rfl, S⟩
    go_wp2_with fail
    refine (Q.add_ TT.out TF.out (by first | exact S | exact S.pure ((Up.refl _).drew) | exact S.pure ((Up.refl _).drewN _)) 9223372036854775808 0 (by decide) (by decide) _ _ HQ.out).mono ?_
    clear S
    rintro _ w3 ⟨rfl, S⟩
    rw [M.qst_none] at S
    go_wp2_with fail
    go_loopw [9] (fun iv wr => ∃ j : Nat, iv = .int .i64 (j : Int) ∧ j ≤ n ∧ j ≤ 50 ∧ Sd3 w wr (Is p1 4 (M.qn 4)) Non Non) (fun iv _ => n - (intOf iv).toNat)
    case atStart => exact ⟨0, rfl, Nat.zero_le _, Nat.zero_le _, (by first | exact S | exact S.pure ((Up.refl _).drew) | exact S.pure ((Up.refl _).drewN _))⟩
    case round =>
      clear S
      obtain ⟨j, rfl, hj, hj5, S⟩ := hrel
      by_cases hjn : j < n ∧ j < 50
      · obtain ⟨jn, j5⟩ := hjn
        have e1 : (j : Int) < (n : Int) := by omega
        have e3 : (j : Int) < 50 := by omega
        obtain ⟨b, o, rfl, hc⟩ := HS.out (by omega)
        obtain ⟨hc0, hc1, hc2, hP, hR⟩ := hc j jn
        obtain ⟨k, hk⟩ : ∃ k, K j = k := ⟨_, rfl⟩
        obtain ⟨a, ha⟩ : ∃ a, P j = a := ⟨_, rfl⟩
        obtain ⟨d, hd⟩ : ∃ d, R j = d := ⟨_, rfl⟩
        rw [hk] at hc0
        rw [ha] at hc1 hP
        rw [hd] at hc2 hR
        obtain ⟨oo, y, hq⟩ := M.qa_ex (i := 4) (by decide) (by decide) a d
        have HA := Lib.hid hq
        clear hq hk ha hd hc HS HQ HZ
        have f0 := cell_up S.up hc0
        have f1 := cell_up S.up hc1
        have f2 := cell_up S.up hc2
        rcases (show k = 0 ∨ k = 1 ∨ k = 2 ∨ k = 3 ∨ k = 4 ∨ k = 5 ∨ k = 6 ∨ (k ≠ 0 ∧ k ≠ 1 ∧ k ≠ 2 ∧ k ≠ 3 ∧ k ≠ 4 ∧ k ≠ 5 ∧ k ≠ 6) by omega) with rfl | rfl | rfl | rfl | rfl | rfl | rfl | ⟨k0, k1, k2, k3, k4, k5, k6⟩
        · go_wp2_with fail
          go_region_held3 (fun w' => w'.cell? ⟨b, o + j * 8 + 1, none⟩ = some (.int .u64 (a : Int)) ∧ w'.cell? ⟨b, o + j * 8 + 2, none⟩ = some (.int .u64 (d : Int))) (go_keep) (first
            | (go_at_call 16; (with_reducible refine (Q.add_ TT.out TF.out (by first | exact S | exact S.pure ((Up.refl _).drew) | exact S.pure ((Up.refl _).drewN _)) a d hP hR _ _ HA.out).mono ?_); rintro _ w4 ⟨rfl, S⟩; have g1 := cell_up S.up hc1; have g2 := cell_up S.up hc2))
          rw [M.qst_nar] at S
          go_wp2_with fail
          refine (Q.nar_ TT.out TF.out (by first | exact S | exact S.pure ((Up.refl _).drew) | exact S.pure ((Up.refl _).drewN _)) true (decide_eq_true rfl)).mono ?_
          clear S
          rintro _ w5 ⟨rfl, S⟩
          go_wp2_with fail
          refine (Q.posit_ TT.out TF.out (by first | exact S | exact S.pure ((Up.refl _).drew) | exact S.pure ((Up.refl _).drewN _)) _ HP.out).mono ?_
          clear S
          rintro _ w6 ⟨rfl, S⟩
          go_wp2_with fail
          go_roundw
          case rel => exact ⟨j + 1, by go_num, by omega, by omega, (by first | exact S | exact S.pure ((Up.refl _).drew) | exact S.pure ((Up.refl _).drewN _))⟩
          case measure => simp [intOf]; omega
        · go_wp2_with fail
          go_region_held3 (fun w' => w'.cell? ⟨b, o + j * 8 + 1, none⟩ = some (.int .u64 (a : Int)) ∧ w'.cell? ⟨b, o + j * 8 + 2, none⟩ = some (.int .u64 (d : Int))) (go_keep) (first
            | (go_at_call 16; (with_reducible refine (Q.add_ TT.out TF.out (by first | exact S | exact S.pure ((Up.refl _).drew) | exact S.pure ((Up.refl _).drewN _)) a d hP hR _ _ HA.out).mono ?_); rintro _ w4 ⟨rfl, S⟩; have g1 := cell_up S.up hc1; have g2 := cell_up S.up hc2))
          rw [M.qst_nar] at S
          go_wp2_with fail
          refine (Q.nar_ TT.out TF.out (by first | exact S | exact S.pure ((Up.refl _).drew) | exact S.pure ((Up.refl _).drewN _)) true (decide_eq_true rfl)).mono ?_
          clear S
          rintro _ w5 ⟨rfl, S⟩
          go_wp2_with fail
          refine (Q.posit_ TT.out TF.out (by first | exact S | exact S.pure ((Up.refl _).drew) | exact S.pure ((Up.refl _).drewN _)) _ HP.out).mono ?_
          clear S
          rintro _ w6 ⟨rfl, S⟩
          go_wp2_with fail
          go_roundw
          case rel => exact ⟨j + 1, by go_num, by omega, by omega, (by first | exact S | exact S.pure ((Up.refl _).drew) | exact S.pure ((Up.refl _).drewN _))⟩
          case measure => simp [intOf]; omega
        · go_wp2_with fail
          go_region_held3 (fun w' => w'.cell? ⟨b, o + j * 8 + 1, none⟩ = some (.int .u64 (a : Int)) ∧ w'.cell? ⟨b, o + j * 8 + 2, none⟩ = some (.int .u64 (d : Int))) (go_keep) (first
            | (go_at_call 16; (with_reducible refine (Q.add_ TT.out TF.out (by first | exact S | exact S.pure ((Up.refl _).drew) | exact S.pure ((Up.refl _).drewN _)) a d hP hR _ _ HA.out).mono ?_); rintro _ w4 ⟨rfl, S⟩; have g1 := cell_up S.up hc1; have g2 := cell_up S.up hc2))
          rw [M.qst_nar] at S
          go_wp2_with fail
          refine (Q.nar_ TT.out TF.out (by first | exact S | exact S.pure ((Up.refl _).drew) | exact S.pure ((Up.refl _).drewN _)) true (decide_eq_true rfl)).mono ?_
          clear S
          rintro _ w5 ⟨rfl, S⟩
          go_wp2_with fail
          refine (Q.posit_ TT.out TF.out (by first | exact S | exact S.pure ((Up.refl _).drew) | exact S.pure ((Up.refl _).drewN _)) _ HP.out).mono ?_
          clear S
          rintro _ w6 ⟨rfl, S⟩
          go_wp2_with fail
          go_roundw
          case rel => exact ⟨j + 1, by go_num, by omega, by omega, (by first | exact S | exact S.pure ((Up.refl _).drew) | exact S.pure ((Up.refl _).drewN _))⟩
          case measure => simp [intOf]; omega
        · go_wp2_with fail
          go_region_held3 (fun w' => w'.cell? ⟨b, o + j * 8 + 1, none⟩ = some (.int .u64 (a : Int)) ∧ w'.cell? ⟨b, o + j * 8 + 2, none⟩ = some (.int .u64 (d : Int))) (go_keep) (first
            | (go_at_call 16; (with_reducible refine (Q.add_ TT.out TF.out (by first | exact S | exact S.pure ((Up.refl _).drew) | exact S.pure ((Up.refl _).drewN _)) a d hP hR _ _ HA.out).mono ?_); rintro _ w4 ⟨rfl, S⟩; have g1 := cell_up S.up hc1; have g2 := cell_up S.up hc2))
          rw [M.qst_nar] at S
          go_wp2_with fail
          refine (Q.nar_ TT.out TF.out (by first | exact S | exact S.pure ((Up.refl _).drew) | exact S.pure ((Up.refl _).drewN _)) true (decide_eq_true rfl)).mono ?_
          clear S
          rintro _ w5 ⟨rfl, S⟩
          go_wp2_with fail
          refine (Q.posit_ TT.out TF.out (by first | exact S | exact S.pure ((Up.refl _).drew) | exact S.pure ((Up.refl _).drewN _)) _ HP.out).mono ?_
          clear S
          rintro _ w6 ⟨rfl, S⟩
          go_wp2_with fail
          go_roundw
          case rel => exact ⟨j + 1, by go_num, by omega, by omega, (by first | exact S | exact S.pure ((Up.refl _).drew) | exact S.pure ((Up.refl _).drewN _))⟩
          case measure => simp [intOf]; omega
        · go_wp2_with fail
          go_region_held3 (fun w' => w'.cell? ⟨b, o + j * 8 + 1, none⟩ = some (.int .u64 (a : Int)) ∧ w'.cell? ⟨b, o + j * 8 + 2, none⟩ = some (.int .u64 (d : Int))) (go_keep) (first
            | (go_at_call 18; (with_reducible refine (Q.sub_ TT.out TF.out (by first | exact S | exact S.pure ((Up.refl _).drew) | exact S.pure ((Up.refl _).drewN _)) a d hP hR _ _ HA.out).mono ?_); rintro _ w4 ⟨rfl, S⟩; have g1 := cell_up S.up hc1; have g2 := cell_up S.up hc2))
          rw [M.qst_nar] at S
          go_wp2_with fail
          refine (Q.nar_ TT.out TF.out (by first | exact S | exact S.pure ((Up.refl _).drew) | exact S.pure ((Up.refl _).drewN _)) true (decide_eq_true rfl)).mono ?_
          clear S
          rintro _ w5 ⟨rfl, S⟩
          go_wp2_with fail
          refine (Q.posit_ TT.out TF.out (by first | exact S | exact S.pure ((Up.refl _).drew) | exact S.pure ((Up.refl _).drewN _)) _ HP.out).mono ?_
          clear S
          rintro _ w6 ⟨rfl, S⟩
          go_wp2_with fail
          go_roundw
          case rel => exact ⟨j + 1, by go_num, by omega, by omega, (by first | exact S | exact S.pure ((Up.refl _).drew) | exact S.pure ((Up.refl _).drewN _))⟩
          case measure => simp [intOf]; omega
        · go_wp2_with fail
          go_region_held3 (fun w' => w'.cell? ⟨b, o + j * 8 + 1, none⟩ = some (.int .u64 (a : Int)) ∧ w'.cell? ⟨b, o + j * 8 + 2, none⟩ = some (.int .u64 (d : Int))) (go_keep) (first
            | (go_at_call 18; (with_reducible refine (Q.sub_ TT.out TF.out (by first | exact S | exact S.pure ((Up.refl _).drew) | exact S.pure ((Up.refl _).drewN _)) a d hP hR _ _ HA.out).mono ?_); rintro _ w4 ⟨rfl, S⟩; have g1 := cell_up S.up hc1; have g2 := cell_up S.up hc2))
          rw [M.qst_nar] at S
          go_wp2_with fail
          refine (Q.nar_ TT.out TF.out (by first | exact S | exact S.pure ((Up.refl _).drew) | exact S.pure ((Up.refl _).drewN _)) true (decide_eq_true rfl)).mono ?_
          clear S
          rintro _ w5 ⟨rfl, S⟩
          go_wp2_with fail
          refine (Q.posit_ TT.out TF.out (by first | exact S | exact S.pure ((Up.refl _).drew) | exact S.pure ((Up.refl _).drewN _)) _ HP.out).mono ?_
          clear S
          rintro _ w6 ⟨rfl, S⟩
          go_wp2_with fail
          go_roundw
          case rel => exact ⟨j + 1, by go_num, by omega, by omega, (by first | exact S | exact S.pure ((Up.refl _).drew) | exact S.pure ((Up.refl _).drewN _))⟩
          case measure => simp [intOf]; omega
        · go_wp2_with fail
          refine (Q.neg_ TT.out TF.out (by first | exact S | exact S.pure ((Up.refl _).drew) | exact S.pure ((Up.refl _).drewN _))).mono ?_
          clear S
          rintro _ w4 ⟨rfl, S⟩
          rw [M.qn_ng (by decide) (by decide)] at S
          go_wp2_with fail
          refine (Q.nar_ TT.out TF.out (by first | exact S | exact S.pure ((Up.refl _).drew) | exact S.pure ((Up.refl _).drewN _)) true (decide_eq_true rfl)).mono ?_
          clear S
          rintro _ w5 ⟨rfl, S⟩
          go_wp2_with fail
          refine (Q.posit_ TT.out TF.out (by first | exact S | exact S.pure ((Up.refl _).drew) | exact S.pure ((Up.refl _).drewN _)) _ HP.out).mono ?_
          clear S
          rintro _ w6 ⟨rfl, S⟩
          go_wp2_with fail
          go_roundw
          case rel => exact ⟨j + 1, by go_num, by omega, by omega, (by first | exact S | exact S.pure ((Up.refl _).drew) | exact S.pure ((Up.refl _).drewN _))⟩
          case measure => simp [intOf]; omega
        · have z0 : (k == 0) = false := by simpa using k0
          have z1 : (k == 1) = false := by simpa using k1
          have z2 : (k == 2) = false := by simpa using k2
          have z3 : (k == 3) = false := by simpa using k3
          have z4 : (k == 4) = false := by simpa using k4
          have z5 : (k == 5) = false := by simpa using k5
          have z6 : (k == 6) = false := by simpa using k6
          clear k0 k1 k2 k3 k4 k5 k6
          go_wp2_with fail
          refine (Q.nar_ TT.out TF.out (by first | exact S | exact S.pure ((Up.refl _).drew) | exact S.pure ((Up.refl _).drewN _)) true (decide_eq_true rfl)).mono ?_
          clear S
          rintro _ w4 ⟨rfl, S⟩
          go_wp2_with fail
          refine (Q.posit_ TT.out TF.out (by first | exact S | exact S.pure ((Up.refl _).drew) | exact S.pure ((Up.refl _).drewN _)) _ HP.out).mono ?_
          clear S
          rintro _ w5 ⟨rfl, S⟩
          go_wp2_with fail
          go_roundw
          case rel => exact ⟨j + 1, by go_num, by omega, by omega, (by first | exact S | exact S.pure ((Up.refl _).drew) | exact S.pure ((Up.refl _).drewN _))⟩
          case measure => simp [intOf]; omega
      · by_cases jn : j < n
        · have j5 : j = 50 := by omega
          subst j5
          clear hjn
          go_wp2_with fail
          refine (Q.clear_ TT.out TF.out (by first | exact S | exact S.pure ((Up.refl _).drew) | exact S.pure ((Up.refl _).drewN _))).mono ?_
          clear S
          rintro _ w24 ⟨rfl, S⟩
          go_wp2_with fail
          refine (Q.nar_ TT.out TF.out (by first | exact S | exact S.pure ((Up.refl _).drew) | exact S.pure ((Up.refl _).drewN _)) false (decide_eq_false HN.out)).mono ?_
          clear S
          rintro _ w25 ⟨rfl, S⟩
          go_wp2_with fail
          refine (Q.posit_ TT.out TF.out (by first | exact S | exact S.pure ((Up.refl _).drew) | exact S.pure ((Up.refl _).drewN _)) _ HZ.out).mono ?_
          clear S
          rintro _ w26 ⟨rfl, S⟩
          go_wp2_with fail
          go_ret
          exact ⟨by first | rfl | simp, by first | exact S.up | exact S.up.drew | exact S.up.drewN _⟩
        · obtain rfl : j = n := by omega
          clear hjn
          go_wp2_with fail
          refine (Q.clear_ TT.out TF.out (by first | exact S | exact S.pure ((Up.refl _).drew) | exact S.pure ((Up.refl _).drewN _))).mono ?_
          clear S
          rintro _ w24 ⟨rfl, S⟩
          go_wp2_with fail
          refine (Q.nar_ TT.out TF.out (by first | exact S | exact S.pure ((Up.refl _).drew) | exact S.pure ((Up.refl _).drewN _)) false (decide_eq_false HN.out)).mono ?_
          clear S
          rintro _ w25 ⟨rfl, S⟩
          go_wp2_with fail
          refine (Q.posit_ TT.out TF.out (by first | exact S | exact S.pure ((Up.refl _).drew) | exact S.pure ((Up.refl _).drewN _)) _ HZ.out).mono ?_
          clear S
          rintro _ w26 ⟨rfl, S⟩
          go_wp2_with fail
          go_ret
          exact ⟨by first | rfl | simp, by first | exact S.up | exact S.up.drew | exact S.up.drewN _⟩
end
end Go.Proofs.YtijpffgocookaaaGreatDoor
