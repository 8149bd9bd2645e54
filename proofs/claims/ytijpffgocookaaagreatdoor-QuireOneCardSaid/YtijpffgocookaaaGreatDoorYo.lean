/-
  QuireOne: its walk.
-/
import Derived.Test.YtijpffgocookaaaGreatDoorYf
namespace Go.Proofs.YtijpffgocookaaaGreatDoor
open Go.RowKit Go.Shelf
set_option linter.unusedVariables false
set_option linter.unusedSimpArgs false

section
variable {Is : Nat → Nat → Nat → Thg}
set_option maxHeartbeats 4000000 in
set_option maxRecDepth 100000 in
theorem qone_walk (Q : Qui Is) (w : World) (TT : Hid (Tz w)) (TF : Hid (TabF w)) (x0 : Int) (_wx0 : (Lit.int .i64 x0).wf = true) (x1 : Int) (_wx1 : (Lit.int .u64 x1).wf = true) : Calls Tryz.prog 8 #[.int .i64 x0, .int .u64 x1] w (True15 w) := by
  obtain ⟨p, rfl, pb⟩ := wf_u64 _wx1
  have CH := Lib.hid (fun W (u : Up w W) => shown15_any Q W (Lib.hid (TT.out.up u)) (Lib.hid (TF.out.up u)))
  have U := Up.refl w
  obtain ⟨m, hm, m3⟩ := and_3 x0
  rcases (show m = 0 ∨ m = 1 ∨ m = 2 ∨ m = 3 by omega) with rfl | rfl | rfl | rfl
  · obtain ⟨P, hP⟩ : ∃ P, p % 2 ^ 8 = P := ⟨_, rfl⟩
    have hl := and_lowq p 8 pb (by decide)
    rw [hP, show ((2 ^ 8 - 1 : Nat) : Int) = 255 by decide] at hl
    have hPl : P < 2 ^ 8 := by rw [← hP]; exact Nat.mod_lt _ (by decide)
    have PB : P < 18446744073709551616 := by
      have : (2 : Nat) ^ 8 ≤ 18446744073709551616 := by decide
      omega
    have hfit : (P : Int) ≤ M.msk (M.tb 1) := by
      rw [show M.msk (M.tb 1) = 255 by decide]
      have : (2 : Nat) ^ 8 = 256 := by decide
      omega
    obtain ⟨o, x, ha⟩ := M.qa_ex (i := 1) (by decide) (by decide) P 64
    obtain ⟨rfl, hq, hn⟩ := M.one_q (i := 1) (by decide) (by decide) hfit ha
    have HA := Lib.hid ha
    have HP := Lib.hid hq
    have HN : Hid (decide (M.qst 1 0 o = M.qn 1) = decide (P = 128)) := by
      show _ = _
      by_cases e : P = 128
      · rw [decide_eq_true e, decide_eq_true (hn.2 e)]
      · rw [decide_eq_false e, decide_eq_false (fun k => e (hn.1 k))]
    have dP : ((P : Int) == 128) = decide (P = 128) := by
      rw [Bool.eq_iff_iff, beq_iff_eq, decide_eq_true_iff]; omega
    have dQ : decide ((P : Int) = 128) = decide (P = 128) := by
      rw [Bool.eq_iff_iff, decide_eq_true_iff, decide_eq_true_iff]; omega
    clear ha hq hn hfit hP hPl pb
    go_enter Tryz.func8, Tryz.ntmps8
    go_wp2_with fail
    refine (CH.out _ (by first | exact U | exact U.drew | exact U.drewN _)).mono ?_
    rintro _ w1 ⟨rfl, h1⟩
    replace U := Up.trans (by first | exact U | exact U.drew | exact U.drewN _) h1
    have S := Sd3.start U
    clear CH h1 U
    go_wp2_with fail
    refine (Q.fresh_ TF.out (by first | exact S | exact S.pure ((Up.refl _).drew) | exact S.pure ((Up.refl _).drewN _)) (i := 1) (by decide) (by decide)).mono ?_
    clear S
    rintro _ w2 ⟨p1, rfl, S⟩
    go_wp2_with fail
    refine (Q.add_ TT.out TF.out (by first | exact S | exact S.pure ((Up.refl _).drew) | exact S.pure ((Up.refl _).drewN _)) P 64 PB (by decide) _ _ HA.out).mono ?_
    clear S
    rintro _ w3 ⟨rfl, S⟩
    go_wp2_with fail
    refine (Q.posit_ TT.out TF.out (by first | exact S | exact S.pure ((Up.refl _).drew) | exact S.pure ((Up.refl _).drewN _)) _ HP.out).mono ?_
    clear S
    rintro _ w4 ⟨rfl, S⟩
    go_wp2_with fail
    refine (Q.nar_ TT.out TF.out (by first | exact S | exact S.pure ((Up.refl _).drew) | exact S.pure ((Up.refl _).drewN _)) (decide (P = 128)) HN.out).mono ?_
    clear S
    rintro _ w5 ⟨rfl, S⟩
    go_wp2_with fail
    go_ret
    exact ⟨by first | rfl | simp, by first | exact S.up | exact S.up.drew | exact S.up.drewN _⟩
  · obtain ⟨P, hP⟩ : ∃ P, p % 2 ^ 16 = P := ⟨_, rfl⟩
    have hl := and_lowq p 16 pb (by decide)
    rw [hP, show ((2 ^ 16 - 1 : Nat) : Int) = 65535 by decide] at hl
    have hPl : P < 2 ^ 16 := by rw [← hP]; exact Nat.mod_lt _ (by decide)
    have PB : P < 18446744073709551616 := by
      have : (2 : Nat) ^ 16 ≤ 18446744073709551616 := by decide
      omega
    have hfit : (P : Int) ≤ M.msk (M.tb 2) := by
      rw [show M.msk (M.tb 2) = 65535 by decide]
      have : (2 : Nat) ^ 16 = 65536 := by decide
      omega
    obtain ⟨o, x, ha⟩ := M.qa_ex (i := 2) (by decide) (by decide) P 16384
    obtain ⟨rfl, hq, hn⟩ := M.one_q (i := 2) (by decide) (by decide) hfit ha
    have HA := Lib.hid ha
    have HP := Lib.hid hq
    have HN : Hid (decide (M.qst 2 0 o = M.qn 2) = decide (P = 32768)) := by
      show _ = _
      by_cases e : P = 32768
      · rw [decide_eq_true e, decide_eq_true (hn.2 e)]
      · rw [decide_eq_false e, decide_eq_false (fun k => e (hn.1 k))]
    have dP : ((P : Int) == 32768) = decide (P = 32768) := by
      rw [Bool.eq_iff_iff, beq_iff_eq, decide_eq_true_iff]; omega
    have dQ : decide ((P : Int) = 32768) = decide (P = 32768) := by
      rw [Bool.eq_iff_iff, decide_eq_true_iff, decide_eq_true_iff]; omega
    clear ha hq hn hfit hP hPl pb
    go_enter Tryz.func8, Tryz.ntmps8
    go_wp2_with fail
    refine (CH.out _ (by first | exact U | exact U.drew | exact U.drewN _)).mono ?_
    rintro _ w1 ⟨rfl, h1⟩
    replace U := Up.trans (by first | exact U | exact U.drew | exact U.drewN _) h1
    have S := Sd3.start U
    clear CH h1 U
    go_wp2_with fail
    refine (Q.fresh_ TF.out (by first | exact S | exact S.pure ((Up.refl _).drew) | exact S.pure ((Up.refl _).drewN _)) (i := 2) (by decide) (by decide)).mono ?_
    clear S
    rintro _ w2 ⟨p1, rfl, S⟩
    go_wp2_with fail
    refine (Q.add_ TT.out TF.out (by first | exact S | exact S.pure ((Up.refl _).drew) | exact S.pure ((Up.refl _).drewN _)) P 16384 PB (by decide) _ _ HA.out).mono ?_
    clear S
    rintro _ w3 ⟨rfl, S⟩
    go_wp2_with fail
    refine (Q.posit_ TT.out TF.out (by first | exact S | exact S.pure ((Up.refl _).drew) | exact S.pure ((Up.refl _).drewN _)) _ HP.out).mono ?_
    clear S
    rintro _ w4 ⟨rfl, S⟩
    go_wp2_with fail
    refine (Q.nar_ TT.out TF.out (by first | exact S | exact S.pure ((Up.refl _).drew) | exact S.pure ((Up.refl _).drewN _)) (decide (P = 32768)) HN.out).mono ?_
    clear S
    rintro _ w5 ⟨rfl, S⟩
    go_wp2_with fail
    go_ret
    exact ⟨by first | rfl | simp, by first | exact S.up | exact S.up.drew | exact S.up.drewN _⟩
  · obtain ⟨P, hP⟩ : ∃ P, p % 2 ^ 32 = P := ⟨_, rfl⟩
    have hl := and_lowq p 32 pb (by decide)
    rw [hP, show ((2 ^ 32 - 1 : Nat) : Int) = 4294967295 by decide] at hl
    have hPl : P < 2 ^ 32 := by rw [← hP]; exact Nat.mod_lt _ (by decide)
    have PB : P < 18446744073709551616 := by
      have : (2 : Nat) ^ 32 ≤ 18446744073709551616 := by decide
      omega
    have hfit : (P : Int) ≤ M.msk (M.tb 3) := by
      rw [show M.msk (M.tb 3) = 4294967295 by decide]
      have : (2 : Nat) ^ 32 = 4294967296 := by decide
      omega
    obtain ⟨o, x, ha⟩ := M.qa_ex (i := 3) (by decide) (by decide) P 1073741824
    obtain ⟨rfl, hq, hn⟩ := M.one_q (i := 3) (by decide) (by decide) hfit ha
    have HA := Lib.hid ha
    have HP := Lib.hid hq
    have HN : Hid (decide (M.qst 3 0 o = M.qn 3) = decide (P = 2147483648)) := by
      show _ = _
      by_cases e : P = 2147483648
      · rw [decide_eq_true e, decide_eq_true (hn.2 e)]
      · rw [decide_eq_false e, decide_eq_false (fun k => e (hn.1 k))]
    have dP : ((P : Int) == 2147483648) = decide (P = 2147483648) := by
      rw [Bool.eq_iff_iff, beq_iff_eq, decide_eq_true_iff]; omega
    have dQ : decide ((P : Int) = 2147483648) = decide (P = 2147483648) := by
      rw [Bool.eq_iff_iff, decide_eq_true_iff, decide_eq_true_iff]; omega
    clear ha hq hn hfit hP hPl pb
    go_enter Tryz.func8, Tryz.ntmps8
    go_wp2_with fail
    refine (CH.out _ (by first | exact U | exact U.drew | exact U.drewN _)).mono ?_
    rintro _ w1 ⟨rfl, h1⟩
    replace U := Up.trans (by first | exact U | exact U.drew | exact U.drewN _) h1
    have S := Sd3.start U
    clear CH h1 U
    go_wp2_with fail
    refine (Q.fresh_ TF.out (by first | exact S | exact S.pure ((Up.refl _).drew) | exact S.pure ((Up.refl _).drewN _)) (i := 3) (by decide) (by decide)).mono ?_
    clear S
    rintro _ w2 ⟨p1, rfl, S⟩
    go_wp2_with fail
    refine (Q.add_ TT.out TF.out (by first | exact S | exact S.pure ((Up.refl _).drew) | exact S.pure ((Up.refl _).drewN _)) P 1073741824 PB (by decide) _ _ HA.out).mono ?_
    clear S
    rintro _ w3 ⟨rfl, S⟩
    go_wp2_with fail
    refine (Q.posit_ TT.out TF.out (by first | exact S | exact S.pure ((Up.refl _).drew) | exact S.pure ((Up.refl _).drewN _)) _ HP.out).mono ?_
    clear S
    rintro _ w4 ⟨rfl, S⟩
    go_wp2_with fail
    refine (Q.nar_ TT.out TF.out (by first | exact S | exact S.pure ((Up.refl _).drew) | exact S.pure ((Up.refl _).drewN _)) (decide (P = 2147483648)) HN.out).mono ?_
    clear S
    rintro _ w5 ⟨rfl, S⟩
    go_wp2_with fail
    go_ret
    exact ⟨by first | rfl | simp, by first | exact S.up | exact S.up.drew | exact S.up.drewN _⟩
  · obtain ⟨P, hP⟩ : ∃ P, p % 2 ^ 64 = P := ⟨_, rfl⟩
    have hl := and_lowq p 64 pb (by decide)
    rw [hP, show ((2 ^ 64 - 1 : Nat) : Int) = 18446744073709551615 by decide] at hl
    have hPl : P < 2 ^ 64 := by rw [← hP]; exact Nat.mod_lt _ (by decide)
    have PB : P < 18446744073709551616 := by
      have : (2 : Nat) ^ 64 ≤ 18446744073709551616 := by decide
      omega
    have hfit : (P : Int) ≤ M.msk (M.tb 4) := by
      rw [show M.msk (M.tb 4) = 18446744073709551615 by decide]
      have : (2 : Nat) ^ 64 = 18446744073709551616 := by decide
      omega
    obtain ⟨o, x, ha⟩ := M.qa_ex (i := 4) (by decide) (by decide) P 4611686018427387904
    obtain ⟨rfl, hq, hn⟩ := M.one_q (i := 4) (by decide) (by decide) hfit ha
    have HA := Lib.hid ha
    have HP := Lib.hid hq
    have HN : Hid (decide (M.qst 4 0 o = M.qn 4) = decide (P = 9223372036854775808)) := by
      show _ = _
      by_cases e : P = 9223372036854775808
      · rw [decide_eq_true e, decide_eq_true (hn.2 e)]
      · rw [decide_eq_false e, decide_eq_false (fun k => e (hn.1 k))]
    have dP : ((P : Int) == 9223372036854775808) = decide (P = 9223372036854775808) := by
      rw [Bool.eq_iff_iff, beq_iff_eq, decide_eq_true_iff]; omega
    have dQ : decide ((P : Int) = 9223372036854775808) = decide (P = 9223372036854775808) := by
      rw [Bool.eq_iff_iff, decide_eq_true_iff, decide_eq_true_iff]; omega
    clear ha hq hn hfit hP hPl pb
    have hw1 : IntKind.u64.wrap 18446744073709551616 = 0 := by decide
    have hw2 : IntKind.u64.wrap (0 - 1) = 18446744073709551615 := by decide
    have hw3 : IntKind.u64.wrap (-1) = 18446744073709551615 := by decide
    go_enter Tryz.func8, Tryz.ntmps8
    go_wp2_with fail
    refine (CH.out _ (by first | exact U | exact U.drew | exact U.drewN _)).mono ?_
    rintro _ w1 ⟨rfl, h1⟩
    replace U := Up.trans (by first | exact U | exact U.drew | exact U.drewN _) h1
    have S := Sd3.start U
    clear CH h1 U
    go_wp2_with fail
    refine (Q.fresh_ TF.out (by first | exact S | exact S.pure ((Up.refl _).drew) | exact S.pure ((Up.refl _).drewN _)) (i := 4) (by decide) (by decide)).mono ?_
    clear S
    rintro _ w2 ⟨p1, rfl, S⟩
    go_wp2_with fail
    refine (Q.add_ TT.out TF.out (by first | exact S | exact S.pure ((Up.refl _).drew) | exact S.pure ((Up.refl _).drewN _)) P 4611686018427387904 PB (by decide) _ _ HA.out).mono ?_
    clear S
    rintro _ w3 ⟨rfl, S⟩
    go_wp2_with fail
    refine (Q.posit_ TT.out TF.out (by first | exact S | exact S.pure ((Up.refl _).drew) | exact S.pure ((Up.refl _).drewN _)) _ HP.out).mono ?_
    clear S
    rintro _ w4 ⟨rfl, S⟩
    go_wp2_with fail
    refine (Q.nar_ TT.out TF.out (by first | exact S | exact S.pure ((Up.refl _).drew) | exact S.pure ((Up.refl _).drewN _)) (decide (P = 9223372036854775808)) HN.out).mono ?_
    clear S
    rintro _ w5 ⟨rfl, S⟩
    go_wp2_with fail
    go_ret
    exact ⟨by first | rfl | simp, by first | exact S.up | exact S.up.drew | exact S.up.drewN _⟩
end
end Go.Proofs.YtijpffgocookaaaGreatDoor
