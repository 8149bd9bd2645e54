/-
  QuireTaken: its walk.
-/
import Derived.Test.YtijpffgocookaaaGreatDoorYf
namespace Go.Proofs.YtijpffgocookaaaGreatDoor
open Go.RowKit Go.Shelf
set_option linter.unusedVariables false
set_option linter.unusedSimpArgs false

section
variable {Is : Nat → Nat → Nat → Thg}
set_option maxHeartbeats 4000000 in
set_option maxRecDepth 100000 in
theorem qtaken_walk (Q : Qui Is) (w : World) (TT : Hid (Tz w)) (TF : Hid (TabF w)) (x0 : Int) (_wx0 : (Lit.int .i64 x0).wf = true) (A : Option Addr) (n c : Nat) (xs : List Nat) (h : Src w A n c xs) (hz : Fz w A n) (x2 : Int) (_wx2 : (Lit.int .u64 x2).wf = true) (x3 : Int) (_wx3 : (Lit.int .u64 x3).wf = true) : Calls Tryz.prog 5 #[.int .i64 x0, .slice A n c, .int .u64 x2, .int .u64 x3] w (True15 w) := by
  obtain ⟨p, rfl, pb⟩ := wf_u64 _wx2
  obtain ⟨q, rfl, qb⟩ := wf_u64 _wx3
  have CH := Lib.hid (fun W (u : Up w W) => shown15_any Q W (Lib.hid (TT.out.up u)) (Lib.hid (TF.out.up u)))
  have U := Up.refl w
  by_cases hi : 1 ≤ x0 ∧ x0 ≤ 4
  · obtain ⟨i, rfl⟩ : ∃ i : Nat, x0 = (i : Int) := ⟨x0.toNat, by omega⟩
    have i1 : Hid (1 ≤ i) := Lib.hid (show 1 ≤ i by omega)
    have i2 : Hid (i ≤ 4) := Lib.hid (show i ≤ 4 by omega)
    clear hi
    obtain ⟨k, hk⟩ : ∃ k : Nat, min (n : Int) 20 = (k : Int) := ⟨min n 20, by omega⟩
    have hkn : k ≤ n := by omega
    have k20 : k ≤ 20 := by omega
    have hnc := h.len
    have hwd := (h.take (m := k) (by omega)).wd0 (fun ad e j hj => hz ad e j (by omega)) (by omega)
    obtain ⟨ys, hys⟩ : ∃ ys, xs.take k = ys := ⟨_, rfl⟩
    rw [hys] at hwd
    clear hys h hz
    have HW := Lib.hid hwd
    clear hwd
    obtain ⟨b, ex, hs⟩ := M.qs_ex i (M.val ys) 0
    obtain ⟨o, y, ha⟩ := M.qa_ex i1.out i2.out p q
    have hb : b < 2 ^ M.qS i := by
      rcases hs with ⟨h1, rfl, _⟩ | ⟨_, rfl, _⟩
      · exact h1
      · exact Nat.two_pow_pos _
    have key := M.taken_q i1.out i2.out hb (o := o) (fun d e => by subst e; exact M.qa_lt ha)
    have HS := Lib.hid hs
    have HA := Lib.hid ha
    have d0 : (ex != ex) = false := by simp
    clear hs ha
    by_cases h1 : M.qst i b o = M.qn i
    · have H1 := Lib.hid h1
      clear h1 key
      go_enter Tryz.func5, Tryz.ntmps5
      go_wp2_with fail
      refine (CH.out _ (by first | exact U | exact U.drew | exact U.drewN _)).mono ?_
      rintro _ w1 ⟨rfl, h1⟩
      replace U := Up.trans (by first | exact U | exact U.drew | exact U.drewN _) h1
      have S := Sd3.start U
      clear CH h1 U
      go_wp2_with fail
      refine (Q.fresh_ TF.out (by first | exact S | exact S.pure ((Up.refl _).drew) | exact S.pure ((Up.refl _).drewN _)) i1.out i2.out).mono ?_
      clear S
      rintro _ w2 ⟨p1, rfl, S⟩
      replace S := S.swap2
      go_wp2_with fail
      refine (Q.fresh_ TF.out (by first | exact S | exact S.pure ((Up.refl _).drew) | exact S.pure ((Up.refl _).drewN _)) i1.out i2.out).mono ?_
      clear S
      rintro _ w3 ⟨p2, rfl, S⟩
      replace S := S.swap2
      go_wp2_with fail
      refine (Q.set_ TT.out TF.out (by first | exact S | exact S.pure ((Up.refl _).drew) | exact S.pure ((Up.refl _).drewN _)) _ _ _ _ _ (HW.out.up (by first | exact S.up | exact S.up.drew | exact S.up.drewN _)) k20 _ _ HS.out).mono ?_
      clear S
      rintro _ w4 ⟨rfl, S⟩
      replace S := S.swap2
      go_wp2_with fail
      refine (Q.set_ TT.out TF.out (by first | exact S | exact S.pure ((Up.refl _).drew) | exact S.pure ((Up.refl _).drewN _)) _ _ _ _ _ (HW.out.up (by first | exact S.up | exact S.up.drew | exact S.up.drewN _)) k20 _ _ HS.out).mono ?_
      clear S
      rintro _ w5 ⟨rfl, S⟩
      replace S := S.swap2
      go_wp2_with fail
      refine (Q.keep_ TT.out TF.out (by first | exact S | exact S.pure ((Up.refl _).drew) | exact S.pure ((Up.refl _).drewN _))).mono ?_
      clear S
      rintro _ w6 ⟨v, rfl, S⟩
      obtain ⟨B, m, d, rfl⟩ := S.sl
      go_wp2_with fail
      refine (Q.add_ TT.out TF.out (by first | exact S | exact S.pure ((Up.refl _).drew) | exact S.pure ((Up.refl _).drewN _)) p q pb qb _ _ HA.out).mono ?_
      clear S
      rintro _ w7 ⟨rfl, S⟩
      replace S := S.swap2
      go_wp2_with fail
      refine (Q.neg_ TT.out TF.out (by first | exact S | exact S.pure ((Up.refl _).drew) | exact S.pure ((Up.refl _).drewN _))).mono ?_
      clear S
      rintro _ w8 ⟨rfl, S⟩
      go_wp2_with fail
      refine (Q.sub_ TT.out TF.out (by first | exact S | exact S.pure ((Up.refl _).drew) | exact S.pure ((Up.refl _).drewN _)) p q pb qb _ _ HA.out).mono ?_
      clear S
      rintro _ w9 ⟨rfl, S⟩
      go_wp2_with fail
      refine (Q.neg_ TT.out TF.out (by first | exact S | exact S.pure ((Up.refl _).drew) | exact S.pure ((Up.refl _).drewN _))).mono ?_
      clear S
      rintro _ w10 ⟨rfl, S⟩
      replace S := S.swap2
      go_wp2_with fail
      refine (Q.nar_ TT.out TF.out (by first | exact S | exact S.pure ((Up.refl _).drew) | exact S.pure ((Up.refl _).drewN _)) true (decide_eq_true H1.out)).mono ?_
      clear S
      rintro _ w11 ⟨rfl, S⟩
      go_wp2_with fail
      go_ret
      exact ⟨by first | rfl | simp, by first | exact S.up | exact S.up.drew | exact S.up.drewN _⟩
    · by_cases h2 : M.ng (2 ^ M.qS i) (M.qst i (M.ng (2 ^ M.qS i) b) (M.tk i true o)) = M.qn i
      · have H1 := Lib.hid h1
        have H2 := Lib.hid h2
        clear h1 h2 key
        go_enter Tryz.func5, Tryz.ntmps5
        go_wp2_with fail
        refine (CH.out _ (by first | exact U | exact U.drew | exact U.drewN _)).mono ?_
        rintro _ w1 ⟨rfl, h1⟩
        replace U := Up.trans (by first | exact U | exact U.drew | exact U.drewN _) h1
        have S := Sd3.start U
        clear CH h1 U
        go_wp2_with fail
        refine (Q.fresh_ TF.out (by first | exact S | exact S.pure ((Up.refl _).drew) | exact S.pure ((Up.refl _).drewN _)) i1.out i2.out).mono ?_
        clear S
        rintro _ w2 ⟨p1, rfl, S⟩
        replace S := S.swap2
        go_wp2_with fail
        refine (Q.fresh_ TF.out (by first | exact S | exact S.pure ((Up.refl _).drew) | exact S.pure ((Up.refl _).drewN _)) i1.out i2.out).mono ?_
        clear S
        rintro _ w3 ⟨p2, rfl, S⟩
        replace S := S.swap2
        go_wp2_with fail
        refine (Q.set_ TT.out TF.out (by first | exact S | exact S.pure ((Up.refl _).drew) | exact S.pure ((Up.refl _).drewN _)) _ _ _ _ _ (HW.out.up (by first | exact S.up | exact S.up.drew | exact S.up.drewN _)) k20 _ _ HS.out).mono ?_
        clear S
        rintro _ w4 ⟨rfl, S⟩
        replace S := S.swap2
        go_wp2_with fail
        refine (Q.set_ TT.out TF.out (by first | exact S | exact S.pure ((Up.refl _).drew) | exact S.pure ((Up.refl _).drewN _)) _ _ _ _ _ (HW.out.up (by first | exact S.up | exact S.up.drew | exact S.up.drewN _)) k20 _ _ HS.out).mono ?_
        clear S
        rintro _ w5 ⟨rfl, S⟩
        replace S := S.swap2
        go_wp2_with fail
        refine (Q.keep_ TT.out TF.out (by first | exact S | exact S.pure ((Up.refl _).drew) | exact S.pure ((Up.refl _).drewN _))).mono ?_
        clear S
        rintro _ w6 ⟨v, rfl, S⟩
        obtain ⟨B, m, d, rfl⟩ := S.sl
        go_wp2_with fail
        refine (Q.add_ TT.out TF.out (by first | exact S | exact S.pure ((Up.refl _).drew) | exact S.pure ((Up.refl _).drewN _)) p q pb qb _ _ HA.out).mono ?_
        clear S
        rintro _ w7 ⟨rfl, S⟩
        replace S := S.swap2
        go_wp2_with fail
        refine (Q.neg_ TT.out TF.out (by first | exact S | exact S.pure ((Up.refl _).drew) | exact S.pure ((Up.refl _).drewN _))).mono ?_
        clear S
        rintro _ w8 ⟨rfl, S⟩
        go_wp2_with fail
        refine (Q.sub_ TT.out TF.out (by first | exact S | exact S.pure ((Up.refl _).drew) | exact S.pure ((Up.refl _).drewN _)) p q pb qb _ _ HA.out).mono ?_
        clear S
        rintro _ w9 ⟨rfl, S⟩
        go_wp2_with fail
        refine (Q.neg_ TT.out TF.out (by first | exact S | exact S.pure ((Up.refl _).drew) | exact S.pure ((Up.refl _).drewN _))).mono ?_
        clear S
        rintro _ w10 ⟨rfl, S⟩
        replace S := S.swap2
        go_wp2_with fail
        refine (Q.nar_ TT.out TF.out (by first | exact S | exact S.pure ((Up.refl _).drew) | exact S.pure ((Up.refl _).drewN _)) false (decide_eq_false H1.out)).mono ?_
        clear S
        rintro _ w11 ⟨rfl, S⟩
        replace S := S.swap2
        go_wp2_with fail
        refine (Q.nar_ TT.out TF.out (by first | exact S | exact S.pure ((Up.refl _).drew) | exact S.pure ((Up.refl _).drewN _)) true (decide_eq_true H2.out)).mono ?_
        clear S
        rintro _ w12 ⟨rfl, S⟩
        go_wp2_with fail
        go_ret
        exact ⟨by first | rfl | simp, by first | exact S.up | exact S.up.drew | exact S.up.drewN _⟩
      · obtain ⟨e1, e2⟩ := (key.resolve_left h1).resolve_left h2
        have H1 := Lib.hid h1
        have H2 := Lib.hid h2
        have E1 := Lib.hid e1
        have E2 := Lib.hid e2
        clear h1 h2 key e1 e2
        go_enter Tryz.func5, Tryz.ntmps5
        go_wp2_with fail
        refine (CH.out _ (by first | exact U | exact U.drew | exact U.drewN _)).mono ?_
        rintro _ w1 ⟨rfl, h1⟩
        replace U := Up.trans (by first | exact U | exact U.drew | exact U.drewN _) h1
        have S := Sd3.start U
        clear CH h1 U
        go_wp2_with fail
        refine (Q.fresh_ TF.out (by first | exact S | exact S.pure ((Up.refl _).drew) | exact S.pure ((Up.refl _).drewN _)) i1.out i2.out).mono ?_
        clear S
        rintro _ w2 ⟨p1, rfl, S⟩
        replace S := S.swap2
        go_wp2_with fail
        refine (Q.fresh_ TF.out (by first | exact S | exact S.pure ((Up.refl _).drew) | exact S.pure ((Up.refl _).drewN _)) i1.out i2.out).mono ?_
        clear S
        rintro _ w3 ⟨p2, rfl, S⟩
        replace S := S.swap2
        go_wp2_with fail
        refine (Q.set_ TT.out TF.out (by first | exact S | exact S.pure ((Up.refl _).drew) | exact S.pure ((Up.refl _).drewN _)) _ _ _ _ _ (HW.out.up (by first | exact S.up | exact S.up.drew | exact S.up.drewN _)) k20 _ _ HS.out).mono ?_
        clear S
        rintro _ w4 ⟨rfl, S⟩
        replace S := S.swap2
        go_wp2_with fail
        refine (Q.set_ TT.out TF.out (by first | exact S | exact S.pure ((Up.refl _).drew) | exact S.pure ((Up.refl _).drewN _)) _ _ _ _ _ (HW.out.up (by first | exact S.up | exact S.up.drew | exact S.up.drewN _)) k20 _ _ HS.out).mono ?_
        clear S
        rintro _ w5 ⟨rfl, S⟩
        replace S := S.swap2
        go_wp2_with fail
        refine (Q.keep_ TT.out TF.out (by first | exact S | exact S.pure ((Up.refl _).drew) | exact S.pure ((Up.refl _).drewN _))).mono ?_
        clear S
        rintro _ w6 ⟨v, rfl, S⟩
        obtain ⟨B, m, d, rfl⟩ := S.sl
        go_wp2_with fail
        refine (Q.add_ TT.out TF.out (by first | exact S | exact S.pure ((Up.refl _).drew) | exact S.pure ((Up.refl _).drewN _)) p q pb qb _ _ HA.out).mono ?_
        clear S
        rintro _ w7 ⟨rfl, S⟩
        replace S := S.swap2
        go_wp2_with fail
        refine (Q.neg_ TT.out TF.out (by first | exact S | exact S.pure ((Up.refl _).drew) | exact S.pure ((Up.refl _).drewN _))).mono ?_
        clear S
        rintro _ w8 ⟨rfl, S⟩
        go_wp2_with fail
        refine (Q.sub_ TT.out TF.out (by first | exact S | exact S.pure ((Up.refl _).drew) | exact S.pure ((Up.refl _).drewN _)) p q pb qb _ _ HA.out).mono ?_
        clear S
        rintro _ w9 ⟨rfl, S⟩
        go_wp2_with fail
        refine (Q.neg_ TT.out TF.out (by first | exact S | exact S.pure ((Up.refl _).drew) | exact S.pure ((Up.refl _).drewN _))).mono ?_
        clear S
        rintro _ w10 ⟨rfl, S⟩
        replace S := S.swap2
        go_wp2_with fail
        refine (Q.nar_ TT.out TF.out (by first | exact S | exact S.pure ((Up.refl _).drew) | exact S.pure ((Up.refl _).drewN _)) false (decide_eq_false H1.out)).mono ?_
        clear S
        rintro _ w11 ⟨rfl, S⟩
        replace S := S.swap2
        go_wp2_with fail
        refine (Q.nar_ TT.out TF.out (by first | exact S | exact S.pure ((Up.refl _).drew) | exact S.pure ((Up.refl _).drewN _)) false (decide_eq_false H2.out)).mono ?_
        clear S
        rintro _ w12 ⟨rfl, S⟩
        replace S := S.swap2
        go_wp2_with fail
        refine (Q.bits_ TT.out TF.out (by first | exact S | exact S.pure ((Up.refl _).drew) | exact S.pure ((Up.refl _).drewN _))).mono ?_
        clear S
        rintro _ w13 ⟨v1, rfl, hn1, u1, S⟩
        obtain ⟨A1, m1, d1_, rfl⟩ := hn1.sl
        clear u1
        replace S := S.swap2
        go_wp2_with fail
        refine (Q.bits_ TT.out TF.out (by first | exact S | exact S.pure ((Up.refl _).drew) | exact S.pure ((Up.refl _).drewN _))).mono ?_
        clear S
        rintro _ w14 ⟨v2, rfl, hn2, u2, S⟩
        replace hn1 := hn1.up (Up.trans (by first | exact Up.refl _ | exact (Up.refl _).drew | exact (Up.refl _).drewN _) u2)
        obtain ⟨A2, m2, d2_, rfl⟩ := hn2.sl
        clear u2
        go_wp2_with fail
        refine (bits15_any _ _ _ _ _ _ _ _ _ _ _ _ _ (by first | exact hn1 | exact hn1.up ((Up.refl _).drew) | exact hn1.up ((Up.refl _).drewN _)) (by first | exact hn2 | exact hn2.up ((Up.refl _).drew) | exact hn2.up ((Up.refl _).drewN _)) (by decide) (by decide) true (decide_eq_true E1.out)).mono ?_
        rintro _ w15 ⟨rfl, u15⟩
        replace S := S.pure (Up.trans (by first | exact Up.refl _ | exact (Up.refl _).drew | exact (Up.refl _).drewN _) u15)
        clear u15 hn1
        clear hn2
        replace S := S.swap2
        go_wp2_with fail
        refine (Q.sub_ TT.out TF.out (by first | exact S | exact S.pure ((Up.refl _).drew) | exact S.pure ((Up.refl _).drewN _)) p q pb qb _ _ HA.out).mono ?_
        clear S
        rintro _ w16 ⟨rfl, S⟩
        go_wp2_with fail
        refine (Q.bits_ TT.out TF.out (by first | exact S | exact S.pure ((Up.refl _).drew) | exact S.pure ((Up.refl _).drewN _))).mono ?_
        clear S
        rintro _ w17 ⟨v1, rfl, hn1, u1, S⟩
        obtain ⟨A1, m1, d1_, rfl⟩ := hn1.sl
        clear u1
        have hw := S.nt
        go_wp2_with fail
        refine (bits15_any _ _ _ _ _ _ _ _ _ _ _ _ _ (by first | exact hn1 | exact hn1.up ((Up.refl _).drew) | exact hn1.up ((Up.refl _).drewN _)) (by first | exact hw | exact hw.up ((Up.refl _).drew) | exact hw.up ((Up.refl _).drewN _)) (by decide) (by decide) true (decide_eq_true E2.out)).mono ?_
        rintro _ w18 ⟨rfl, u18⟩
        replace S := S.pure (Up.trans (by first | exact Up.refl _ | exact (Up.refl _).drew | exact (Up.refl _).drewN _) u18)
        clear u18 hn1
        go_wp2_with fail
        go_ret
        exact ⟨by first | rfl | simp, by first | exact S.up | exact S.up.drew | exact S.up.drewN _⟩
  · clear h hz
    have HI := Lib.hid hi
    clear hi
    go_enter Tryz.func5, Tryz.ntmps5
    go_wp2_with fail
    refine (CH.out _ (by first | exact U | exact U.drew | exact U.drewN _)).mono ?_
    rintro _ w1 ⟨rfl, h1⟩
    replace U := Up.trans (by first | exact U | exact U.drew | exact U.drewN _) h1
    have S := Sd3.start U
    clear CH h1 U
    go_wp2_with fail
    refine (Q.none_ _ (TF.out.up (by first | exact S.up | exact S.up.drew | exact S.up.drewN _)) x0 HI.out).mono ?_
    rintro _ w2 ⟨rfl, u⟩
    replace S := S.pure (Up.trans (by first | exact Up.refl _ | exact (Up.refl _).drew | exact (Up.refl _).drewN _) u)
    clear u
    go_wp2_with fail
    refine (Q.none_ _ (TF.out.up (by first | exact S.up | exact S.up.drew | exact S.up.drewN _)) x0 HI.out).mono ?_
    rintro _ w3 ⟨rfl, u⟩
    replace S := S.pure (Up.trans (by first | exact Up.refl _ | exact (Up.refl _).drew | exact (Up.refl _).drewN _) u)
    clear u
    go_wp2_with fail
    go_ret
    exact ⟨by first | rfl | simp, by first | exact S.up | exact S.up.drew | exact S.up.drewN _⟩
end
end Go.Proofs.YtijpffgocookaaaGreatDoor
