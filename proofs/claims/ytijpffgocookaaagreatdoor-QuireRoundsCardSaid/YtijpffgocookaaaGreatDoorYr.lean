/-
  QuireRounds: its walk.
-/
import Derived.Test.YtijpffgocookaaaGreatDoorYf
import Derived.Test.YtijpffgocookaaaGreatDoorRva
namespace Go.Proofs.YtijpffgocookaaaGreatDoor
open Go.RowKit Go.Shelf
set_option linter.unusedVariables false
set_option linter.unusedSimpArgs false

section
variable {Is : Nat → Nat → Nat → Thg}
set_option maxHeartbeats 4000000 in
set_option maxRecDepth 100000 in
theorem qrounds_walk (Q : Qui Is) (w : World) (TT : Hid (Tz w)) (TF : Hid (TabF w)) (x0 : Int) (_wx0 : (Lit.int .i64 x0).wf = true) (ng : Bool) (A : Option Addr) (n c : Nat) (xs : List Nat) (sr : Src w A n c xs) (fz : Fz w A n) (_mx : c ≤ maxLen) (tw : Int) (_wt : (Lit.int .i64 tw).wf = true) (fv : Int) (_wv : (Lit.int .i64 fv).wf = true) : Calls Tryz.prog 11 #[.int .i64 x0, xv ng (.slice A n c) tw fv] w (True15 w) := by
  obtain ⟨tt, ht⟩ : ∃ z, max (min tw 600) (-600) = z := ⟨_, rfl⟩
  obtain ⟨gg, hg⟩ : ∃ z, max (min fv 60) (-60) = z := ⟨_, rfl⟩
  obtain ⟨m, a, N, CS⟩ := small15_ex w ng A n c xs tw fv sr fz tt gg ht hg
  have BT : Hid (-600 ≤ tt ∧ tt ≤ 600) := Lib.hid (show -600 ≤ tt ∧ tt ≤ 600 by omega)
  have BG : Hid (-600 ≤ gg ∧ gg ≤ 600) := Lib.hid (show -600 ≤ gg ∧ gg ≤ 600 by omega)
  have B5 : Hid ((-5000 ≤ tt ∧ tt ≤ 5000) ∧ (-5000 ≤ gg ∧ gg ≤ 5000)) := Lib.hid (show (-5000 ≤ tt ∧ tt ≤ 5000) ∧ (-5000 ≤ gg ∧ gg ≤ 5000) by omega)
  have a128 := Lib.hid (N.lt128 (by decide))
  clear ht hg sr fz
  have CH := Lib.hid (fun W (u : Up w W) => shown15_any Q W (Lib.hid (TT.out.up u)) (Lib.hid (TF.out.up u)))
  have U := Up.refl w
  obtain ⟨mm, hm, m3⟩ := and_3 x0
  obtain ⟨i, hi⟩ : ∃ i : Nat, 1 + mm = i := ⟨_, rfl⟩
  have q1 : (1 : Int) + (mm : Int) = (i : Int) := by omega
  have i1 : Hid (1 ≤ i) := Lib.hid (show 1 ≤ i by omega)
  have i2 : Hid (i ≤ 4) := Lib.hid (show i ≤ 4 by omega)
  clear hi
  obtain ⟨b, ex, hl⟩ := M.qld_ex i ng a tt gg 0
  have HL := Lib.hid hl
  have X := Ob.mk_ w 34 #[.bool ng, .slice A n c, .int .i64 tw, .int .i64 fv]
  have u0 : Up w (w.alloc (.cells #[.bool ng, .slice A n c, .int .i64 tw, .int .i64 fv] 34)) := (Up.refl w).alloc _
  obtain ⟨V, hV⟩ : ∃ V, w.alloc (.cells #[.bool ng, .slice A n c, .int .i64 tw, .int .i64 fv] 34) = V := ⟨_, rfl⟩
  rw [hV] at X u0
  rcases hl with ⟨_, rfl, rfl⟩ | ⟨hl, rfl⟩
  · go_enter Tryz.func11, Tryz.ntmps11
    go_upto_region 1 with fail
    clear hV
    replace U := u0
    clear u0
    go_wp2_with fail
    refine (CH.out _ (by first | exact U | exact U.drew | exact U.drewN _)).mono ?_
    rintro _ w1 ⟨rfl, h1⟩
    replace X := X.up (Up.trans (by first | exact Up.refl _ | exact (Up.refl _).drew | exact (Up.refl _).drewN _) h1)
    replace U := Up.trans (by first | exact U | exact U.drew | exact U.drewN _) h1
    clear CH h1
    have X0 := X.get 0
    have X1 := X.get 1
    have X2 := X.get 2
    have X3 := X.get 3
    simp only [List.getElem?_toArray, List.getElem?_cons_zero, List.getElem?_cons_succ] at X0 X1 X2 X3
    go_wp2_with fail
    clear X0 X1 X2 X3
    refine (CS.out _ (by first | exact U | exact U.drew | exact U.drewN _)).mono ?_
    rintro _ w2 ⟨rfl, h2⟩
    replace X := X.up (Up.trans (by first | exact Up.refl _ | exact (Up.refl _).drew | exact (Up.refl _).drewN _) h2)
    replace U := Up.trans (by first | exact U | exact U.drew | exact U.drewN _) h2
    clear CS h2
    go_wp2_with (refine store_ob2 rfl 34 _ _ rfl _ #[.bool ng, .slice A n c, .int .i64 tw, .int .i64 fv] #[.bool ng, .slice A m c, .int .i64 tt, .int .i64 gg] rfl rfl 4 (by kernel_rfl) rfl rfl (by simp [Value.oneCell']) w U (Nat.le_refl _) 34 X ?_; clear U X; intro V9 X U ho; clear ho)
    have W0 := Lib.hid U
    have S := Sd3.start (Up.refl V9)
    clear U
    replace TT := Lib.hid (TT.out.up W0.out)
    replace TF := Lib.hid (TF.out.up W0.out)
    go_wp2_with fail
    refine (Q.fresh_ TF.out (by first | exact S | exact S.pure ((Up.refl _).drew) | exact S.pure ((Up.refl _).drewN _)) i1.out i2.out).mono ?_
    clear S
    rintro _ w3 ⟨p1, rfl, S⟩
    have X9 := X.up (by first | exact S.up | exact S.up.drew | exact S.up.drewN _)
    have X0 := X9.get 0
    have X1 := X9.get 1
    have X2 := X9.get 2
    have X3 := X9.get 3
    simp only [List.getElem?_toArray, List.getElem?_cons_zero, List.getElem?_cons_succ] at X0 X1 X2 X3
    go_wp2_with fail
    clear X0 X1 X2 X3 X9
    refine (Q.load_ TT.out TF.out (by first | exact S | exact S.pure ((Up.refl _).drew) | exact S.pure ((Up.refl _).drewN _)) _ _ _ _ _ _ (N.up (W0.out.trans (by first | exact S.up | exact S.up.drew | exact S.up.drewN _))) BT.out BG.out _ _ HL.out).mono ?_
    clear S
    rintro _ w4 ⟨rfl, S⟩
    go_wp2_with fail
    refine (Q.bits_ TT.out TF.out (by first | exact S | exact S.pure ((Up.refl _).drew) | exact S.pure ((Up.refl _).drewN _))).mono ?_
    clear S
    rintro _ w5 ⟨v, rfl, hn, u1, S⟩
    obtain ⟨A1, m1, d1_, rfl⟩ := hn.sl
    obtain rfl := hn.no_word
    clear hn u1
    go_wp2_with fail
    go_ret
    exact ⟨by first | rfl | simp, W0.out.trans (by first | exact S.up | exact S.up.drew | exact S.up.drewN _)⟩
  · have h14 := M.four14 i2.out
    obtain ⟨q, hq⟩ := M.rv_ex (M.ok i i1.out h14) (M.ok2 i i1.out h14) (M.ok3 i i1.out h14) 1 ng (M.sz a tt gg)
    obtain ⟨bl, _, hp⟩ := M.rounds_q i1.out i2.out hl hq
    have HR : Hid (M.Rc (i : Int) 1 ng (M.sz a tt gg) q 0) := Lib.hid (.inr ⟨i, rfl, i1.out, h14, .inr ⟨.inl rfl, hq, rfl⟩⟩)
    have HP := Lib.hid hp
    have HG := Lib.hid (M.ng_ng bl)
    have d9 : (q == q) = true := by simp
    clear hl hq hp bl h14
    go_enter Tryz.func11, Tryz.ntmps11
    go_upto_region 1 with fail
    clear hV
    replace U := u0
    clear u0
    go_wp2_with fail
    refine (CH.out _ (by first | exact U | exact U.drew | exact U.drewN _)).mono ?_
    rintro _ w1 ⟨rfl, h1⟩
    replace X := X.up (Up.trans (by first | exact Up.refl _ | exact (Up.refl _).drew | exact (Up.refl _).drewN _) h1)
    replace U := Up.trans (by first | exact U | exact U.drew | exact U.drewN _) h1
    clear CH h1
    have X0 := X.get 0
    have X1 := X.get 1
    have X2 := X.get 2
    have X3 := X.get 3
    simp only [List.getElem?_toArray, List.getElem?_cons_zero, List.getElem?_cons_succ] at X0 X1 X2 X3
    go_wp2_with fail
    clear X0 X1 X2 X3
    refine (CS.out _ (by first | exact U | exact U.drew | exact U.drewN _)).mono ?_
    rintro _ w2 ⟨rfl, h2⟩
    replace X := X.up (Up.trans (by first | exact Up.refl _ | exact (Up.refl _).drew | exact (Up.refl _).drewN _) h2)
    replace U := Up.trans (by first | exact U | exact U.drew | exact U.drewN _) h2
    clear CS h2
    go_wp2_with (refine store_ob2 rfl 34 _ _ rfl _ #[.bool ng, .slice A n c, .int .i64 tw, .int .i64 fv] #[.bool ng, .slice A m c, .int .i64 tt, .int .i64 gg] rfl rfl 4 (by kernel_rfl) rfl rfl (by simp [Value.oneCell']) w U (Nat.le_refl _) 34 X ?_; clear U X; intro V9 X U ho; clear ho)
    have W0 := Lib.hid U
    have S := Sd3.start (Up.refl V9)
    clear U
    replace TT := Lib.hid (TT.out.up W0.out)
    replace TF := Lib.hid (TF.out.up W0.out)
    go_wp2_with fail
    refine (Q.fresh_ TF.out (by first | exact S | exact S.pure ((Up.refl _).drew) | exact S.pure ((Up.refl _).drewN _)) i1.out i2.out).mono ?_
    clear S
    rintro _ w3 ⟨p1, rfl, S⟩
    have X9 := X.up (by first | exact S.up | exact S.up.drew | exact S.up.drewN _)
    have X0 := X9.get 0
    have X1 := X9.get 1
    have X2 := X9.get 2
    have X3 := X9.get 3
    simp only [List.getElem?_toArray, List.getElem?_cons_zero, List.getElem?_cons_succ] at X0 X1 X2 X3
    go_wp2_with fail
    clear X0 X1 X2 X3 X9
    refine (Q.load_ TT.out TF.out (by first | exact S | exact S.pure ((Up.refl _).drew) | exact S.pure ((Up.refl _).drewN _)) _ _ _ _ _ _ (N.up (W0.out.trans (by first | exact S.up | exact S.up.drew | exact S.up.drewN _))) BT.out BG.out _ _ HL.out).mono ?_
    clear S
    rintro _ w4 ⟨rfl, S⟩
    go_wp2_with fail
    refine (Q.keep_ TT.out TF.out (by first | exact S | exact S.pure ((Up.refl _).drew) | exact S.pure ((Up.refl _).drewN _))).mono ?_
    clear S
    rintro _ w5 ⟨v, rfl, S⟩
    obtain ⟨B, m1, d1_, rfl⟩ := S.sl
    have X9 := X.up (by first | exact S.up | exact S.up.drew | exact S.up.drewN _)
    have X0 := X9.get 0
    have X1 := X9.get 1
    have X2 := X9.get 2
    have X3 := X9.get 3
    simp only [List.getElem?_toArray, List.getElem?_cons_zero, List.getElem?_cons_succ] at X0 X1 X2 X3
    go_wp2_with fail
    clear X0 X1 X2 X3 X9
    refine (rnd_round _ (Lib.hid (TT.out.up (by first | exact S.up | exact S.up.drew | exact S.up.drewN _))) (Lib.hid (TF.out.up (by first | exact S.up | exact S.up.drew | exact S.up.drewN _))) (i : Int) 1 _ 20 ng _ tt gg a (N.up (W0.out.trans (by first | exact S.up | exact S.up.drew | exact S.up.drewN _))) (by decide) B5.out.1 B5.out.2 a128.out q 0 HR.out).mono ?_
    rintro _ w6 ⟨rfl, u⟩
    replace S := S.pure (Up.trans (by first | exact Up.refl _ | exact (Up.refl _).drew | exact (Up.refl _).drewN _) u)
    clear u
    go_wp2_with fail
    refine (Q.posit_ TT.out TF.out (by first | exact S | exact S.pure ((Up.refl _).drew) | exact S.pure ((Up.refl _).drewN _)) _ HP.out).mono ?_
    clear S
    rintro _ w7 ⟨rfl, S⟩
    go_wp2_with fail
    refine (Q.neg_ TT.out TF.out (by first | exact S | exact S.pure ((Up.refl _).drew) | exact S.pure ((Up.refl _).drewN _))).mono ?_
    clear S
    rintro _ w8 ⟨rfl, S⟩
    go_wp2_with fail
    refine (Q.neg_ TT.out TF.out (by first | exact S | exact S.pure ((Up.refl _).drew) | exact S.pure ((Up.refl _).drewN _))).mono ?_
    clear S
    rintro _ w9 ⟨rfl, S⟩
    rw [HG.out] at S
    go_wp2_with fail
    refine (Q.bits_ TT.out TF.out (by first | exact S | exact S.pure ((Up.refl _).drew) | exact S.pure ((Up.refl _).drewN _))).mono ?_
    clear S
    rintro _ w10 ⟨v1, rfl, hn1, u1, S⟩
    obtain ⟨A1, m2, d2_, rfl⟩ := hn1.sl
    clear u1
    have hw := S.nt
    go_wp2_with fail
    refine (bits15_any _ _ _ _ _ _ _ _ _ _ _ _ _ (by first | exact hn1 | exact hn1.up ((Up.refl _).drew) | exact hn1.up ((Up.refl _).drewN _)) (by first | exact hw | exact hw.up ((Up.refl _).drew) | exact hw.up ((Up.refl _).drewN _)) (by decide) (by decide) true (decide_eq_true rfl)).mono ?_
    rintro _ w11 ⟨rfl, u11⟩
    replace S := S.pure (Up.trans (by first | exact Up.refl _ | exact (Up.refl _).drew | exact (Up.refl _).drewN _) u11)
    clear u11 hn1
    go_wp2_with fail
    go_ret
    exact ⟨by first | rfl | simp, W0.out.trans (by first | exact S.up | exact S.up.drew | exact S.up.drewN _)⟩
end
end Go.Proofs.YtijpffgocookaaaGreatDoor
