import Derived.Test.YtijpffgocookaaaGreatDoorQWQh
import Derived.Deep.RegionHeld3
import Derived.Deep.DeepCutAuto
set_option maxHeartbeats 32000000
set_option linter.unusedVariables false
set_option linter.unusedSimpArgs false
namespace Go.Proofs.YtijpffgocookaaaGreatDoor
open Go.RowKit Go.Shelf
theorem wpAnyH_nameT {P : Program} {md : Region.Mode} {ops : Array Oper} {Q : Exit → Act → World → Prop} {S : World → Prop} {fuel : Nat} {listed : Array Bool} {a : Act} {w : World}
  (hp : ∀ c (d : Nat) v a w, Q (.panic c) (a.put (some d) v) w → Q (.panic c) a w) (h : ∀ Q0 : Exit → Act → World → Prop, (∀ c (d : Nat) v a w, Q0 (.panic c) (a.put (some d) v) w → Q0 (.panic c) a w) → (∀ a w, Q .normal a w → Q0 .normal a w) → wpAnyH P md ops Q0 S fuel listed a w) :
  wpAnyH P md ops Q S fuel listed a w := h Q hp (fun _ _ h => h)
namespace M
theorem qst_zero {i b : Nat} (h : b < 2 ^ qS i) : qst i b (some 0) = b := by
 by_cases e : b = qn i
 ·subst e; exact qst_nar _ _
 ·rw [qst_some e, ad_zero h]
theorem fit_two {i a d : Nat} {ea ed y : Int} {o : Option Nat} (ha : er i (a : Int) = ea) (hd : er i (d : Int) = ed) (h : Qa i a d o y) :
  ((ea == 0) = true ∧ (ed == 0) = true ∧ y = 0 ∧ Qi i a d o) ∨ ((ea == 0) = false ∧ y = 1 ∧ o = some 0) ∨ ((ea == 0) = true ∧ (ed == 0) = false ∧ y = 1 ∧ o = some 0) := by
 have e1 : (ea == 0) = decide ((a : Int) ≤ msk (tb i)) := by
  rw [← ha]; unfold er; split <;> simp_all
 have e2 : (ed == 0) = decide ((d : Int) ≤ msk (tb i)) := by
  rw [← hd]; unfold er; split <;> simp_all
 rw [e1, e2]
 rcases h with ⟨h1, h2, h3⟩ | ⟨h1, ⟨h2, h3⟩, h4⟩
 ·by_cases ca : (a : Int) ≤ msk (tb i)
  ·exact .inr (.inr ⟨decide_eq_true ca, decide_eq_false (fun e => h3 ⟨ca, e⟩), h1, h2⟩)
  ·exact .inr (.inl ⟨decide_eq_false ca, h1, h2⟩)
 ·exact .inl ⟨decide_eq_true h2, decide_eq_true h3, h1, h4⟩
end M
section
variable {Is : Nat → Nat → Nat → Thg}
set_option maxRecDepth 100000 in
theorem qtells_walk (Q : Qui Is) (w : World) (TT : Hid (Tz w)) (TF : Hid (TabF w)) (x0 : Int) (_wx0 : (Lit.int .i64 x0).wf = true) (A : Option Addr) (n c : Nat) (K : Nat → Int) (P R : Nat → Nat) (NG : Nat → Bool) (XA : Nat → Option Addr) (Xn Xc : Nat → Nat) (Xs : Nat → List Nat) (Tw Fv : Nat → Int) (BA : Nat → Option Addr) (Bn Bc : Nat → Nat) (Bs : Nat → List Nat) (h : Stpf w A n c K P R NG XA Xn Xc Xs Tw Fv BA Bn Bc Bs) : Calls Tryz.prog 3 #[.int .i64 x0, .slice A n c] w (True15 w) := by
 have CH := Lib.hid (fun W (u : Up w W) => shown15_any Q W (Lib.hid (TT.out.up u)) (Lib.hid (TF.out.up u)))
 have U := Up.refl w
 by_cases hi : 1 ≤ x0 ∧ x0 ≤ 4
 ·obtain ⟨i, rfl⟩ : ∃ i : Nat, x0 = (i : Int) := ⟨x0.toNat, by omega⟩
  have i1 : Hid (1 ≤ i) := Lib.hid (show 1 ≤ i by omega)
  have i2 : Hid (i ≤ 4) := Lib.hid (show i ≤ 4 by omega)
  clear hi
  have hnc := h.len
  have HM := Lib.hid h.at_
  clear h
  go_enter Tryz.func3, Tryz.ntmps3
  go_wp2_with fail
  refine (CH.out _ (by first | exact U | exact U.drew | exact U.drewN _)).mono ?_
  rintro _ w1 ⟨rfl, h1⟩
  replace U := Up.trans (by first | exact U | exact U.drew | exact U.drewN _) h1
  have S := Sd3.start U
  clear CH h1 U
  go_wp2_with fail
  refine (Q.fresh_ TF.out (by first | exact S | exact S.pure ((Up.refl _).drew) | exact S.pure ((Up.refl _).drewN _)) i1.out i2.out).mono ?_
  clear S
  rintro _ w2 ⟨p1, rfl, S⟩
  replace S := S.swap2
  go_wp2_with fail
  refine (rnew_ (by first | exact S | exact S.pure ((Up.refl _).drew) | exact S.pure ((Up.refl _).drewN _)) i1.out i2.out).mono ?_
  clear S
  rintro _ w3 ⟨q1, rfl, S⟩
  replace S := S.swap2
  go_wp2_with fail
  go_loopw [9] (fun iv wr => ∃ (j b : Nat), iv = .int .i64 (j : Int) ∧ j ≤ n ∧ j ≤ 100 ∧ Sd3 w wr (Is p1 i b) (Rqt q1 i b) Non) (fun iv _ => n - (intOf iv).toNat)
  case atStart => exact ⟨0, 0, rfl, Nat.zero_le _, Nat.zero_le _, (by first | exact S | exact S.pure ((Up.refl _).drew) | exact S.pure ((Up.refl _).drewN _))⟩
  case round =>
   clear S
   obtain ⟨j, b, rfl, hj, hj1, S⟩ := hrel
   by_cases hjn : j < n ∧ j < 100
   ·obtain ⟨jn, j5⟩ := hjn
    have e1 : (j : Int) < (n : Int) := by omega
    have e3 : (j : Int) < 100 := by omega
    obtain ⟨b0, o0, rfl, hc⟩ := HM.out (by omega)
    obtain ⟨⟨hc0, hc1, hc2, hc3, hc4, hc5, hc6, hc7⟩, ⟨hP, hR⟩, ⟨sX, zX⟩, sB, zB⟩ := hc j jn
    obtain ⟨k, hk⟩ : ∃ k, K j = k := ⟨_, rfl⟩
    obtain ⟨a, ha⟩ : ∃ a, P j = a := ⟨_, rfl⟩
    obtain ⟨d, hd⟩ : ∃ d, R j = d := ⟨_, rfl⟩
    obtain ⟨ng, hng⟩ : ∃ ng, NG j = ng := ⟨_, rfl⟩
    obtain ⟨XA1, hXA⟩ : ∃ XA1, XA j = XA1 := ⟨_, rfl⟩
    obtain ⟨xn1, hxn⟩ : ∃ xn1, Xn j = xn1 := ⟨_, rfl⟩
    obtain ⟨xc1, hxc⟩ : ∃ xc1, Xc j = xc1 := ⟨_, rfl⟩
    obtain ⟨tw, htw⟩ : ∃ tw, Tw j = tw := ⟨_, rfl⟩
    obtain ⟨fv, hfv⟩ : ∃ fv, Fv j = fv := ⟨_, rfl⟩
    obtain ⟨BA1, hBA⟩ : ∃ BA1, BA j = BA1 := ⟨_, rfl⟩
    obtain ⟨bn1, hbn⟩ : ∃ bn1, Bn j = bn1 := ⟨_, rfl⟩
    obtain ⟨bc1, hbc⟩ : ∃ bc1, Bc j = bc1 := ⟨_, rfl⟩
    rw [hk] at hc0
    rw [ha] at hc1 hP
    rw [hd] at hc2 hR
    rw [hng] at hc3
    rw [hXA, hxn, hxc] at hc4 sX
    rw [hXA, hxn] at zX
    rw [htw] at hc5
    rw [hfv] at hc6
    rw [hBA, hbn, hbc] at hc7 sB
    rw [hBA, hbn] at zB
    obtain ⟨oo, y, hqa⟩ := M.qa_ex i1.out i2.out a d
    have HA := Lib.hid hqa
    obtain ⟨ea, hea⟩ : ∃ ea, M.er i (a : Int) = ea := ⟨_, rfl⟩
    obtain ⟨ed, hed⟩ : ∃ ed, M.er i (d : Int) = ed := ⟨_, rfl⟩
    have CF1 := Lib.hid (fun W => rfits_in W i i1.out (M.four14 i2.out) (a : Int) ea (Lib.hid hea))
    have CF2 := Lib.hid (fun W => rfits_in W i i1.out (M.four14 i2.out) (d : Int) ed (Lib.hid hed))
    have HFT := Lib.hid (M.fit_two hea hed hqa)
    obtain ⟨tt, htt⟩ : ∃ z, max (min tw 600) (-600) = z := ⟨_, rfl⟩
    obtain ⟨gg, hgg⟩ : ∃ z, max (min fv 60) (-60) = z := ⟨_, rfl⟩
    obtain ⟨m2, a2, NX, CS⟩ := small15_ex w ng XA1 xn1 xc1 _ tw fv sX zX tt gg htt hgg
    have BT : Hid (-600 ≤ tt ∧ tt ≤ 600) := Lib.hid (show -600 ≤ tt ∧ tt ≤ 600 by omega)
    have BG : Hid (-600 ≤ gg ∧ gg ≤ 600) := Lib.hid (show -600 ≤ gg ∧ gg ≤ 600 by omega)
    have BG6 : Hid (-60 ≤ gg ∧ gg ≤ 60) := Lib.hid (show -60 ≤ gg ∧ gg ≤ 60 by omega)
    obtain ⟨kB, hkB⟩ : ∃ kB : Nat, min (bn1 : Int) 20 = (kB : Int) := ⟨min bn1 20, by omega⟩
    have hkBn : kB ≤ bn1 := by omega
    have kB20 : kB ≤ 20 := by omega
    have hbnc := sB.len
    have hwb := (sB.take (m := kB) (by omega)).wd0 (fun ad e j hj => zB ad e j (by omega)) (by omega)
    obtain ⟨ys, hys⟩ : ∃ ys, (Bs j).take kB = ys := ⟨_, rfl⟩
    rw [hys] at hwb
    have HWB := Lib.hid hwb
    have HB0 := Lib.hid (Q.rng_ S).2.2
    clear hys hwb htt hgg sX zX sB zB
    clear hk ha hd hng hXA hxn hxc htw hfv hBA hbn hbc hc HM hqa hea hed
    have f0 := cell_up S.up hc0
    have f1 := cell_up S.up hc1
    have f2 := cell_up S.up hc2
    have f3 := cell_up S.up hc3
    have f4 := cell_up S.up hc4
    have f5 := cell_up S.up hc5
    have f6 := cell_up S.up hc6
    have f7 := cell_up S.up hc7
    go_upto_region 12 with fail
    clear f0 f1 f2 f3 f4 f5 f6 f7 hc0 hc1 hc2 hc3 hc4 hc5 hc6 hc7
    replace S := (S.swap3.box 36 #[.int .i64 k, .int .u64 (a : Int), .int .u64 (d : Int), .bool ng, .slice XA1 xn1 xc1, .int .i64 tw, .int .i64 fv, .slice BA1 bn1 bc1]).swap3
    obtain ⟨V, hV⟩ : ∃ V, wr.alloc (.cells #[.int .i64 k, .int .u64 (a : Int), .int .u64 (d : Int), .bool ng, .slice XA1 xn1 xc1, .int .i64 tw, .int .i64 fv, .slice BA1 bn1 bc1] 36) = V := ⟨_, rfl⟩
    obtain ⟨xb, hxb⟩ : ∃ xb, wr.heap.size = xb := ⟨_, rfl⟩
    rw [hV, hxb] at S
    rw [hV, hxb]
    clear hV hxb
    obtain ⟨fb, HFB⟩ : ∃ fb : Bool, Hid ((fb = true ∧ y = 0 ∧ M.Qi i a d oo) ∨ (fb = false ∧ y = 1 ∧ oo = some 0)) ∧ Hid (((ea == 0) = true ∧ (ed == 0) = true ∧ fb = true) ∨ ((ea == 0) = false ∧ fb = false) ∨ ((ea == 0) = true ∧ (ed == 0) = false ∧ fb = false)) := by
     rcases HFT.out with ⟨h1, h2, h3, h4⟩ | ⟨h1, h2, h3⟩ | ⟨h1, h2, h3, h4⟩
     ·exact ⟨true, Lib.hid (.inl ⟨rfl, h3, h4⟩), Lib.hid (.inl ⟨h1, h2, rfl⟩)⟩
     ·exact ⟨false, Lib.hid (.inr ⟨rfl, h2, h3⟩), Lib.hid (.inr (.inl ⟨h1, rfl⟩))⟩
     ·exact ⟨false, Lib.hid (.inr ⟨rfl, h3, h4⟩), Lib.hid (.inr (.inr ⟨h1, h2, rfl⟩))⟩
    obtain ⟨HFB, HFC⟩ := HFB
    clear HFT
    go_upto_region 13 with fail
    go_cut [12] from 47 to 250 (fun f12 wx => f12 = .bool fb ∧ Sd3 w wx (Is p1 i b) (Rqt q1 i b) (Obt xb 36 #[.int .i64 k, .int .u64 (a : Int), .int .u64 (d : Int), .bool ng, .slice XA1 xn1 xc1, .int .i64 tw, .int .i64 fv, .slice BA1 bn1 bc1]))
    case first =>
     rcases HFC.out with ⟨z1, z2, rfl⟩ | ⟨z1, rfl⟩ | ⟨z1, z2, rfl⟩
     ·have XO := S.ob
      have X0 := XO.get 0
      have X1 := XO.get 1
      have X2 := XO.get 2
      have X3 := XO.get 3
      have X4 := XO.get 4
      have X5 := XO.get 5
      have X6 := XO.get 6
      have X7 := XO.get 7
      simp only [M.z7, M.z8, M.z9] at X0 X1 X2 X3 X4 X5 X6 X7
      go_wp2_with fail
      clear XO X0 X1 X2 X3 X4 X5 X6 X7
      refine (CF1.out _).mono ?_
      rintro _ w31 ⟨rfl, u⟩
      replace S := S.pure (Up.trans (by first | exact Up.refl _ | exact (Up.refl _).drew | exact (Up.refl _).drewN _) u)
      clear u
      have XO := S.ob
      have X0 := XO.get 0
      have X1 := XO.get 1
      have X2 := XO.get 2
      have X3 := XO.get 3
      have X4 := XO.get 4
      have X5 := XO.get 5
      have X6 := XO.get 6
      have X7 := XO.get 7
      simp only [M.z7, M.z8, M.z9] at X0 X1 X2 X3 X4 X5 X6 X7
      go_wp2_with fail
      clear XO X0 X1 X2 X3 X4 X5 X6 X7
      refine (CF2.out _).mono ?_
      rintro _ w32 ⟨rfl, u⟩
      replace S := S.pure (Up.trans (by first | exact Up.refl _ | exact (Up.refl _).drew | exact (Up.refl _).drewN _) u)
      clear u
      go_wp2_with fail
      go_meet
      exact ⟨rfl, (by first | exact S | exact S.pure ((Up.refl _).drew) | exact S.pure ((Up.refl _).drewN _))⟩
     ·have XO := S.ob
      have X0 := XO.get 0
      have X1 := XO.get 1
      have X2 := XO.get 2
      have X3 := XO.get 3
      have X4 := XO.get 4
      have X5 := XO.get 5
      have X6 := XO.get 6
      have X7 := XO.get 7
      simp only [M.z7, M.z8, M.z9] at X0 X1 X2 X3 X4 X5 X6 X7
      go_wp2_with fail
      clear XO X0 X1 X2 X3 X4 X5 X6 X7
      refine (CF1.out _).mono ?_
      rintro _ w31 ⟨rfl, u⟩
      replace S := S.pure (Up.trans (by first | exact Up.refl _ | exact (Up.refl _).drew | exact (Up.refl _).drewN _) u)
      clear u
      go_wp2_with fail
      go_meet
      exact ⟨rfl, (by first | exact S | exact S.pure ((Up.refl _).drew) | exact S.pure ((Up.refl _).drewN _))⟩
     ·have XO := S.ob
      have X0 := XO.get 0
      have X1 := XO.get 1
      have X2 := XO.get 2
      have X3 := XO.get 3
      have X4 := XO.get 4
      have X5 := XO.get 5
      have X6 := XO.get 6
      have X7 := XO.get 7
      simp only [M.z7, M.z8, M.z9] at X0 X1 X2 X3 X4 X5 X6 X7
      go_wp2_with fail
      clear XO X0 X1 X2 X3 X4 X5 X6 X7
      refine (CF1.out _).mono ?_
      rintro _ w31 ⟨rfl, u⟩
      replace S := S.pure (Up.trans (by first | exact Up.refl _ | exact (Up.refl _).drew | exact (Up.refl _).drewN _) u)
      clear u
      have XO := S.ob
      have X0 := XO.get 0
      have X1 := XO.get 1
      have X2 := XO.get 2
      have X3 := XO.get 3
      have X4 := XO.get 4
      have X5 := XO.get 5
      have X6 := XO.get 6
      have X7 := XO.get 7
      simp only [M.z7, M.z8, M.z9] at X0 X1 X2 X3 X4 X5 X6 X7
      go_wp2_with fail
      clear XO X0 X1 X2 X3 X4 X5 X6 X7
      refine (CF2.out _).mono ?_
      rintro _ w32 ⟨rfl, u⟩
      replace S := S.pure (Up.trans (by first | exact Up.refl _ | exact (Up.refl _).drew | exact (Up.refl _).drewN _) u)
      clear u
      go_wp2_with fail
      go_meet
      exact ⟨rfl, (by first | exact S | exact S.pure ((Up.refl _).drew) | exact S.pure ((Up.refl _).drewN _))⟩
    case rest =>
     obtain ⟨rfl, S⟩ := hcut
     clear HFC CF1 CF2
     have XO := S.ob
     have X0 := XO.get 0
     have X1 := XO.get 1
     have X2 := XO.get 2
     have X3 := XO.get 3
     have X4 := XO.get 4
     have X5 := XO.get 5
     have X6 := XO.get 6
     have X7 := XO.get 7
     simp only [M.z7, M.z8, M.z9] at X0 X1 X2 X3 X4 X5 X6 X7
     go_upto_block 2 with fail
     clear XO X0 X1 X2 X3 X4 X5 X6 X7
     go_cut [11, 13, 14, 15, 16, 17, 18] from 47 to 250 (fun f11 f13 f14 f15 f16 f17 f18 wx => f11 = .bool true ∧ ∃ b2, Sd3 w wx (Is p1 i b2) (Rqt q1 i b2) Non)
     case first =>
      rcases (show (k = 0 ∨ k = 1 ∨ k = 2 ∨ k = 3) ∨ (k = 4 ∨ k = 5) ∨ k = 6 ∨ k = 7 ∨ k = 8 ∨ k = 9 ∨ (k ≠ 0 ∧ k ≠ 1 ∧ k ≠ 2 ∧ k ≠ 3 ∧ k ≠ 4 ∧ k ≠ 5 ∧ k ≠ 6 ∧ k ≠ 7 ∧ k ≠ 8 ∧ k ≠ 9) by omega) with hk | hk | rfl | rfl | rfl | rfl | ⟨k0, k1, k2, k3, k4, k5, k6, k7, k8, k9⟩
      ·rcases hk with rfl | rfl | rfl | rfl
       all_goals as_aux_lemma =>
        rcases HFB.out with ⟨rfl, rfl, hqi⟩ | ⟨rfl, rfl, ho⟩
        ·have HQI := Lib.hid hqi
         clear hqi
         have XO := S.ob
         have X0 := XO.get 0
         have X1 := XO.get 1
         have X2 := XO.get 2
         have X3 := XO.get 3
         have X4 := XO.get 4
         have X5 := XO.get 5
         have X6 := XO.get 6
         have X7 := XO.get 7
         simp only [M.z7, M.z8, M.z9] at X0 X1 X2 X3 X4 X5 X6 X7
         go_wp2_with fail
         clear XO X0 X1 X2 X3 X4 X5 X6 X7
         refine (Q.add_ TT.out TF.out (by first | exact S | exact S.pure ((Up.refl _).drew) | exact S.pure ((Up.refl _).drewN _)) a d hP hR _ _ HA.out).mono ?_
         clear S
         rintro _ w41 ⟨rfl, S⟩
         replace S := S.swap2
         have XO := S.ob
         have X0 := XO.get 0
         have X1 := XO.get 1
         have X2 := XO.get 2
         have X3 := XO.get 3
         have X4 := XO.get 4
         have X5 := XO.get 5
         have X6 := XO.get 6
         have X7 := XO.get 7
         simp only [M.z7, M.z8, M.z9] at X0 X1 X2 X3 X4 X5 X6 X7
         go_wp2_with fail
         clear XO X0 X1 X2 X3 X4 X5 X6 X7
         refine (radd_ (by first | exact S | exact S.pure ((Up.refl _).drew) | exact S.pure ((Up.refl _).drewN _)) a d hP hR oo HQI.out false).mono ?_
         clear S
         rintro _ w42 ⟨rfl, S⟩
         replace S := S.swap2
         rw [show M.les i false oo = oo from rfl] at S
         replace S := S.swap3.drop.swap3
         go_wp2_with fail
         go_meet
         exact ⟨rfl, _, (by first | exact S | exact S.pure ((Up.refl _).drew) | exact S.pure ((Up.refl _).drewN _))⟩
        ·have HO := Lib.hid ho
         clear ho
         have XO := S.ob
         have X0 := XO.get 0
         have X1 := XO.get 1
         have X2 := XO.get 2
         have X3 := XO.get 3
         have X4 := XO.get 4
         have X5 := XO.get 5
         have X6 := XO.get 6
         have X7 := XO.get 7
         simp only [M.z7, M.z8, M.z9] at X0 X1 X2 X3 X4 X5 X6 X7
         go_wp2_with fail
         clear XO X0 X1 X2 X3 X4 X5 X6 X7
         refine (Q.add_ TT.out TF.out (by first | exact S | exact S.pure ((Up.refl _).drew) | exact S.pure ((Up.refl _).drewN _)) a d hP hR _ _ HA.out).mono ?_
         clear S
         rintro _ w41 ⟨rfl, S⟩
         rw [HO.out, M.qst_zero (HB0.out)] at S
         replace S := S.swap3.drop.swap3
         go_wp2_with fail
         go_meet
         exact ⟨rfl, _, (by first | exact S | exact S.pure ((Up.refl _).drew) | exact S.pure ((Up.refl _).drewN _))⟩
      ·rcases hk with rfl | rfl
       all_goals as_aux_lemma =>
        rcases HFB.out with ⟨rfl, rfl, hqi⟩ | ⟨rfl, rfl, ho⟩
        ·have HQI := Lib.hid hqi
         clear hqi
         have XO := S.ob
         have X0 := XO.get 0
         have X1 := XO.get 1
         have X2 := XO.get 2
         have X3 := XO.get 3
         have X4 := XO.get 4
         have X5 := XO.get 5
         have X6 := XO.get 6
         have X7 := XO.get 7
         simp only [M.z7, M.z8, M.z9] at X0 X1 X2 X3 X4 X5 X6 X7
         go_wp2_with fail
         clear XO X0 X1 X2 X3 X4 X5 X6 X7
         refine (Q.sub_ TT.out TF.out (by first | exact S | exact S.pure ((Up.refl _).drew) | exact S.pure ((Up.refl _).drewN _)) a d hP hR _ _ HA.out).mono ?_
         clear S
         rintro _ w41 ⟨rfl, S⟩
         replace S := S.swap2
         have XO := S.ob
         have X0 := XO.get 0
         have X1 := XO.get 1
         have X2 := XO.get 2
         have X3 := XO.get 3
         have X4 := XO.get 4
         have X5 := XO.get 5
         have X6 := XO.get 6
         have X7 := XO.get 7
         simp only [M.z7, M.z8, M.z9] at X0 X1 X2 X3 X4 X5 X6 X7
         go_wp2_with fail
         clear XO X0 X1 X2 X3 X4 X5 X6 X7
         refine (radd_ (by first | exact S | exact S.pure ((Up.refl _).drew) | exact S.pure ((Up.refl _).drewN _)) a d hP hR oo HQI.out true).mono ?_
         clear S
         rintro _ w42 ⟨rfl, S⟩
         replace S := S.swap2
         rw [show M.les i true oo = M.tk i true oo from rfl] at S
         replace S := S.swap3.drop.swap3
         go_wp2_with fail
         go_meet
         exact ⟨rfl, _, (by first | exact S | exact S.pure ((Up.refl _).drew) | exact S.pure ((Up.refl _).drewN _))⟩
        ·have HO := Lib.hid ho
         clear ho
         have XO := S.ob
         have X0 := XO.get 0
         have X1 := XO.get 1
         have X2 := XO.get 2
         have X3 := XO.get 3
         have X4 := XO.get 4
         have X5 := XO.get 5
         have X6 := XO.get 6
         have X7 := XO.get 7
         simp only [M.z7, M.z8, M.z9] at X0 X1 X2 X3 X4 X5 X6 X7
         go_wp2_with fail
         clear XO X0 X1 X2 X3 X4 X5 X6 X7
         refine (Q.sub_ TT.out TF.out (by first | exact S | exact S.pure ((Up.refl _).drew) | exact S.pure ((Up.refl _).drewN _)) a d hP hR _ _ HA.out).mono ?_
         clear S
         rintro _ w41 ⟨rfl, S⟩
         rw [HO.out, show M.tk i true (some 0) = some 0 from (congrArg some M.ng_zero), M.qst_zero (HB0.out)] at S
         replace S := S.swap3.drop.swap3
         go_wp2_with fail
         go_meet
         exact ⟨rfl, _, (by first | exact S | exact S.pure ((Up.refl _).drew) | exact S.pure ((Up.refl _).drewN _))⟩
      ·as_aux_lemma =>
        have XO := S.ob
        have X0 := XO.get 0
        have X1 := XO.get 1
        have X2 := XO.get 2
        have X3 := XO.get 3
        have X4 := XO.get 4
        have X5 := XO.get 5
        have X6 := XO.get 6
        have X7 := XO.get 7
        simp only [M.z7, M.z8, M.z9] at X0 X1 X2 X3 X4 X5 X6 X7
        go_wp2_with fail
        clear XO X0 X1 X2 X3 X4 X5 X6 X7
        refine (Q.neg_ TT.out TF.out (by first | exact S | exact S.pure ((Up.refl _).drew) | exact S.pure ((Up.refl _).drewN _))).mono ?_
        clear S
        rintro _ w41 ⟨rfl, S⟩
        replace S := S.swap2
        have XO := S.ob
        have X0 := XO.get 0
        have X1 := XO.get 1
        have X2 := XO.get 2
        have X3 := XO.get 3
        have X4 := XO.get 4
        have X5 := XO.get 5
        have X6 := XO.get 6
        have X7 := XO.get 7
        simp only [M.z7, M.z8, M.z9] at X0 X1 X2 X3 X4 X5 X6 X7
        go_wp2_with fail
        clear XO X0 X1 X2 X3 X4 X5 X6 X7
        refine (rneg_ (by first | exact S | exact S.pure ((Up.refl _).drew) | exact S.pure ((Up.refl _).drewN _))).mono ?_
        clear S
        rintro _ w42 ⟨rfl, S⟩
        replace S := S.swap2
        replace S := S.swap3.drop.swap3
        go_wp2_with fail
        go_meet
        exact ⟨rfl, _, (by first | exact S | exact S.pure ((Up.refl _).drew) | exact S.pure ((Up.refl _).drewN _))⟩
      ·as_aux_lemma =>
        have XO := S.ob
        have X0 := XO.get 0
        have X1 := XO.get 1
        have X2 := XO.get 2
        have X3 := XO.get 3
        have X4 := XO.get 4
        have X5 := XO.get 5
        have X6 := XO.get 6
        have X7 := XO.get 7
        simp only [M.z7, M.z8, M.z9] at X0 X1 X2 X3 X4 X5 X6 X7
        go_wp2_with fail
        clear XO X0 X1 X2 X3 X4 X5 X6 X7
        refine (Q.clear_ TT.out TF.out (by first | exact S | exact S.pure ((Up.refl _).drew) | exact S.pure ((Up.refl _).drewN _))).mono ?_
        clear S
        rintro _ w41 ⟨rfl, S⟩
        replace S := S.swap3.drop
        obtain ⟨S0, hS0⟩ : ∃ S0, M.qS i = S0 := ⟨_, rfl⟩
        have bS0 : 128 ≤ S0 ∧ S0 ≤ 1024 := by have := M.q_facts i1.out i2.out; omega
        obtain ⟨A1, c1, l1, r1, r2, r3⟩ := S.rq
        have R12 := r1.get 2
        have R1f := r1.fr 2
        have R1l := Ob.lt r1
        simp only [M.z7, M.z8, M.z9] at R12
        rw [hS0] at R12
        go_wp2_with (at_make; refine wpList_make_rb _ rfl (.tmp 130) (.tmp 130) 40 rfl info_bool Tryz.underlying40 (S0 : Int) (S0 : Int) S0 rfl rfl (by omega) (by omega) (by omega) ?_; intro w48 OL hg8; have q8 := (Ob.up r1 ((Up.refl _).grown hg8 (by simp))); have q82 := q8.get 2; have q8f := q8.fr 2; have q8l := Ob.lt q8; simp only [M.z7, M.z8, M.z9] at q82)
        have S9 := ((S.made (by omega) ((Up.refl _).grown hg8 (by simp)) (Obw.rb_ OL)).swap2.swap32).stored hS0.symm
        rw [M.bq_rep] at S9
        have S := S9.swap2
        clear S9 hg8 OL
        go_meet
        exact ⟨rfl, _, (by first | exact S | exact S.pure ((Up.refl _).drew) | exact S.pure ((Up.refl _).drewN _))⟩
      ·as_aux_lemma =>
        obtain ⟨b1, ef, hld⟩ := M.qld_ex i ng a2 tt gg b
        have HLD := Lib.hid hld
        rcases hld with ⟨h5, rfl, rfl⟩ | ⟨h5, rfl⟩
        ·have H5 := Lib.hid h5
         clear h5
         have XO := S.ob
         have X0 := XO.get 0
         have X1 := XO.get 1
         have X2 := XO.get 2
         have X3 := XO.get 3
         have X4 := XO.get 4
         have X5 := XO.get 5
         have X6 := XO.get 6
         have X7 := XO.get 7
         simp only [M.z7, M.z8, M.z9] at X0 X1 X2 X3 X4 X5 X6 X7
         go_wp2_with fail
         clear XO X0 X1 X2 X3 X4 X5 X6 X7
         refine (CS.out _ (by first | exact S.up | exact S.up.drew | exact S.up.drewN _)).mono ?_
         rintro _ w41 ⟨rfl, u⟩
         replace S := S.pure (Up.trans (by first | exact Up.refl _ | exact (Up.refl _).drew | exact (Up.refl _).drewN _) u)
         clear u
         have XO := S.ob
         have X0 := XO.get 0
         have X1 := XO.get 1
         have X2 := XO.get 2
         have X3 := XO.get 3
         have X4 := XO.get 4
         have X5 := XO.get 5
         have X6 := XO.get 6
         have X7 := XO.get 7
         simp only [M.z7, M.z8, M.z9] at X0 X1 X2 X3 X4 X5 X6 X7
         go_wp2_with fail
         clear XO X0 X1 X2 X3 X4 X5 X6 X7
         refine (Q.load_ TT.out TF.out (by first | exact S | exact S.pure ((Up.refl _).drew) | exact S.pure ((Up.refl _).drewN _)) _ _ _ _ _ _ (NX.up (by first | exact S.up | exact S.up.drew | exact S.up.drewN _)) BT.out BG.out _ _ HLD.out).mono ?_
         clear S
         rintro _ w42 ⟨rfl, S⟩
         have XO := S.ob
         have X0 := XO.get 0
         have X1 := XO.get 1
         have X2 := XO.get 2
         have X3 := XO.get 3
         have X4 := XO.get 4
         have X5 := XO.get 5
         have X6 := XO.get 6
         have X7 := XO.get 7
         simp only [M.z7, M.z8, M.z9] at X0 X1 X2 X3 X4 X5 X6 X7
         go_wp2_with fail
         clear XO X0 X1 X2 X3 X4 X5 X6 X7
         refine (CS.out _ (by first | exact S.up | exact S.up.drew | exact S.up.drewN _)).mono ?_
         rintro _ w43 ⟨rfl, u⟩
         replace S := S.pure (Up.trans (by first | exact Up.refl _ | exact (Up.refl _).drew | exact (Up.refl _).drewN _) u)
         clear u
         replace S := S.swap2
         have XO := S.ob
         have X0 := XO.get 0
         have X1 := XO.get 1
         have X2 := XO.get 2
         have X3 := XO.get 3
         have X4 := XO.get 4
         have X5 := XO.get 5
         have X6 := XO.get 6
         have X7 := XO.get 7
         simp only [M.z7, M.z8, M.z9] at X0 X1 X2 X3 X4 X5 X6 X7
         go_wp2_with fail
         clear XO X0 X1 X2 X3 X4 X5 X6 X7
         refine (rload_ (by first | exact S | exact S.pure ((Up.refl _).drew) | exact S.pure ((Up.refl _).drewN _)) ng 0 XA1 m2 xc1 a2 tt gg (NX.up (by first | exact S.up | exact S.up.drew | exact S.up.drewN _)) BT.out BG6.out _ false (.inl ⟨H5.out, rfl, rfl⟩)).mono ?_
         clear S
         rintro _ w44 ⟨rfl, S⟩
         replace S := S.swap2
         replace S := S.swap3.drop.swap3
         go_wp2_with fail
         go_meet
         exact ⟨rfl, _, (by first | exact S | exact S.pure ((Up.refl _).drew) | exact S.pure ((Up.refl _).drewN _))⟩
        ·have H5 := Lib.hid h5
         clear h5
         have XO := S.ob
         have X0 := XO.get 0
         have X1 := XO.get 1
         have X2 := XO.get 2
         have X3 := XO.get 3
         have X4 := XO.get 4
         have X5 := XO.get 5
         have X6 := XO.get 6
         have X7 := XO.get 7
         simp only [M.z7, M.z8, M.z9] at X0 X1 X2 X3 X4 X5 X6 X7
         go_wp2_with fail
         clear XO X0 X1 X2 X3 X4 X5 X6 X7
         refine (CS.out _ (by first | exact S.up | exact S.up.drew | exact S.up.drewN _)).mono ?_
         rintro _ w41 ⟨rfl, u⟩
         replace S := S.pure (Up.trans (by first | exact Up.refl _ | exact (Up.refl _).drew | exact (Up.refl _).drewN _) u)
         clear u
         have XO := S.ob
         have X0 := XO.get 0
         have X1 := XO.get 1
         have X2 := XO.get 2
         have X3 := XO.get 3
         have X4 := XO.get 4
         have X5 := XO.get 5
         have X6 := XO.get 6
         have X7 := XO.get 7
         simp only [M.z7, M.z8, M.z9] at X0 X1 X2 X3 X4 X5 X6 X7
         go_wp2_with fail
         clear XO X0 X1 X2 X3 X4 X5 X6 X7
         refine (Q.load_ TT.out TF.out (by first | exact S | exact S.pure ((Up.refl _).drew) | exact S.pure ((Up.refl _).drewN _)) _ _ _ _ _ _ (NX.up (by first | exact S.up | exact S.up.drew | exact S.up.drewN _)) BT.out BG.out _ _ HLD.out).mono ?_
         clear S
         rintro _ w42 ⟨rfl, S⟩
         have XO := S.ob
         have X0 := XO.get 0
         have X1 := XO.get 1
         have X2 := XO.get 2
         have X3 := XO.get 3
         have X4 := XO.get 4
         have X5 := XO.get 5
         have X6 := XO.get 6
         have X7 := XO.get 7
         simp only [M.z7, M.z8, M.z9] at X0 X1 X2 X3 X4 X5 X6 X7
         go_wp2_with fail
         clear XO X0 X1 X2 X3 X4 X5 X6 X7
         refine (CS.out _ (by first | exact S.up | exact S.up.drew | exact S.up.drewN _)).mono ?_
         rintro _ w43 ⟨rfl, u⟩
         replace S := S.pure (Up.trans (by first | exact Up.refl _ | exact (Up.refl _).drew | exact (Up.refl _).drewN _) u)
         clear u
         replace S := S.swap2
         have XO := S.ob
         have X0 := XO.get 0
         have X1 := XO.get 1
         have X2 := XO.get 2
         have X3 := XO.get 3
         have X4 := XO.get 4
         have X5 := XO.get 5
         have X6 := XO.get 6
         have X7 := XO.get 7
         simp only [M.z7, M.z8, M.z9] at X0 X1 X2 X3 X4 X5 X6 X7
         go_wp2_with fail
         clear XO X0 X1 X2 X3 X4 X5 X6 X7
         refine (rload_ (by first | exact S | exact S.pure ((Up.refl _).drew) | exact S.pure ((Up.refl _).drewN _)) ng 0 XA1 m2 xc1 a2 tt gg (NX.up (by first | exact S.up | exact S.up.drew | exact S.up.drewN _)) BT.out BG6.out _ true (.inr ⟨H5.out, rfl⟩)).mono ?_
         clear S
         rintro _ w44 ⟨rfl, S⟩
         replace S := S.swap2
         replace S := S.swap3.drop.swap3
         go_wp2_with fail
         go_meet
         exact ⟨rfl, _, (by first | exact S | exact S.pure ((Up.refl _).drew) | exact S.pure ((Up.refl _).drewN _))⟩
      ·as_aux_lemma =>
        obtain ⟨b1, ef, hst⟩ := M.qs_ex i (M.val ys) b
        have HST := Lib.hid hst
        obtain ⟨S0, hS0⟩ : ∃ S0, M.qS i = S0 := ⟨_, rfl⟩
        have bS0 : 128 ≤ S0 ∧ S0 ≤ 1024 := by have := M.q_facts i1.out i2.out; omega
        rcases hst with ⟨h5, rfl, rfl⟩ | ⟨h5, rfl, rfl⟩
        ·rw [hS0] at h5
         have H5 := Lib.hid h5
         clear h5
         have XO := S.ob
         have X0 := XO.get 0
         have X1 := XO.get 1
         have X2 := XO.get 2
         have X3 := XO.get 3
         have X4 := XO.get 4
         have X5 := XO.get 5
         have X6 := XO.get 6
         have X7 := XO.get 7
         simp only [M.z7, M.z8, M.z9] at X0 X1 X2 X3 X4 X5 X6 X7
         go_wp2_with fail
         clear XO X0 X1 X2 X3 X4 X5 X6 X7
         refine (Q.set_ TT.out TF.out (by first | exact S | exact S.pure ((Up.refl _).drew) | exact S.pure ((Up.refl _).drewN _)) _ _ _ _ _ (HWB.out.up (by first | exact S.up | exact S.up.drew | exact S.up.drewN _)) kB20 _ _ HST.out).mono ?_
         clear S
         rintro _ w41 ⟨rfl, S⟩
         replace S := S.swap3.drop
         obtain ⟨A1, c1, l1, r1, r2, r3⟩ := S.rq
         have R12 := r1.get 2
         have R1f := r1.fr 2
         have R1l := Ob.lt r1
         simp only [M.z7, M.z8, M.z9] at R12
         rw [hS0] at R12
         go_wp2_with fail
         clear R12 R1f R1l r1 r2 r3
         refine ((show Sd3 _ _ _ _ _ from by first | exact S | exact S.pure ((Up.refl _).drew) | exact S.pure ((Up.refl _).drewN _)).row (S := S0) (l := M.bqt S0 (M.val ys)) (r := fun v => .tuple #[v, .bool true]) (by omega) ((truths15_any _ _ _ _ _ ys (HWB.out.up (by first | exact S.up | exact S.up.drew | exact S.up.drewN _)) (by omega) S0 (by omega)).mono (fun e w' hT => by
          rcases hT with ⟨_, A, c, h1, h2, h3⟩ | ⟨h1, _⟩
          ·exact ⟨A, c, h1, h2, h3⟩
          ·exact absurd H5.out h1))).mono ?_
         clear S
         rintro _ w50 ⟨tv, rfl, S50⟩
         obtain ⟨tA, tc, rfl⟩ := S50.bsl
         obtain ⟨A1, c1, l1, r1, r2, r3⟩ := S50.rq
         have R12 := r1.get 2
         have R1f := r1.fr 2
         have R1l := Ob.lt r1
         simp only [M.z7, M.z8, M.z9] at R12
         go_wp2_with fail
         have S9 := (S50.swap2.swap32).stored hS0.symm
         rw [M.bq_bqt, Nat.mod_eq_of_lt H5.out] at S9
         have S := S9.swap2
         clear S9 R12 R1f R1l r1 r2 r3
         go_meet
         exact ⟨rfl, _, (by first | exact S | exact S.pure ((Up.refl _).drew) | exact S.pure ((Up.refl _).drewN _))⟩
        ·rw [hS0] at h5
         have H5 := Lib.hid h5
         clear h5
         have XO := S.ob
         have X0 := XO.get 0
         have X1 := XO.get 1
         have X2 := XO.get 2
         have X3 := XO.get 3
         have X4 := XO.get 4
         have X5 := XO.get 5
         have X6 := XO.get 6
         have X7 := XO.get 7
         simp only [M.z7, M.z8, M.z9] at X0 X1 X2 X3 X4 X5 X6 X7
         go_wp2_with fail
         clear XO X0 X1 X2 X3 X4 X5 X6 X7
         refine (Q.set_ TT.out TF.out (by first | exact S | exact S.pure ((Up.refl _).drew) | exact S.pure ((Up.refl _).drewN _)) _ _ _ _ _ (HWB.out.up (by first | exact S.up | exact S.up.drew | exact S.up.drewN _)) kB20 _ _ HST.out).mono ?_
         clear S
         rintro _ w41 ⟨rfl, S⟩
         replace S := S.swap3.drop
         obtain ⟨A1, c1, l1, r1, r2, r3⟩ := S.rq
         have R12 := r1.get 2
         have R1f := r1.fr 2
         have R1l := Ob.lt r1
         simp only [M.z7, M.z8, M.z9] at R12
         rw [hS0] at R12
         go_wp2_with fail
         clear R12 R1f R1l r1 r2 r3
         refine (truths15_any _ _ _ _ _ ys (HWB.out.up (by first | exact S.up | exact S.up.drew | exact S.up.drewN _)) (by omega) S0 (by omega)).mono ?_
         rintro _ w50 (⟨e, _⟩ | ⟨_, rfl, u⟩)
         ·exact absurd e H5.out
         replace S := S.pure (Up.trans (by first | exact Up.refl _ | exact (Up.refl _).drew | exact (Up.refl _).drewN _) u)
         clear u
         replace S := S.swap3
         go_wp2_with fail
         go_meet
         exact ⟨rfl, _, (by first | exact S | exact S.pure ((Up.refl _).drew) | exact S.pure ((Up.refl _).drewN _))⟩
      ·as_aux_lemma =>
        have z0 : (k == 0) = false := by simpa using k0
        have z1 : (k == 1) = false := by simpa using k1
        have z2 : (k == 2) = false := by simpa using k2
        have z3 : (k == 3) = false := by simpa using k3
        have z4 : (k == 4) = false := by simpa using k4
        have z5 : (k == 5) = false := by simpa using k5
        have z6 : (k == 6) = false := by simpa using k6
        have z7 : (k == 7) = false := by simpa using k7
        have z8 : (k == 8) = false := by simpa using k8
        have z9 : (k == 9) = false := by simpa using k9
        clear k0 k1 k2 k3 k4 k5 k6 k7 k8 k9
        replace S := S.swap3.drop.swap3
        go_wp2_with fail
        go_meet
        exact ⟨rfl, _, (by first | exact S | exact S.pure ((Up.refl _).drew) | exact S.pure ((Up.refl _).drewN _))⟩
     case rest =>
      obtain ⟨rfl, b2, S⟩ := hcut
      obtain ⟨V, hV⟩ : ∃ V, V = wc := ⟨_, rfl⟩
      subst hV
      clear CS NX HWB
      have hb2 := (Q.rng_ S).2.2
      obtain ⟨F, G, H, hF, hG, _⟩ := S.st
      obtain ⟨A1, c1, l1, r1, r2, r3⟩ := S.rq
      obtain ⟨q0, hq0, q0b⟩ := M.qp_ex (b := b2) i1.out i2.out
      obtain ⟨S0, hS0⟩ : ∃ S0, M.qS i = S0 := ⟨_, rfl⟩
      have bS0 : 128 ≤ S0 ∧ S0 ≤ 1024 := by have := M.q_facts i1.out i2.out; omega
      rw [hS0] at r2
      by_cases hn : b2 = M.qn i
      ·have hnr : decide (b2 = M.qn i) = true := decide_eq_true hn
       as_aux_lemma =>
        have KF : Hid (∀ W : World, Up V W → Is p1 i b2 W F) := fun W u => (Q.kpt p1 i b2).keep _ _ _ hF (Up.size u) (fun k hk => Below.block u k ((Q.kpt p1 i b2).old _ _ hF k hk))
        have KG : Hid (∀ W : World, Up V W → Rqt q1 i b2 W G) := fun W u => (hG.stay u).1
        have KT : Hid (∀ W : World, Up V W → Tz W) := fun W u => TT.out.up (S.up.trans u)
        have KT2 : Hid (∀ W : World, Up V W → TabF W) := fun W u => TF.out.up (S.up.trans u)
        have CRn := Lib.hid (fun W (u : Up V W) => rnar15 (KG.out W u) true hnr)
        have CQn := Lib.hid (fun W (u : Up V W) => Q.nar (KF.out W u) (KT.out W u) (KT2.out W u) true hnr)
        have CB := Lib.hid (fun W (u : Up V W) => Q.bits (KF.out W u) (KT.out W u) (KT2.out W u))
        have CPo := Lib.hid (fun W (u : Up V W) => Q.posit (KF.out W u) (KT.out W u) (KT2.out W u) (q0 : Int) hq0)
        have CRp := Lib.hid (fun W (u : Up V W) => posit15_any (KG.out W u) (q0 : Int) hq0)
        have CNm := Lib.hid (fun W (u : Up V W) => number15_any W 0 A1 S0 c1 l1 (r2.up u) (by omega))
        rw [r3] at CNm
        have HS7 : Hid ((S0 + 63) / 64 ≤ 1000000) := Lib.hid (show (S0 + 63) / 64 ≤ 1000000 by omega)
        have CBi := Lib.hid (fun W lo lo' A n c A' n' c' (N : Nt W lo 20 (.slice A n c) b2) (N' : Nt W lo' ((S0 + 63) / 64) (.slice A' n' c') b2) => bits15_any W lo lo' 20 ((S0 + 63) / 64) A A' n c n' c' b2 b2 N N' (by decide) HS7.out true (decide_eq_true rfl))
        have CV := Lib.hid (fun W (u : Up V W) => Q.value_ (KF.out W u) (KT.out W u) (KT2.out W u) hn)
        have CSm := Lib.hid (fun W lo A n c (N : Nt W lo 0 (.slice A n c) 0) => same15_any W lo 0 0 0 false A none n c 0 0 0 0 0 N (Nt.nil _ _ _) (by decide))
        have R12 := r1.get 2
        simp only [M.z7, M.z8, M.z9] at R12
        rw [hS0] at R12
        clear hn hnr hq0 hS0 r1 r2 r3 hF hG hb2 bS0
        have U0 := Up.refl V
        go_wp2_with fail
        refine (CRn.out _ (by first | exact U0 | exact U0.drewN _ | exact U0.drew)).mono ?_
        rintro _ y1 ⟨rfl, u1⟩
        have U1 : Up V y1 := Up.trans (by first | exact U0 | exact U0.drewN _ | exact U0.drew) u1
        clear u1 CRn
        go_wp2_with fail
        refine (CV.out _ (by first | exact U1 | exact U1.drewN _ | exact U1.drew)).mono ?_
        rintro _ y2 ⟨vv_, rfl, NV, u2⟩
        obtain ⟨Av, nv, cv, rfl⟩ := NV.sl
        have U2 : Up V y2 := Up.trans (by first | exact U1 | exact U1.drewN _ | exact U1.drew) u2
        clear u2 CV
        go_upto_region 46 with fail
        obtain ⟨VX, hVX⟩ : ∃ VX, y2.alloc (.cells #[.bool false, .slice Av nv cv, .int .i64 0, .int .i64 0] 34) = VX := ⟨_, rfl⟩
        have X : Ob VX y2.heap.size 34 #[.bool false, .slice Av nv cv, .int .i64 0, .int .i64 0] := by rw [← hVX]; exact Ob.mk_ _ _ _
        have uX : Up y2 VX := Up.al hVX
        obtain ⟨vb, hvb⟩ : ∃ vb, y2.heap.size = vb := ⟨_, rfl⟩
        rw [hVX]
        rw [hvb] at X ⊢
        clear hVX hvb
        have U3 : Up V VX := U2.trans uX
        replace NV := NV.up uX
        replace R12 := cell_up U3 R12
        clear uX U2 U1 U0
        have UX := Up.refl VX
        replace CQn := Lib.hid (fun W (u : Up VX W) => CQn.out W (U3.trans u))
        replace CB := Lib.hid (fun W (u : Up VX W) => CB.out W (U3.trans u))
        replace CPo := Lib.hid (fun W (u : Up VX W) => CPo.out W (U3.trans u))
        replace CRp := Lib.hid (fun W (u : Up VX W) => CRp.out W (U3.trans u))
        replace CNm := Lib.hid (fun W (u : Up VX W) => CNm.out W (U3.trans u))
        go_region_held3 (fun w' => w'.cell? ⟨q1, 2, none⟩ = some (.slice A1 S0 c1)) (go_keep) (first
         | (go_at_call 30; (refine (CB.out _ (by first | with_reducible assumption | exact UX.drewN _ | exact UX.drew)).mono ?_); rintro _ wba ⟨vba, rfl, Nba, hba⟩; obtain ⟨Aba, nba, cba, rfl⟩ := Nba.sl; have Uba : Up VX wba := Up.trans (by first | with_reducible assumption | exact UX.drewN _ | exact UX.drew) hba; have R12ba := cell_up Uba R12)
         | (go_at_call 31; (refine (CNm.out _ (by first | with_reducible assumption | exact UX.drewN _ | exact UX.drew | exact Uba.drewN _ | exact Uba.drew)).mono ?_); rintro _ wbb ⟨vbb, rfl, Nbb, hbb⟩; obtain ⟨Abb, nbb, cbb, rfl⟩ := Nbb.sl; have Ubb : Up VX wbb := Up.trans (by first | with_reducible assumption | exact UX.drewN _ | exact UX.drew | exact Uba.drewN _ | exact Uba.drew) hbb; have Nbabb := Nba.up (Up.trans (by first | exact Up.refl _ | exact (Up.refl _).drewN _ | exact (Up.refl _).drew) hbb); have R12bb := cell_up Ubb R12)
         | (go_at_call 29; (refine (CBi.out _ _ _ _ _ _ _ _ _ (by first | exact Nbabb | exact Nbabb.up ((Up.refl _).drewN _) | exact Nbabb.up ((Up.refl _).drew)) (by first | exact Nbb | exact Nbb.up ((Up.refl _).drewN _) | exact Nbb.up ((Up.refl _).drew))).mono ?_); rintro _ wbc ⟨rfl, hbc⟩; have Ubc : Up VX wbc := Up.trans (by first | with_reducible assumption | exact UX.drewN _ | exact UX.drew | exact Uba.drewN _ | exact Uba.drew | exact Ubb.drewN _ | exact Ubb.drew) hbc; have R12bc := cell_up Ubc R12)
         | (go_at_call 32; (refine (CQn.out _ (by first | with_reducible assumption | exact UX.drewN _ | exact UX.drew | exact Uba.drewN _ | exact Uba.drew | exact Ubb.drewN _ | exact Ubb.drew | exact Ubc.drewN _ | exact Ubc.drew)).mono ?_); rintro _ wbd ⟨rfl, hbd⟩; have Ubd : Up VX wbd := Up.trans (by first | with_reducible assumption | exact UX.drewN _ | exact UX.drew | exact Uba.drewN _ | exact Uba.drew | exact Ubb.drewN _ | exact Ubb.drew | exact Ubc.drewN _ | exact Ubc.drew) hbd; have R12bd := cell_up Ubd R12)
         | (go_at_call 33; (refine (CPo.out _ (by first | with_reducible assumption | exact UX.drewN _ | exact UX.drew | exact Uba.drewN _ | exact Uba.drew | exact Ubb.drewN _ | exact Ubb.drew | exact Ubc.drewN _ | exact Ubc.drew | exact Ubd.drewN _ | exact Ubd.drew)).mono ?_); rintro _ wbe ⟨rfl, hbe⟩; have Ube : Up VX wbe := Up.trans (by first | with_reducible assumption | exact UX.drewN _ | exact UX.drew | exact Uba.drewN _ | exact Uba.drew | exact Ubb.drewN _ | exact Ubb.drew | exact Ubc.drewN _ | exact Ubc.drew | exact Ubd.drewN _ | exact Ubd.drew) hbe; have R12be := cell_up Ube R12)
         | (go_at_call 34; (refine (CRp.out _ (by first | with_reducible assumption | exact UX.drewN _ | exact UX.drew | exact Uba.drewN _ | exact Uba.drew | exact Ubb.drewN _ | exact Ubb.drew | exact Ubc.drewN _ | exact Ubc.drew | exact Ubd.drewN _ | exact Ubd.drew | exact Ube.drewN _ | exact Ube.drew)).mono ?_); rintro _ wbf ⟨rfl, hbf⟩; have Ubf : Up VX wbf := Up.trans (by first | with_reducible assumption | exact UX.drewN _ | exact UX.drew | exact Uba.drewN _ | exact Uba.drew | exact Ubb.drewN _ | exact Ubb.drew | exact Ubc.drewN _ | exact Ubc.drew | exact Ubd.drewN _ | exact Ubd.drew | exact Ube.drewN _ | exact Ube.drew) hbf; have R12bf := cell_up Ubf R12))
        go_upto_region 48 with fail
        clear CB CNm CBi CQn CPo CRp R12
        obtain ⟨V4, hV4⟩ : ∃ V4, V4 = wbf := ⟨_, rfl⟩
        subst hV4
        have X4 := X.up Ubf
        have NV4 := NV.up Ubf
        have U5 : Up V V4 := U3.trans Ubf
        clear X NV
        have uD : Up V4 V4.drew := (Up.refl _).drew
        refine wp_region_held_drew (S := fun w' => Ob w' vb 34 #[.bool false, .slice Av nv cv, .int .i64 0, .int .i64 0]) (by kernel_rfl) (X4.up uD) (fun hHeld => ?_)
        refine wpAnyH_nameT (fun _ _ _ _ _ h => h) (fun Q0 HP HN => ?_)
        refine wpAnyH_take (i := 0) (v := ?_) rfl ?_ ?_ ?_ ?_ ?_ ?_ ?_
        rotate_left
        ·kernel_rfl
        ·kernel_rfl
        ·kernel_rfl
        ·exact fun c a w h => HP c _ _ a w h
        ·refine Or.inl ⟨by rfl, ?_⟩
         intro wq hSq
         go_simp
         all_goals with_reducible rfl
        ·assumption
        try simp only [Act.put, M.z1, M.z2, M.z3, M.z4, M.z5, M.z6]
        refine wpAnyH_take (i := 1) (v := ?_) rfl ?_ ?_ ?_ ?_ ?_ ?_ ?_
        rotate_left
        ·kernel_rfl
        ·kernel_rfl
        ·kernel_rfl
        ·exact fun c a w h => HP c _ _ a w h
        ·refine Or.inl ⟨by rfl, ?_⟩
         intro wq hSq
         go_simp
         all_goals with_reducible rfl
        ·assumption
        try simp only [Act.put, M.z1, M.z2, M.z3, M.z4, M.z5, M.z6]
        refine wpAnyH_take (i := 2) (v := ?_) rfl ?_ ?_ ?_ ?_ ?_ ?_ ?_
        rotate_left
        ·kernel_rfl
        ·kernel_rfl
        ·kernel_rfl
        ·exact fun c a w h => HP c _ _ a w h
        ·refine Or.inl ⟨by rfl, ?_⟩
         intro wq hSq
         go_simp
         all_goals with_reducible rfl
        ·assumption
        try simp only [Act.put, M.z1, M.z2, M.z3, M.z4, M.z5, M.z6]
        refine wpAnyH_take (i := 3) (v := undef) rfl ?_ ?_ ?_ ?_ ?_ ?_ ?_
        ·kernel_rfl
        ·kernel_rfl
        ·kernel_rfl
        ·exact fun c a w h => HP c _ _ a w h
        ·refine Or.inr ⟨by rfl, rfl⟩
        ·assumption
        try simp only [Act.put, M.z1, M.z2, M.z3, M.z4, M.z5, M.z6]
        refine wpAnyH_take (i := 4) (v := undef) rfl ?_ ?_ ?_ ?_ ?_ ?_ ?_
        ·kernel_rfl
        ·kernel_rfl
        ·kernel_rfl
        ·exact fun c a w h => HP c _ _ a w h
        ·refine Or.inr ⟨by rfl, rfl⟩
        ·assumption
        try simp only [Act.put, M.z1, M.z2, M.z3, M.z4, M.z5, M.z6]
        refine wpAnyH_take (i := 5) (v := undef) rfl ?_ ?_ ?_ ?_ ?_ ?_ ?_
        ·kernel_rfl
        ·kernel_rfl
        ·kernel_rfl
        ·exact fun c a w h => HP c _ _ a w h
        ·refine Or.inr ⟨by rfl, rfl⟩
        ·assumption
        try simp only [Act.put, M.z1, M.z2, M.z3, M.z4, M.z5, M.z6]
        refine wpAnyH_take (i := 6) (v := undef) rfl ?_ ?_ ?_ ?_ ?_ ?_ ?_
        ·kernel_rfl
        ·kernel_rfl
        ·kernel_rfl
        ·exact fun c a w h => HP c _ _ a w h
        ·refine Or.inr ⟨by rfl, rfl⟩
        ·assumption
        try simp only [Act.put, M.z1, M.z2, M.z3, M.z4, M.z5, M.z6]
        refine wpAnyH_take (i := 7) (v := undef) rfl ?_ ?_ ?_ ?_ ?_ ?_ ?_
        ·kernel_rfl
        ·kernel_rfl
        ·kernel_rfl
        ·exact fun c a w h => HP c _ _ a w h
        ·refine Or.inr ⟨by rfl, rfl⟩
        ·assumption
        try simp only [Act.put, M.z1, M.z2, M.z3, M.z4, M.z5, M.z6]
        refine wpAnyH_take (i := 8) (v := ?_) rfl ?_ ?_ ?_ ?_ ?_ ?_ ?_
        rotate_left
        ·kernel_rfl
        ·kernel_rfl
        ·kernel_rfl
        ·exact fun c a w h => HP c _ _ a w h
        ·refine Or.inl ⟨by rfl, ?_⟩
         intro wq hSq
         go_simp
         all_goals with_reducible rfl
        ·assumption
        try simp only [Act.put, M.z1, M.z2, M.z3, M.z4, M.z5, M.z6]
        refine wpAnyH_take (i := 9) (v := ?_) rfl ?_ ?_ ?_ ?_ ?_ ?_ ?_
        rotate_left
        ·kernel_rfl
        ·kernel_rfl
        ·kernel_rfl
        ·exact fun c a w h => HP c _ _ a w h
        ·refine Or.inl ⟨by rfl, ?_⟩
         intro wq hSq
         go_simp
         all_goals with_reducible rfl
        ·assumption
        try simp only [Act.put, M.z1, M.z2, M.z3, M.z4, M.z5, M.z6]
        refine wpAnyH_take (i := 10) (v := ?_) rfl ?_ ?_ ?_ ?_ ?_ ?_ ?_
        rotate_left
        ·kernel_rfl
        ·kernel_rfl
        ·kernel_rfl
        ·exact fun c a w h => HP c _ _ a w h
        ·refine Or.inl ⟨by rfl, ?_⟩
         intro wq hSq
         go_simp
         all_goals with_reducible rfl
        ·assumption
        try simp only [Act.put, M.z1, M.z2, M.z3, M.z4, M.z5, M.z6]
        refine wpAnyH_take (i := 11) (v := ?_) rfl ?_ ?_ ?_ ?_ ?_ ?_ ?_
        rotate_left
        ·kernel_rfl
        ·kernel_rfl
        ·kernel_rfl
        ·exact fun c a w h => HP c _ _ a w h
        ·refine Or.inl ⟨by rfl, ?_⟩
         intro wq hSq
         go_simp
         all_goals with_reducible rfl
        ·assumption
        try simp only [Act.put, M.z1, M.z2, M.z3, M.z4, M.z5, M.z6]
        refine wpAnyH_take (i := 12) (v := ?_) rfl ?_ ?_ ?_ ?_ ?_ ?_ ?_
        rotate_left
        ·kernel_rfl
        ·kernel_rfl
        ·kernel_rfl
        ·exact fun c a w h => HP c _ _ a w h
        ·refine Or.inl ⟨by rfl, ?_⟩
         intro wq hSq
         have hS0 : Ob wq vb 34 #[.bool false, .slice Av nv cv, .int .i64 0, .int .i64 0] := hSq
         obtain ⟨g0, g1, g2, g3⟩ := hS0.g4
         go_simp
         all_goals with_reducible rfl
        ·assumption
        try simp only [Act.put, M.z1, M.z2, M.z3, M.z4, M.z5, M.z6]
        refine wpAnyH_take (i := 13) (v := ?_) rfl ?_ ?_ ?_ ?_ ?_ ?_ ?_
        rotate_left
        ·kernel_rfl
        ·kernel_rfl
        ·kernel_rfl
        ·exact fun c a w h => HP c _ _ a w h
        ·refine Or.inl ⟨by rfl, ?_⟩
         intro wq hSq
         go_simp
         all_goals with_reducible rfl
        ·assumption
        try simp only [Act.put, M.z1, M.z2, M.z3, M.z4, M.z5, M.z6]
        refine wpAnyH_ready (rs := [14]) ?_ ?_ ?_
        ·kernel_rfl
        ·simp
        refine AllReadyH.cons rfl (fun KQ hK => ?_) AllReadyH.nil
        go_simp
        refine (CSm.out _ _ _ _ _ (NV4.up uD)).mono ?_
        rintro _ z2 ⟨rfl, hz2⟩
        have uz2 : Up V4 z2 := Up.trans uD hz2
        refine hK.out _ _ (X4.up uz2) (fun _ => ?_)
        try simp only [Act.put, M.z1, M.z2, M.z3, M.z4, M.z5, M.z6]
        clear hK
        refine wpAnyH_take (i := 15) (v := ?_) rfl ?_ ?_ ?_ ?_ ?_ ?_ ?_
        rotate_left
        ·kernel_rfl
        ·kernel_rfl
        ·kernel_rfl
        ·exact fun c a w h => HP c _ _ a w h
        ·refine Or.inl ⟨by rfl, ?_⟩
         intro wq hSq
         go_simp
         all_goals with_reducible rfl
        ·assumption
        try simp only [Act.put, M.z1, M.z2, M.z3, M.z4, M.z5, M.z6]
        refine wpAnyH_take (i := 16) (v := ?_) rfl ?_ ?_ ?_ ?_ ?_ ?_ ?_
        rotate_left
        ·kernel_rfl
        ·kernel_rfl
        ·kernel_rfl
        ·exact fun c a w h => HP c _ _ a w h
        ·refine Or.inl ⟨by rfl, ?_⟩
         intro wq hSq
         go_simp
         all_goals with_reducible rfl
        ·assumption
        try simp only [Act.put, M.z1, M.z2, M.z3, M.z4, M.z5, M.z6]
        refine wpAnyH_take (i := 17) (v := ?_) rfl ?_ ?_ ?_ ?_ ?_ ?_ ?_
        rotate_left
        ·kernel_rfl
        ·kernel_rfl
        ·kernel_rfl
        ·exact fun c a w h => HP c _ _ a w h
        ·refine Or.inl ⟨by rfl, ?_⟩
         intro wq hSq
         go_simp
         all_goals with_reducible rfl
        ·assumption
        try simp only [Act.put, M.z1, M.z2, M.z3, M.z4, M.z5, M.z6]
        refine wpAnyH_done ?_ (HN _ _ ?_) _
        ·kernel_rfl
        have S5 := S.pure (U5.trans uz2)
        clear X4 NV4 CSm U5 U3 uz2 hz2
        go_wp2_with fail
        go_roundw
        case rel => exact ⟨j + 1, b2, by go_num, by omega, by omega, S5⟩
        case measure => simp [intOf]; omega
      ·have hnr : decide (b2 = M.qn i) = false := decide_eq_false hn
       as_aux_lemma =>
        have KF : Hid (∀ W : World, Up V W → Is p1 i b2 W F) := fun W u => (Q.kpt p1 i b2).keep _ _ _ hF (Up.size u) (fun k hk => Below.block u k ((Q.kpt p1 i b2).old _ _ hF k hk))
        have KG : Hid (∀ W : World, Up V W → Rqt q1 i b2 W G) := fun W u => (hG.stay u).1
        have KT : Hid (∀ W : World, Up V W → Tz W) := fun W u => TT.out.up (S.up.trans u)
        have KT2 : Hid (∀ W : World, Up V W → TabF W) := fun W u => TF.out.up (S.up.trans u)
        have CRn := Lib.hid (fun W (u : Up V W) => rnar15 (KG.out W u) false hnr)
        have CQn := Lib.hid (fun W (u : Up V W) => Q.nar (KF.out W u) (KT.out W u) (KT2.out W u) false hnr)
        have CB := Lib.hid (fun W (u : Up V W) => Q.bits (KF.out W u) (KT.out W u) (KT2.out W u))
        have CPo := Lib.hid (fun W (u : Up V W) => Q.posit (KF.out W u) (KT.out W u) (KT2.out W u) (q0 : Int) hq0)
        have CRp := Lib.hid (fun W (u : Up V W) => posit15_any (KG.out W u) (q0 : Int) hq0)
        have CNm := Lib.hid (fun W (u : Up V W) => number15_any W 0 A1 S0 c1 l1 (r2.up u) (by omega))
        rw [r3] at CNm
        have HS7 : Hid ((S0 + 63) / 64 ≤ 1000000) := Lib.hid (show (S0 + 63) / 64 ≤ 1000000 by omega)
        have CBi := Lib.hid (fun W lo lo' A n c A' n' c' (N : Nt W lo 20 (.slice A n c) b2) (N' : Nt W lo' ((S0 + 63) / 64) (.slice A' n' c') b2) => bits15_any W lo lo' 20 ((S0 + 63) / 64) A A' n c n' c' b2 b2 N N' (by decide) HS7.out true (decide_eq_true rfl))
        obtain ⟨vs, vN, vt, vk, hqv⟩ := M.qv_ex (i := i) (b := b2) hb2
        have CV := Lib.hid (fun W (u : Up V W) => Q.value (KF.out W u) (KT.out W u) (KT2.out W u) hn vs vN vt vk hqv)
        have CRv := Lib.hid (fun W (u : Up V W) => value15_any (KG.out W u) vs vN vt vk hqv)
        have CSm := Lib.hid (fun W lo lo' A n c A' n' c' (N : Nt W lo 20 (.slice A n c) vN) (N' : Nt W lo' 20 (.slice A' n' c') vN) => same15_any W lo lo' 20 20 vs A A' n c n' c' vt vk vN N N' (by decide))
        clear hqv
        have R12 := r1.get 2
        simp only [M.z7, M.z8, M.z9] at R12
        rw [hS0] at R12
        clear hn hnr hq0 hS0 r1 r2 r3 hF hG hb2 bS0
        have U0 := Up.refl V
        go_wp2_with fail
        refine (CRn.out _ (by first | exact U0 | exact U0.drewN _ | exact U0.drew)).mono ?_
        rintro _ y1 ⟨rfl, u1⟩
        have U1 : Up V y1 := Up.trans (by first | exact U0 | exact U0.drewN _ | exact U0.drew) u1
        clear u1 CRn
        go_wp2_with fail
        refine (CV.out _ (by first | exact U1 | exact U1.drewN _ | exact U1.drew)).mono ?_
        rintro _ y2 ⟨vv_, rfl, NV, u2⟩
        obtain ⟨Av, nv, cv, rfl⟩ := NV.sl
        have U2 : Up V y2 := Up.trans (by first | exact U1 | exact U1.drewN _ | exact U1.drew) u2
        clear u2 CV
        go_upto_region 46 with fail
        obtain ⟨VX, hVX⟩ : ∃ VX, y2.alloc (.cells #[.bool vs, .slice Av nv cv, .int .i64 vt, .int .i64 vk] 34) = VX := ⟨_, rfl⟩
        have X : Ob VX y2.heap.size 34 #[.bool vs, .slice Av nv cv, .int .i64 vt, .int .i64 vk] := by rw [← hVX]; exact Ob.mk_ _ _ _
        have uX : Up y2 VX := Up.al hVX
        obtain ⟨vb, hvb⟩ : ∃ vb, y2.heap.size = vb := ⟨_, rfl⟩
        rw [hVX]
        rw [hvb] at X ⊢
        clear hVX hvb
        have U3 : Up V VX := U2.trans uX
        replace NV := NV.up uX
        replace R12 := cell_up U3 R12
        clear uX U2 U1 U0
        have UX := Up.refl VX
        replace CQn := Lib.hid (fun W (u : Up VX W) => CQn.out W (U3.trans u))
        replace CB := Lib.hid (fun W (u : Up VX W) => CB.out W (U3.trans u))
        replace CPo := Lib.hid (fun W (u : Up VX W) => CPo.out W (U3.trans u))
        replace CRp := Lib.hid (fun W (u : Up VX W) => CRp.out W (U3.trans u))
        replace CNm := Lib.hid (fun W (u : Up VX W) => CNm.out W (U3.trans u))
        replace CRv := Lib.hid (fun W (u : Up VX W) => CRv.out W (U3.trans u))
        go_region_held3 (fun w' => w'.cell? ⟨q1, 2, none⟩ = some (.slice A1 S0 c1)) (go_keep) (first
         | (go_at_call 30; (refine (CB.out _ (by first | with_reducible assumption | exact UX.drewN _ | exact UX.drew)).mono ?_); rintro _ wba ⟨vba, rfl, Nba, hba⟩; obtain ⟨Aba, nba, cba, rfl⟩ := Nba.sl; have Uba : Up VX wba := Up.trans (by first | with_reducible assumption | exact UX.drewN _ | exact UX.drew) hba; have R12ba := cell_up Uba R12)
         | (go_at_call 31; (refine (CNm.out _ (by first | with_reducible assumption | exact UX.drewN _ | exact UX.drew | exact Uba.drewN _ | exact Uba.drew)).mono ?_); rintro _ wbb ⟨vbb, rfl, Nbb, hbb⟩; obtain ⟨Abb, nbb, cbb, rfl⟩ := Nbb.sl; have Ubb : Up VX wbb := Up.trans (by first | with_reducible assumption | exact UX.drewN _ | exact UX.drew | exact Uba.drewN _ | exact Uba.drew) hbb; have Nbabb := Nba.up (Up.trans (by first | exact Up.refl _ | exact (Up.refl _).drewN _ | exact (Up.refl _).drew) hbb); have R12bb := cell_up Ubb R12)
         | (go_at_call 29; (refine (CBi.out _ _ _ _ _ _ _ _ _ (by first | exact Nbabb | exact Nbabb.up ((Up.refl _).drewN _) | exact Nbabb.up ((Up.refl _).drew)) (by first | exact Nbb | exact Nbb.up ((Up.refl _).drewN _) | exact Nbb.up ((Up.refl _).drew))).mono ?_); rintro _ wbc ⟨rfl, hbc⟩; have Ubc : Up VX wbc := Up.trans (by first | with_reducible assumption | exact UX.drewN _ | exact UX.drew | exact Uba.drewN _ | exact Uba.drew | exact Ubb.drewN _ | exact Ubb.drew) hbc; have R12bc := cell_up Ubc R12)
         | (go_at_call 32; (refine (CQn.out _ (by first | with_reducible assumption | exact UX.drewN _ | exact UX.drew | exact Uba.drewN _ | exact Uba.drew | exact Ubb.drewN _ | exact Ubb.drew | exact Ubc.drewN _ | exact Ubc.drew)).mono ?_); rintro _ wbd ⟨rfl, hbd⟩; have Ubd : Up VX wbd := Up.trans (by first | with_reducible assumption | exact UX.drewN _ | exact UX.drew | exact Uba.drewN _ | exact Uba.drew | exact Ubb.drewN _ | exact Ubb.drew | exact Ubc.drewN _ | exact Ubc.drew) hbd; have R12bd := cell_up Ubd R12)
         | (go_at_call 33; (refine (CPo.out _ (by first | with_reducible assumption | exact UX.drewN _ | exact UX.drew | exact Uba.drewN _ | exact Uba.drew | exact Ubb.drewN _ | exact Ubb.drew | exact Ubc.drewN _ | exact Ubc.drew | exact Ubd.drewN _ | exact Ubd.drew)).mono ?_); rintro _ wbe ⟨rfl, hbe⟩; have Ube : Up VX wbe := Up.trans (by first | with_reducible assumption | exact UX.drewN _ | exact UX.drew | exact Uba.drewN _ | exact Uba.drew | exact Ubb.drewN _ | exact Ubb.drew | exact Ubc.drewN _ | exact Ubc.drew | exact Ubd.drewN _ | exact Ubd.drew) hbe; have R12be := cell_up Ube R12)
         | (go_at_call 34; (refine (CRp.out _ (by first | with_reducible assumption | exact UX.drewN _ | exact UX.drew | exact Uba.drewN _ | exact Uba.drew | exact Ubb.drewN _ | exact Ubb.drew | exact Ubc.drewN _ | exact Ubc.drew | exact Ubd.drewN _ | exact Ubd.drew | exact Ube.drewN _ | exact Ube.drew)).mono ?_); rintro _ wbf ⟨rfl, hbf⟩; have Ubf : Up VX wbf := Up.trans (by first | with_reducible assumption | exact UX.drewN _ | exact UX.drew | exact Uba.drewN _ | exact Uba.drew | exact Ubb.drewN _ | exact Ubb.drew | exact Ubc.drewN _ | exact Ubc.drew | exact Ubd.drewN _ | exact Ubd.drew | exact Ube.drewN _ | exact Ube.drew) hbf; have R12bf := cell_up Ubf R12))
        go_upto_region 48 with fail
        clear CB CNm CBi CQn CPo CRp R12
        obtain ⟨V4, hV4⟩ : ∃ V4, V4 = wbf := ⟨_, rfl⟩
        subst hV4
        have X4 := X.up Ubf
        have NV4 := NV.up Ubf
        have U5 : Up V V4 := U3.trans Ubf
        clear X NV
        replace CRv := Lib.hid (fun W (u : Up V4 W) => CRv.out W (Ubf.trans u))
        have uD : Up V4 V4.drew := (Up.refl _).drew
        refine wp_region_held_drew (S := fun w' => Ob w' vb 34 #[.bool vs, .slice Av nv cv, .int .i64 vt, .int .i64 vk]) (by kernel_rfl) (X4.up uD) (fun hHeld => ?_)
        refine wpAnyH_nameT (fun _ _ _ _ _ h => h) (fun Q0 HP HN => ?_)
        refine wpAnyH_take (i := 0) (v := ?_) rfl ?_ ?_ ?_ ?_ ?_ ?_ ?_
        rotate_left
        ·kernel_rfl
        ·kernel_rfl
        ·kernel_rfl
        ·exact fun c a w h => HP c _ _ a w h
        ·refine Or.inl ⟨by rfl, ?_⟩
         intro wq hSq
         go_simp
         all_goals with_reducible rfl
        ·assumption
        try simp only [Act.put, M.z1, M.z2, M.z3, M.z4, M.z5, M.z6]
        refine wpAnyH_take (i := 1) (v := ?_) rfl ?_ ?_ ?_ ?_ ?_ ?_ ?_
        rotate_left
        ·kernel_rfl
        ·kernel_rfl
        ·kernel_rfl
        ·exact fun c a w h => HP c _ _ a w h
        ·refine Or.inl ⟨by rfl, ?_⟩
         intro wq hSq
         go_simp
         all_goals with_reducible rfl
        ·assumption
        try simp only [Act.put, M.z1, M.z2, M.z3, M.z4, M.z5, M.z6]
        refine wpAnyH_take (i := 2) (v := ?_) rfl ?_ ?_ ?_ ?_ ?_ ?_ ?_
        rotate_left
        ·kernel_rfl
        ·kernel_rfl
        ·kernel_rfl
        ·exact fun c a w h => HP c _ _ a w h
        ·refine Or.inl ⟨by rfl, ?_⟩
         intro wq hSq
         go_simp
         all_goals with_reducible rfl
        ·assumption
        try simp only [Act.put, M.z1, M.z2, M.z3, M.z4, M.z5, M.z6]
        refine wpAnyH_take (i := 3) (v := ?_) rfl ?_ ?_ ?_ ?_ ?_ ?_ ?_
        rotate_left
        ·kernel_rfl
        ·kernel_rfl
        ·kernel_rfl
        ·exact fun c a w h => HP c _ _ a w h
        ·refine Or.inl ⟨by rfl, ?_⟩
         intro wq hSq
         have hS0 : Ob wq vb 34 #[.bool vs, .slice Av nv cv, .int .i64 vt, .int .i64 vk] := hSq
         obtain ⟨g0, g1, g2, g3⟩ := hS0.g4
         go_simp
         all_goals with_reducible rfl
        ·assumption
        try simp only [Act.put, M.z1, M.z2, M.z3, M.z4, M.z5, M.z6]
        refine wpAnyH_take (i := 4) (v := ?_) rfl ?_ ?_ ?_ ?_ ?_ ?_ ?_
        rotate_left
        ·kernel_rfl
        ·kernel_rfl
        ·kernel_rfl
        ·exact fun c a w h => HP c _ _ a w h
        ·refine Or.inl ⟨by rfl, ?_⟩
         intro wq hSq
         go_simp
         all_goals with_reducible rfl
        ·assumption
        try simp only [Act.put, M.z1, M.z2, M.z3, M.z4, M.z5, M.z6]
        refine wpAnyH_ready (rs := [5]) ?_ ?_ ?_
        ·kernel_rfl
        ·simp
        refine AllReadyH.cons rfl (fun KQ hK => ?_) AllReadyH.nil
        go_simp
        refine (CRv.out _ uD).mono ?_
        rintro _ z1 ⟨vz1, rfl, NZ, hz1⟩
        have uz1 : Up V4 z1 := Up.trans uD hz1
        obtain ⟨Az, nz, cz, rfl⟩ := NZ.sl
        refine hK.out _ _ (X4.up uz1) (fun _ => ?_)
        try simp only [Act.put, M.z1, M.z2, M.z3, M.z4, M.z5, M.z6]
        clear hK
        refine wpAnyH_ready (rs := [6]) ?_ ?_ ?_
        ·kernel_rfl
        ·simp
        refine AllReadyH.cons rfl (fun KQ hK => ?_) AllReadyH.nil
        go_simp
        refine (CSm.out _ _ _ _ _ _ _ _ _ (NV4.up uz1) NZ).mono ?_
        rintro _ z2 ⟨rfl, hz2⟩
        have uz2 : Up V4 z2 := Up.trans uz1 hz2
        refine hK.out _ _ (X4.up uz2) (fun _ => ?_)
        try simp only [Act.put, M.z1, M.z2, M.z3, M.z4, M.z5, M.z6]
        clear hK
        refine wpAnyH_take (i := 7) (v := ?_) rfl ?_ ?_ ?_ ?_ ?_ ?_ ?_
        rotate_left
        ·kernel_rfl
        ·kernel_rfl
        ·kernel_rfl
        ·exact fun c a w h => HP c _ _ a w h
        ·refine Or.inl ⟨by rfl, ?_⟩
         intro wq hSq
         go_simp
         all_goals with_reducible rfl
        ·assumption
        try simp only [Act.put, M.z1, M.z2, M.z3, M.z4, M.z5, M.z6]
        refine wpAnyH_take (i := 8) (v := ?_) rfl ?_ ?_ ?_ ?_ ?_ ?_ ?_
        rotate_left
        ·kernel_rfl
        ·kernel_rfl
        ·kernel_rfl
        ·exact fun c a w h => HP c _ _ a w h
        ·refine Or.inl ⟨by rfl, ?_⟩
         intro wq hSq
         go_simp
         all_goals with_reducible rfl
        ·assumption
        try simp only [Act.put, M.z1, M.z2, M.z3, M.z4, M.z5, M.z6]
        refine wpAnyH_take (i := 9) (v := ?_) rfl ?_ ?_ ?_ ?_ ?_ ?_ ?_
        rotate_left
        ·kernel_rfl
        ·kernel_rfl
        ·kernel_rfl
        ·exact fun c a w h => HP c _ _ a w h
        ·refine Or.inl ⟨by rfl, ?_⟩
         intro wq hSq
         go_simp
         all_goals with_reducible rfl
        ·assumption
        try simp only [Act.put, M.z1, M.z2, M.z3, M.z4, M.z5, M.z6]
        refine wpAnyH_take (i := 10) (v := ?_) rfl ?_ ?_ ?_ ?_ ?_ ?_ ?_
        rotate_left
        ·kernel_rfl
        ·kernel_rfl
        ·kernel_rfl
        ·exact fun c a w h => HP c _ _ a w h
        ·refine Or.inl ⟨by rfl, ?_⟩
         intro wq hSq
         go_simp
         all_goals with_reducible rfl
        ·assumption
        try simp only [Act.put, M.z1, M.z2, M.z3, M.z4, M.z5, M.z6]
        refine wpAnyH_take (i := 11) (v := ?_) rfl ?_ ?_ ?_ ?_ ?_ ?_ ?_
        rotate_left
        ·kernel_rfl
        ·kernel_rfl
        ·kernel_rfl
        ·exact fun c a w h => HP c _ _ a w h
        ·refine Or.inl ⟨by rfl, ?_⟩
         intro wq hSq
         go_simp
         all_goals with_reducible rfl
        ·assumption
        try simp only [Act.put, M.z1, M.z2, M.z3, M.z4, M.z5, M.z6]
        refine wpAnyH_take (i := 12) (v := undef) rfl ?_ ?_ ?_ ?_ ?_ ?_ ?_
        ·kernel_rfl
        ·kernel_rfl
        ·kernel_rfl
        ·exact fun c a w h => HP c _ _ a w h
        ·refine Or.inr ⟨by rfl, rfl⟩
        ·assumption
        try simp only [Act.put, M.z1, M.z2, M.z3, M.z4, M.z5, M.z6]
        refine wpAnyH_take (i := 13) (v := undef) rfl ?_ ?_ ?_ ?_ ?_ ?_ ?_
        ·kernel_rfl
        ·kernel_rfl
        ·kernel_rfl
        ·exact fun c a w h => HP c _ _ a w h
        ·refine Or.inr ⟨by rfl, rfl⟩
        ·assumption
        try simp only [Act.put, M.z1, M.z2, M.z3, M.z4, M.z5, M.z6]
        refine wpAnyH_take (i := 14) (v := undef) rfl ?_ ?_ ?_ ?_ ?_ ?_ ?_
        ·kernel_rfl
        ·kernel_rfl
        ·kernel_rfl
        ·exact fun c a w h => HP c _ _ a w h
        ·refine Or.inr ⟨by rfl, rfl⟩
        ·assumption
        try simp only [Act.put, M.z1, M.z2, M.z3, M.z4, M.z5, M.z6]
        refine wpAnyH_take (i := 15) (v := undef) rfl ?_ ?_ ?_ ?_ ?_ ?_ ?_
        ·kernel_rfl
        ·kernel_rfl
        ·kernel_rfl
        ·exact fun c a w h => HP c _ _ a w h
        ·refine Or.inr ⟨by rfl, rfl⟩
        ·assumption
        try simp only [Act.put, M.z1, M.z2, M.z3, M.z4, M.z5, M.z6]
        refine wpAnyH_take (i := 16) (v := ?_) rfl ?_ ?_ ?_ ?_ ?_ ?_ ?_
        rotate_left
        ·kernel_rfl
        ·kernel_rfl
        ·kernel_rfl
        ·exact fun c a w h => HP c _ _ a w h
        ·refine Or.inl ⟨by rfl, ?_⟩
         intro wq hSq
         go_simp
         all_goals with_reducible rfl
        ·assumption
        try simp only [Act.put, M.z1, M.z2, M.z3, M.z4, M.z5, M.z6]
        refine wpAnyH_take (i := 17) (v := ?_) rfl ?_ ?_ ?_ ?_ ?_ ?_ ?_
        rotate_left
        ·kernel_rfl
        ·kernel_rfl
        ·kernel_rfl
        ·exact fun c a w h => HP c _ _ a w h
        ·refine Or.inl ⟨by rfl, ?_⟩
         intro wq hSq
         go_simp
         all_goals with_reducible rfl
        ·assumption
        try simp only [Act.put, M.z1, M.z2, M.z3, M.z4, M.z5, M.z6]
        refine wpAnyH_done ?_ (HN _ _ ?_) _
        ·kernel_rfl
        have S5 := S.pure (U5.trans uz2)
        clear X4 NV4 CSm U5 U3 uz2 hz2
        go_wp2_with fail
        go_roundw
        case rel => exact ⟨j + 1, b2, by go_num, by omega, by omega, S5⟩
        case measure => simp [intOf]; omega
   ·by_cases jn : j < n
    ·have j5 : j = 100 := by omega
     subst j5
     clear hjn
     obtain ⟨F, G, H, hF, hG, _⟩ := S.st
     obtain ⟨A1, c1, l1, r1, r2, r3⟩ := S.rq
     obtain ⟨V, hV⟩ : ∃ V, V = wr := ⟨_, rfl⟩
     subst hV
     have KF : Hid (∀ W : World, Up V W → Is p1 i b W F) := fun W u => (Q.kpt p1 i b).keep _ _ _ hF (Up.size u) (fun k hk => Below.block u k ((Q.kpt p1 i b).old _ _ hF k hk))
     have CS := Lib.hid (fun W (u : Up V W) => Q.size (KF.out W u) (TT.out.up (S.up.trans u)) (TF.out.up (S.up.trans u)))
     obtain ⟨S0, hS0⟩ : ∃ S0, M.qS i = S0 := ⟨_, rfl⟩
     rw [hS0] at CS r2
     have R12 := r1.get 2
     simp only [M.z7, M.z8, M.z9] at R12
     rw [hS0] at R12
     have UX := Up.refl V
     clear hS0 r1 r2 r3 hF hG KF HM
     go_upto_region 50 with fail
     go_region_held3 (fun w' => w'.cell? ⟨q1, 2, none⟩ = some (.slice A1 S0 c1)) (go_keep) (first
      | (go_at_call 37; (refine (CS.out _ (by first | exact UX | exact UX.drewN _ | exact UX.drew)).mono ?_); rintro _ wA ⟨rfl, hA⟩; have UA : Up V wA := Up.trans (by first | exact UX | exact UX.drewN _ | exact UX.drew) hA; have R12A := cell_up UA R12))
     go_wp2_with fail
     go_ret
     exact ⟨by first | rfl | simp, by first | exact S.up.trans UA | exact (S.up.trans UA).drew | exact (S.up.trans UA).drewN _⟩
    ·obtain rfl : j = n := by omega
     clear hjn
     obtain ⟨F, G, H, hF, hG, _⟩ := S.st
     obtain ⟨A1, c1, l1, r1, r2, r3⟩ := S.rq
     obtain ⟨V, hV⟩ : ∃ V, V = wr := ⟨_, rfl⟩
     subst hV
     have KF : Hid (∀ W : World, Up V W → Is p1 i b W F) := fun W u => (Q.kpt p1 i b).keep _ _ _ hF (Up.size u) (fun k hk => Below.block u k ((Q.kpt p1 i b).old _ _ hF k hk))
     have CS := Lib.hid (fun W (u : Up V W) => Q.size (KF.out W u) (TT.out.up (S.up.trans u)) (TF.out.up (S.up.trans u)))
     obtain ⟨S0, hS0⟩ : ∃ S0, M.qS i = S0 := ⟨_, rfl⟩
     rw [hS0] at CS r2
     have R12 := r1.get 2
     simp only [M.z7, M.z8, M.z9] at R12
     rw [hS0] at R12
     have UX := Up.refl V
     clear hS0 r1 r2 r3 hF hG KF HM
     go_upto_region 50 with fail
     go_region_held3 (fun w' => w'.cell? ⟨q1, 2, none⟩ = some (.slice A1 S0 c1)) (go_keep) (first
      | (go_at_call 37; (refine (CS.out _ (by first | exact UX | exact UX.drewN _ | exact UX.drew)).mono ?_); rintro _ wA ⟨rfl, hA⟩; have UA : Up V wA := Up.trans (by first | exact UX | exact UX.drewN _ | exact UX.drew) hA; have R12A := cell_up UA R12))
     go_wp2_with fail
     go_ret
     exact ⟨by first | rfl | simp, by first | exact S.up.trans UA | exact (S.up.trans UA).drew | exact (S.up.trans UA).drewN _⟩
 ·have HI := Lib.hid hi
  clear hi h
  go_enter Tryz.func3, Tryz.ntmps3
  go_wp2_with fail
  refine (CH.out _ (by first | exact U | exact U.drew | exact U.drewN _)).mono ?_
  rintro _ w1 ⟨rfl, h1⟩
  replace U := Up.trans (by first | exact U | exact U.drew | exact U.drewN _) h1
  have S := Sd3.start U
  clear CH h1 U
  go_wp2_with fail
  refine (Q.none_ _ (TF.out.up (by first | exact S.up | exact S.up.drew | exact S.up.drewN _)) x0 HI.out).mono ?_
  rintro _ w8 ⟨rfl, u⟩
  replace S := S.pure (Up.trans (by first | exact Up.refl _ | exact (Up.refl _).drew | exact (Up.refl _).drewN _) u)
  clear u
  go_wp2_with fail
  refine (new15_out _ x0 HI.out).mono ?_
  rintro _ w9 ⟨rfl, u⟩
  replace S := S.pure (Up.trans (by first | exact Up.refl _ | exact (Up.refl _).drew | exact (Up.refl _).drewN _) u)
  clear u
  go_wp2_with fail
  go_ret
  exact ⟨by first | rfl | simp, by first | exact S.up | exact S.up.drew | exact S.up.drewN _⟩
end
end Go.Proofs.YtijpffgocookaaaGreatDoor
