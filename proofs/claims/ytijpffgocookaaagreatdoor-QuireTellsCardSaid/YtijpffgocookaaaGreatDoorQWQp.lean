import Derived.Test.YtijpffgocookaaaGreatDoorQWQo
import Derived.Test.YtijpffgocookaaaGreatDoorQWVwa
import Derived.Deep.RegionHeld3
set_option maxHeartbeats 32000000
set_option linter.unusedVariables false
set_option linter.unusedSimpArgs false
namespace Go.Proofs.YtijpffgocookaaaGreatDoor
open Go.RowKit Go.Shelf
theorem wpAnyH_nameq {P : Program} {md : Region.Mode} {ops : Array Oper} {Q : Exit → Act → World → Prop} {S : World → Prop} {fuel : Nat} {listed : Array Bool} {a : Act} {w : World}
  (hp : ∀ c (d : Nat) v a w, Q (.panic c) (a.put (some d) v) w → Q (.panic c) a w) (h : ∀ Q0 : Exit → Act → World → Prop, (∀ c (d : Nat) v a w, Q0 (.panic c) (a.put (some d) v) w → Q0 (.panic c) a w) → (∀ a w, Q .normal a w → Q0 .normal a w) → wpAnyH P md ops Q0 S fuel listed a w) :
  wpAnyH P md ops Q S fuel listed a w := h Q hp (fun _ _ h => h)
theorem M.qst_same {i b : Nat} (h : b < 2 ^ M.qS i) {o : Option Nat} (ho : o = some 0) : M.qst i b o = b := by
 subst ho
 by_cases e : b = M.qn i
 ·rw [e]; exact M.qst_nar _ _
 ·rw [M.qst_some e, M.ad_zero h]
set_option maxRecDepth 100000 in
theorem qu_sum {p i b : Nat} {w : World} {F : Nat → Prop} (h : Iq p i b w F) (TT : Hid (Tz w)) (TF : Hid (TabF w)) (CN0 : Hid (∀ (W : World) (u : Up w W) (r : Bool), decide (b = M.qn i) = r → Calls Tryz.prog 32 #[ptr p] W (fun e w' => e = .returned (.bool r) ∧ Up W w'))) (a d : Nat) (ha : a < 18446744073709551616) (hd : d < 18446744073709551616) (o : Option Nat) (x : Int) (hq : M.Qa i a d o x) (away : Bool) (o2 : Option Nat) (ho : o2 = if away = true then M.tk i true o else o) :
  Calls Tryz.prog 47 #[ptr p, u64 a, u64 d, .bool away] w (Mu (α := Unit) F (fun _ => Iq p i (M.qst i b o2)) (fun _ => .int .i64 x) w) := by
 have HH := Lib.hid h
 obtain ⟨f, S, Z, A, n, c0, K0, hb, Q, N⟩ := h.open_
 have K := Lib.hid K0
 have hb0 := (show b < 2 ^ M.qS i from K0.s.symm ▸ hb)
 have HI := Lib.hid K0.i1
 have HI2 := Lib.hid K0.i2
 have h14 := M.four14 K0.i2
 clear h K0
 have U := Up.refl w
 rcases hq with ⟨rfl, rfl, hno⟩ | ⟨rfl, ⟨fa, fd⟩, hqi⟩
 ·have HQ : Hid (M.qst i b o2 = b) := Lib.hid (M.qst_same hb0 (by rw [ho]; cases away <;> simp [M.tk, M.ng_zero]))
  by_cases fa : (a : Int) ≤ M.msk (M.tb i)
  ·obtain ⟨c, g, m, z, h1⟩ := M.dc_fit HI.out HI2.out fa
   have fd : ¬ (d : Int) ≤ M.msk (M.tb i) := fun e => hno ⟨fa, e⟩
   have CD1 := Lib.hid (fun W (u : Up w W) => vdecode_any W (Lib.hid (TT.out.up u)) (Lib.hid (TF.out.up u)) (i : Int) a ha c g m z 0 h1)
   have CD2 := Lib.hid (fun W (u : Up w W) => vdecode_any W (Lib.hid (TT.out.up u)) (Lib.hid (TF.out.up u)) (i : Int) d hd 0 false 0 0 1 (.inr ⟨i, rfl, HI.out, h14, .inl ⟨by omega, rfl, rfl, rfl, rfl, rfl⟩⟩))
   clear h1 fa fd hno
   clear ho hb hb0 N CN0 TT TF h14 ha hd
   go_enter Tryz.func47, Tryz.ntmps47
   obtain ⟨Q0, Q1, Q2, Q3, Q4, Q5, Q6, Q7, Q8⟩ := Q.g9
   go_wp2_with fail
   clear Q0 Q1 Q2 Q3 Q4 Q5 Q6 Q7 Q8
   refine (CD1.out _ (by first | exact U | exact U.drew | exact U.drewN _)).mono ?_
   rintro _ w1 ⟨rfl, h1⟩
   replace U := Up.trans (by first | exact U | exact U.drew | exact U.drewN _) h1
   replace Q := Q.up (Up.trans (by first | exact Up.refl _ | exact (Up.refl _).drew | exact (Up.refl _).drewN _) h1)
   clear h1
   clear CD1
   obtain ⟨Q0, Q1, Q2, Q3, Q4, Q5, Q6, Q7, Q8⟩ := Q.g9
   go_upto_region 2 with fail
   clear Q0 Q1 Q2 Q3 Q4 Q5 Q6 Q7 Q8
   obtain ⟨VX, hVX, X, uVX⟩ := Ob.nw w1 85 #[.int .i64 c, .bool g, u64 m, .int .i64 z]
   rw [hVX]
   clear hVX
   replace U := U.trans uVX
   replace Q := Q.up uVX
   obtain ⟨Q0, Q1, Q2, Q3, Q4, Q5, Q6, Q7, Q8⟩ := Q.g9
   obtain ⟨X0, X1, X2, X3⟩ := X.g4
   go_wp2_with fail
   clear Q0 Q1 Q2 Q3 Q4 Q5 Q6 Q7 Q8 X0 X1 X2 X3
   refine (CD2.out _ (by first | exact U | exact U.drew | exact U.drewN _)).mono ?_
   rintro _ w2 ⟨rfl, h2⟩
   replace U := Up.trans (by first | exact U | exact U.drew | exact U.drewN _) h2
   replace Q := Q.up (Up.trans (by first | exact Up.refl _ | exact (Up.refl _).drew | exact (Up.refl _).drewN _) h2)
   replace X := X.up (Up.trans (by first | exact Up.refl _ | exact (Up.refl _).drew | exact (Up.refl _).drewN _) h2)
   clear h2
   clear CD2
   obtain ⟨Q0, Q1, Q2, Q3, Q4, Q5, Q6, Q7, Q8⟩ := Q.g9
   obtain ⟨X0, X1, X2, X3⟩ := X.g4
   go_upto_region 5 with fail
   clear Q0 Q1 Q2 Q3 Q4 Q5 Q6 Q7 Q8 X0 X1 X2 X3
   obtain ⟨VY, hVY, Y, uVY⟩ := Ob.nw w2 85 #[.int .i64 0, .bool false, .int .u64 0, .int .i64 0]
   rw [hVY]
   clear hVY
   replace U := U.trans uVY
   replace Q := Q.up uVY
   replace X := X.up uVY
   obtain ⟨Q0, Q1, Q2, Q3, Q4, Q5, Q6, Q7, Q8⟩ := Q.g9
   obtain ⟨X0, X1, X2, X3⟩ := X.g4
   obtain ⟨Y0, Y1, Y2, Y3⟩ := Y.g4
   go_wp2_with fail
   clear Q0 Q1 Q2 Q3 Q4 Q5 Q6 Q7 Q8 X0 X1 X2 X3 Y0 Y1 Y2 Y3
   go_ret
   rw [HQ.out]
   exact ⟨(), rfl, F, HH.out.stay (by first | exact U | exact U.drew | exact U.drewN _)⟩
  ·have CD1 := Lib.hid (fun W (u : Up w W) => vdecode_any W (Lib.hid (TT.out.up u)) (Lib.hid (TF.out.up u)) (i : Int) a ha 0 false 0 0 1 (.inr ⟨i, rfl, HI.out, h14, .inl ⟨by omega, rfl, rfl, rfl, rfl, rfl⟩⟩))
   clear fa hno
   clear ho hb hb0 N CN0 TT TF h14 ha hd
   go_enter Tryz.func47, Tryz.ntmps47
   obtain ⟨Q0, Q1, Q2, Q3, Q4, Q5, Q6, Q7, Q8⟩ := Q.g9
   go_wp2_with fail
   clear Q0 Q1 Q2 Q3 Q4 Q5 Q6 Q7 Q8
   refine (CD1.out _ (by first | exact U | exact U.drew | exact U.drewN _)).mono ?_
   rintro _ w1 ⟨rfl, h1⟩
   replace U := Up.trans (by first | exact U | exact U.drew | exact U.drewN _) h1
   replace Q := Q.up (Up.trans (by first | exact Up.refl _ | exact (Up.refl _).drew | exact (Up.refl _).drewN _) h1)
   clear h1
   clear CD1
   obtain ⟨Q0, Q1, Q2, Q3, Q4, Q5, Q6, Q7, Q8⟩ := Q.g9
   go_upto_region 2 with fail
   clear Q0 Q1 Q2 Q3 Q4 Q5 Q6 Q7 Q8
   obtain ⟨VX, hVX, X, uVX⟩ := Ob.nw w1 85 #[.int .i64 0, .bool false, .int .u64 0, .int .i64 0]
   rw [hVX]
   clear hVX
   replace U := U.trans uVX
   replace Q := Q.up uVX
   obtain ⟨Q0, Q1, Q2, Q3, Q4, Q5, Q6, Q7, Q8⟩ := Q.g9
   obtain ⟨X0, X1, X2, X3⟩ := X.g4
   go_wp2_with fail
   clear Q0 Q1 Q2 Q3 Q4 Q5 Q6 Q7 Q8 X0 X1 X2 X3
   go_ret
   rw [HQ.out]
   exact ⟨(), rfl, F, HH.out.stay (by first | exact U | exact U.drew | exact U.drewN _)⟩
 ·obtain ⟨c, g, m, z, h1⟩ := M.dc_fit HI.out HI2.out fa
  obtain ⟨c2, g2, m2, z2, h2⟩ := M.dc_fit HI.out HI2.out fd
  have CD1 := Lib.hid (fun W (u : Up w W) => vdecode_any W (Lib.hid (TT.out.up u)) (Lib.hid (TF.out.up u)) (i : Int) a ha c g m z 0 h1)
  have CD2 := Lib.hid (fun W (u : Up w W) => vdecode_any W (Lib.hid (TT.out.up u)) (Lib.hid (TF.out.up u)) (i : Int) d hd c2 g2 m2 z2 0 h2)
  by_cases hn : b = M.qn i
  ·have HQ : Hid (M.qst i b o2 = b) := Lib.hid (by rw [hn]; exact M.qst_nar _ _)
   have CN := Lib.hid (fun W (u : Up w W) => CN0.out W u true (decide_eq_true hn))
   clear h1 h2 fa fd hqi hn
   clear ho hb hb0 N CN0 TT TF h14 ha hd
   go_enter Tryz.func47, Tryz.ntmps47
   obtain ⟨Q0, Q1, Q2, Q3, Q4, Q5, Q6, Q7, Q8⟩ := Q.g9
   go_wp2_with fail
   clear Q0 Q1 Q2 Q3 Q4 Q5 Q6 Q7 Q8
   refine (CD1.out _ (by first | exact U | exact U.drew | exact U.drewN _)).mono ?_
   rintro _ w1 ⟨rfl, h1⟩
   replace U := Up.trans (by first | exact U | exact U.drew | exact U.drewN _) h1
   replace Q := Q.up (Up.trans (by first | exact Up.refl _ | exact (Up.refl _).drew | exact (Up.refl _).drewN _) h1)
   clear h1
   clear CD1
   obtain ⟨Q0, Q1, Q2, Q3, Q4, Q5, Q6, Q7, Q8⟩ := Q.g9
   go_upto_region 2 with fail
   clear Q0 Q1 Q2 Q3 Q4 Q5 Q6 Q7 Q8
   obtain ⟨VX, hVX, X, uVX⟩ := Ob.nw w1 85 #[.int .i64 c, .bool g, u64 m, .int .i64 z]
   rw [hVX]
   clear hVX
   replace U := U.trans uVX
   replace Q := Q.up uVX
   obtain ⟨Q0, Q1, Q2, Q3, Q4, Q5, Q6, Q7, Q8⟩ := Q.g9
   obtain ⟨X0, X1, X2, X3⟩ := X.g4
   go_wp2_with fail
   clear Q0 Q1 Q2 Q3 Q4 Q5 Q6 Q7 Q8 X0 X1 X2 X3
   refine (CD2.out _ (by first | exact U | exact U.drew | exact U.drewN _)).mono ?_
   rintro _ w2 ⟨rfl, h2⟩
   replace U := Up.trans (by first | exact U | exact U.drew | exact U.drewN _) h2
   replace Q := Q.up (Up.trans (by first | exact Up.refl _ | exact (Up.refl _).drew | exact (Up.refl _).drewN _) h2)
   replace X := X.up (Up.trans (by first | exact Up.refl _ | exact (Up.refl _).drew | exact (Up.refl _).drewN _) h2)
   clear h2
   clear CD2
   obtain ⟨Q0, Q1, Q2, Q3, Q4, Q5, Q6, Q7, Q8⟩ := Q.g9
   obtain ⟨X0, X1, X2, X3⟩ := X.g4
   go_upto_region 5 with fail
   clear Q0 Q1 Q2 Q3 Q4 Q5 Q6 Q7 Q8 X0 X1 X2 X3
   obtain ⟨VY, hVY, Y, uVY⟩ := Ob.nw w2 85 #[.int .i64 c2, .bool g2, u64 m2, .int .i64 z2]
   rw [hVY]
   clear hVY
   replace U := U.trans uVY
   replace Q := Q.up uVY
   replace X := X.up uVY
   obtain ⟨Q0, Q1, Q2, Q3, Q4, Q5, Q6, Q7, Q8⟩ := Q.g9
   obtain ⟨X0, X1, X2, X3⟩ := X.g4
   obtain ⟨Y0, Y1, Y2, Y3⟩ := Y.g4
   go_wp2_with fail
   clear Q0 Q1 Q2 Q3 Q4 Q5 Q6 Q7 Q8 X0 X1 X2 X3 Y0 Y1 Y2 Y3
   refine (CN.out _ (by first | exact U | exact U.drew | exact U.drewN _)).mono ?_
   rintro _ w3 ⟨rfl, h3⟩
   replace U := Up.trans (by first | exact U | exact U.drew | exact U.drewN _) h3
   replace Q := Q.up (Up.trans (by first | exact Up.refl _ | exact (Up.refl _).drew | exact (Up.refl _).drewN _) h3)
   replace X := X.up (Up.trans (by first | exact Up.refl _ | exact (Up.refl _).drew | exact (Up.refl _).drewN _) h3)
   replace Y := Y.up (Up.trans (by first | exact Up.refl _ | exact (Up.refl _).drew | exact (Up.refl _).drewN _) h3)
   clear h3
   clear CN
   obtain ⟨Q0, Q1, Q2, Q3, Q4, Q5, Q6, Q7, Q8⟩ := Q.g9
   obtain ⟨X0, X1, X2, X3⟩ := X.g4
   obtain ⟨Y0, Y1, Y2, Y3⟩ := Y.g4
   go_wp2_with fail
   clear Q0 Q1 Q2 Q3 Q4 Q5 Q6 Q7 Q8 X0 X1 X2 X3 Y0 Y1 Y2 Y3
   go_ret
   rw [HQ.out]
   exact ⟨(), rfl, F, HH.out.stay (by first | exact U | exact U.drew | exact U.drewN _)⟩
  ·have CN := Lib.hid (fun W (u : Up w W) => CN0.out W u false (decide_eq_false hn))
   rcases M.qi_steps HI.out HI2.out fa fd h1 h2 hqi with ⟨rfl, rfl⟩ | ⟨c4, rfl, rfl⟩ | ⟨c4, c24, hm, hm2, zl, zh, zl2, zh2, k, P, hk, k2, hP, hPS, e1, e2⟩
   ·have HQ : Hid (M.qst i b o2 = M.qn i) := Lib.hid (by rw [ho]; cases away <;> exact M.qst_none _ _)
    have CH := Lib.hid (fun W (u : Up w W) => qu_highest W K (.slice A n c0) (Q.up u))
    have HR : Hid (2 ^ (S - 1) = M.qn i) := Lib.hid (by unfold M.qn; rw [K.out.s])
    have HL : Hid (M.qn i < 2 ^ M.qS i) := Lib.hid (M.qn_lt HI.out HI2.out)
    clear h1 h2 fa fd hqi hn
    clear ho hb hb0 N CN0 TT TF h14 ha hd
    go_enter Tryz.func47, Tryz.ntmps47
    obtain ⟨Q0, Q1, Q2, Q3, Q4, Q5, Q6, Q7, Q8⟩ := Q.g9
    go_wp2_with fail
    clear Q0 Q1 Q2 Q3 Q4 Q5 Q6 Q7 Q8
    refine (CD1.out _ (by first | exact U | exact U.drew | exact U.drewN _)).mono ?_
    rintro _ w1 ⟨rfl, h1⟩
    replace U := Up.trans (by first | exact U | exact U.drew | exact U.drewN _) h1
    replace Q := Q.up (Up.trans (by first | exact Up.refl _ | exact (Up.refl _).drew | exact (Up.refl _).drewN _) h1)
    clear h1
    clear CD1
    obtain ⟨Q0, Q1, Q2, Q3, Q4, Q5, Q6, Q7, Q8⟩ := Q.g9
    go_upto_region 2 with fail
    clear Q0 Q1 Q2 Q3 Q4 Q5 Q6 Q7 Q8
    obtain ⟨VX, hVX, X, uVX⟩ := Ob.nw w1 85 #[.int .i64 4, .bool g, u64 m, .int .i64 z]
    rw [hVX]
    clear hVX
    replace U := U.trans uVX
    replace Q := Q.up uVX
    obtain ⟨Q0, Q1, Q2, Q3, Q4, Q5, Q6, Q7, Q8⟩ := Q.g9
    obtain ⟨X0, X1, X2, X3⟩ := X.g4
    go_wp2_with fail
    clear Q0 Q1 Q2 Q3 Q4 Q5 Q6 Q7 Q8 X0 X1 X2 X3
    refine (CD2.out _ (by first | exact U | exact U.drew | exact U.drewN _)).mono ?_
    rintro _ w2 ⟨rfl, h2⟩
    replace U := Up.trans (by first | exact U | exact U.drew | exact U.drewN _) h2
    replace Q := Q.up (Up.trans (by first | exact Up.refl _ | exact (Up.refl _).drew | exact (Up.refl _).drewN _) h2)
    replace X := X.up (Up.trans (by first | exact Up.refl _ | exact (Up.refl _).drew | exact (Up.refl _).drewN _) h2)
    clear h2
    clear CD2
    obtain ⟨Q0, Q1, Q2, Q3, Q4, Q5, Q6, Q7, Q8⟩ := Q.g9
    obtain ⟨X0, X1, X2, X3⟩ := X.g4
    go_upto_region 5 with fail
    clear Q0 Q1 Q2 Q3 Q4 Q5 Q6 Q7 Q8 X0 X1 X2 X3
    obtain ⟨VY, hVY, Y, uVY⟩ := Ob.nw w2 85 #[.int .i64 c2, .bool g2, u64 m2, .int .i64 z2]
    rw [hVY]
    clear hVY
    replace U := U.trans uVY
    replace Q := Q.up uVY
    replace X := X.up uVY
    obtain ⟨Q0, Q1, Q2, Q3, Q4, Q5, Q6, Q7, Q8⟩ := Q.g9
    obtain ⟨X0, X1, X2, X3⟩ := X.g4
    obtain ⟨Y0, Y1, Y2, Y3⟩ := Y.g4
    go_wp2_with fail
    clear Q0 Q1 Q2 Q3 Q4 Q5 Q6 Q7 Q8 X0 X1 X2 X3 Y0 Y1 Y2 Y3
    refine (CN.out _ (by first | exact U | exact U.drew | exact U.drewN _)).mono ?_
    rintro _ w3 ⟨rfl, h3⟩
    replace U := Up.trans (by first | exact U | exact U.drew | exact U.drewN _) h3
    replace Q := Q.up (Up.trans (by first | exact Up.refl _ | exact (Up.refl _).drew | exact (Up.refl _).drewN _) h3)
    replace X := X.up (Up.trans (by first | exact Up.refl _ | exact (Up.refl _).drew | exact (Up.refl _).drewN _) h3)
    replace Y := Y.up (Up.trans (by first | exact Up.refl _ | exact (Up.refl _).drew | exact (Up.refl _).drewN _) h3)
    clear h3
    clear CN
    obtain ⟨Q0, Q1, Q2, Q3, Q4, Q5, Q6, Q7, Q8⟩ := Q.g9
    obtain ⟨X0, X1, X2, X3⟩ := X.g4
    obtain ⟨Y0, Y1, Y2, Y3⟩ := Y.g4
    go_wp2_with fail
    clear Q0 Q1 Q2 Q3 Q4 Q5 Q6 Q7 Q8 X0 X1 X2 X3 Y0 Y1 Y2 Y3
    refine (CH.out _ (by first | exact U | exact U.drew | exact U.drewN _)).mono ?_
    have SZ0 : Hid (w.heap.size ≤ _) := Lib.hid (show Up w _ from (by first | exact U | exact U.drew | exact U.drewN _)).size
    rintro _ w4 ⟨vM_, rfl, M_, h4⟩
    replace U := Up.trans (by first | exact U | exact U.drew | exact U.drewN _) h4
    replace Q := Q.up (Up.trans (by first | exact Up.refl _ | exact (Up.refl _).drew | exact (Up.refl _).drewN _) h4)
    replace X := X.up (Up.trans (by first | exact Up.refl _ | exact (Up.refl _).drew | exact (Up.refl _).drewN _) h4)
    replace Y := Y.up (Up.trans (by first | exact Up.refl _ | exact (Up.refl _).drew | exact (Up.refl _).drewN _) h4)
    clear h4
    obtain ⟨AM_, nM_, cM_, rfl, M_⟩ := M_.slq
    have Qf := Q.fr 8
    have Ql := Ob.lt Q
    obtain ⟨Q0, Q1, Q2, Q3, Q4, Q5, Q6, Q7, Q8⟩ := Q.g9
    obtain ⟨X0, X1, X2, X3⟩ := X.g4
    obtain ⟨Y0, Y1, Y2, Y3⟩ := Y.g4
    go_wp2_with fail
    clear Q0 Q1 Q2 Q3 Q4 Q5 Q6 Q7 Q8 X0 X1 X2 X3 Y0 Y1 Y2 Y3
    go_ret
    rw [HQ.out]
    exact ⟨(), rfl, HH.out.put (by first | exact U | exact U.drew | exact U.drewN _) (by first | exact (by rw [HR.out] at M_; exact M_) | exact (by rw [HR.out] at M_; exact M_).up ((Up.refl _).drewN _) | exact (by rw [HR.out] at M_; exact M_).up ((Up.refl _).drew)) SZ0.out HL.out⟩
   ·have d1 : (c == 4) = false := by simpa using c4
    have HQ : Hid (M.qst i b o2 = M.qn i) := Lib.hid (by rw [ho]; cases away <;> exact M.qst_none _ _)
    have CH := Lib.hid (fun W (u : Up w W) => qu_highest W K (.slice A n c0) (Q.up u))
    have HR : Hid (2 ^ (S - 1) = M.qn i) := Lib.hid (by unfold M.qn; rw [K.out.s])
    have HL : Hid (M.qn i < 2 ^ M.qS i) := Lib.hid (M.qn_lt HI.out HI2.out)
    clear h1 h2 fa fd hqi hn
    clear c4
    clear ho hb hb0 N CN0 TT TF h14 ha hd
    go_enter Tryz.func47, Tryz.ntmps47
    obtain ⟨Q0, Q1, Q2, Q3, Q4, Q5, Q6, Q7, Q8⟩ := Q.g9
    go_wp2_with fail
    clear Q0 Q1 Q2 Q3 Q4 Q5 Q6 Q7 Q8
    refine (CD1.out _ (by first | exact U | exact U.drew | exact U.drewN _)).mono ?_
    rintro _ w1 ⟨rfl, h1⟩
    replace U := Up.trans (by first | exact U | exact U.drew | exact U.drewN _) h1
    replace Q := Q.up (Up.trans (by first | exact Up.refl _ | exact (Up.refl _).drew | exact (Up.refl _).drewN _) h1)
    clear h1
    clear CD1
    obtain ⟨Q0, Q1, Q2, Q3, Q4, Q5, Q6, Q7, Q8⟩ := Q.g9
    go_upto_region 2 with fail
    clear Q0 Q1 Q2 Q3 Q4 Q5 Q6 Q7 Q8
    obtain ⟨VX, hVX, X, uVX⟩ := Ob.nw w1 85 #[.int .i64 c, .bool g, u64 m, .int .i64 z]
    rw [hVX]
    clear hVX
    replace U := U.trans uVX
    replace Q := Q.up uVX
    obtain ⟨Q0, Q1, Q2, Q3, Q4, Q5, Q6, Q7, Q8⟩ := Q.g9
    obtain ⟨X0, X1, X2, X3⟩ := X.g4
    go_wp2_with fail
    clear Q0 Q1 Q2 Q3 Q4 Q5 Q6 Q7 Q8 X0 X1 X2 X3
    refine (CD2.out _ (by first | exact U | exact U.drew | exact U.drewN _)).mono ?_
    rintro _ w2 ⟨rfl, h2⟩
    replace U := Up.trans (by first | exact U | exact U.drew | exact U.drewN _) h2
    replace Q := Q.up (Up.trans (by first | exact Up.refl _ | exact (Up.refl _).drew | exact (Up.refl _).drewN _) h2)
    replace X := X.up (Up.trans (by first | exact Up.refl _ | exact (Up.refl _).drew | exact (Up.refl _).drewN _) h2)
    clear h2
    clear CD2
    obtain ⟨Q0, Q1, Q2, Q3, Q4, Q5, Q6, Q7, Q8⟩ := Q.g9
    obtain ⟨X0, X1, X2, X3⟩ := X.g4
    go_upto_region 5 with fail
    clear Q0 Q1 Q2 Q3 Q4 Q5 Q6 Q7 Q8 X0 X1 X2 X3
    obtain ⟨VY, hVY, Y, uVY⟩ := Ob.nw w2 85 #[.int .i64 4, .bool g2, u64 m2, .int .i64 z2]
    rw [hVY]
    clear hVY
    replace U := U.trans uVY
    replace Q := Q.up uVY
    replace X := X.up uVY
    obtain ⟨Q0, Q1, Q2, Q3, Q4, Q5, Q6, Q7, Q8⟩ := Q.g9
    obtain ⟨X0, X1, X2, X3⟩ := X.g4
    obtain ⟨Y0, Y1, Y2, Y3⟩ := Y.g4
    go_wp2_with fail
    clear Q0 Q1 Q2 Q3 Q4 Q5 Q6 Q7 Q8 X0 X1 X2 X3 Y0 Y1 Y2 Y3
    refine (CN.out _ (by first | exact U | exact U.drew | exact U.drewN _)).mono ?_
    rintro _ w3 ⟨rfl, h3⟩
    replace U := Up.trans (by first | exact U | exact U.drew | exact U.drewN _) h3
    replace Q := Q.up (Up.trans (by first | exact Up.refl _ | exact (Up.refl _).drew | exact (Up.refl _).drewN _) h3)
    replace X := X.up (Up.trans (by first | exact Up.refl _ | exact (Up.refl _).drew | exact (Up.refl _).drewN _) h3)
    replace Y := Y.up (Up.trans (by first | exact Up.refl _ | exact (Up.refl _).drew | exact (Up.refl _).drewN _) h3)
    clear h3
    clear CN
    obtain ⟨Q0, Q1, Q2, Q3, Q4, Q5, Q6, Q7, Q8⟩ := Q.g9
    obtain ⟨X0, X1, X2, X3⟩ := X.g4
    obtain ⟨Y0, Y1, Y2, Y3⟩ := Y.g4
    go_wp2_with fail
    clear Q0 Q1 Q2 Q3 Q4 Q5 Q6 Q7 Q8 X0 X1 X2 X3 Y0 Y1 Y2 Y3
    refine (CH.out _ (by first | exact U | exact U.drew | exact U.drewN _)).mono ?_
    have SZ0 : Hid (w.heap.size ≤ _) := Lib.hid (show Up w _ from (by first | exact U | exact U.drew | exact U.drewN _)).size
    rintro _ w4 ⟨vM_, rfl, M_, h4⟩
    replace U := Up.trans (by first | exact U | exact U.drew | exact U.drewN _) h4
    replace Q := Q.up (Up.trans (by first | exact Up.refl _ | exact (Up.refl _).drew | exact (Up.refl _).drewN _) h4)
    replace X := X.up (Up.trans (by first | exact Up.refl _ | exact (Up.refl _).drew | exact (Up.refl _).drewN _) h4)
    replace Y := Y.up (Up.trans (by first | exact Up.refl _ | exact (Up.refl _).drew | exact (Up.refl _).drewN _) h4)
    clear h4
    obtain ⟨AM_, nM_, cM_, rfl, M_⟩ := M_.slq
    have Qf := Q.fr 8
    have Ql := Ob.lt Q
    obtain ⟨Q0, Q1, Q2, Q3, Q4, Q5, Q6, Q7, Q8⟩ := Q.g9
    obtain ⟨X0, X1, X2, X3⟩ := X.g4
    obtain ⟨Y0, Y1, Y2, Y3⟩ := Y.g4
    go_wp2_with fail
    clear Q0 Q1 Q2 Q3 Q4 Q5 Q6 Q7 Q8 X0 X1 X2 X3 Y0 Y1 Y2 Y3
    go_ret
    rw [HQ.out]
    exact ⟨(), rfl, HH.out.put (by first | exact U | exact U.drew | exact U.drewN _) (by first | exact (by rw [HR.out] at M_; exact M_) | exact (by rw [HR.out] at M_; exact M_).up ((Up.refl _).drewN _) | exact (by rw [HR.out] at M_; exact M_).up ((Up.refl _).drew)) SZ0.out HL.out⟩
   ·have d1 : (c == 4) = false := by simpa using c4
    have d2 : (c2 == 4) = false := by simpa using c24
    obtain ⟨ng, hng⟩ : ∃ ng, ((g != g2) != away) = ng := ⟨_, rfl⟩
    obtain ⟨D, hD⟩ : ∃ D, (if ng = true then M.ng (2 ^ S) P else P) = D := ⟨_, rfl⟩
    have hPS2 : P < 2 ^ S := by rw [← K.out.s]; exact hPS
    have hDS : D < 2 ^ S := by
     rw [← hD]; split
     ·exact M.ng_lt (Nat.two_pow_pos S)
     ·exact hPS2
    have ho2 : o2 = some D := by
     rw [ho, ← hD, ← hng, ← K.out.s]
     cases away
     ·rw [if_neg (by decide), e1]; simp
     ·rw [if_pos rfl, e2]
    have HQ : Hid (M.qst i b o2 = (b + D) % 2 ^ S) := Lib.hid (by rw [ho2, M.qst_some hn]; unfold M.ad; rw [K.out.s])
    have HR : Hid ((b + D) % 2 ^ S < 2 ^ S) := Lib.hid (Nat.mod_lt _ (Nat.two_pow_pos S))
    have HL : Hid ((b + D) % 2 ^ S < 2 ^ M.qS i) := Lib.hid (by rw [K.out.s]; exact HR.out)
    have HS2 := Lib.hid K.out.s2
    have hmul : 2 * 2 ^ S = 2 ^ S + 2 ^ S := Nat.two_mul _
    have CPr := Lib.hid (fun W (u : Up w W) => qu_product W K (.slice A n c0) (Q.up u) c c2 g g2 m m2 k P z z2 hm hm2 ⟨zl, zh⟩ ⟨zl2, zh2⟩ hk k2 hP hPS2)
    have CAd := Lib.hid (fun W (u : Up w W) lo' v' (N' : Nt W lo' 20 v' D) => add_any W 0 lo' 20 (.slice A n c0) v' b D (N.up u).nw N'.nw (by decide))
    have CFi := Lib.hid (fun W (u : Up w W) lo' v' (N' : Nt W lo' 21 v' (b + D)) (h : lo' ≤ W.heap.size) => qu_fitting W K (.slice A n c0) (Q.up u) lo' 21 v' (b + D) N' (by omega) h)
    have hn1 : (!(!g == g2) == away) = ng := by rw [← hng]; cases g <;> cases g2 <;> cases away <;> rfl
    clear hng
    cases ng
    ·have CSg := Lib.hid (fun W (u : Up w W) A1 n1 c1 => qu_signed_pos W K (.slice A n c0) (Q.up u) A1 n1 c1)
     rw [if_neg (by decide)] at hD
     subst hD
     clear e1 e2 ho2 c4 c24 hm hm2 zl zh zl2 zh2 hk k2 hP hPS hPS2 hDS hmul h1 h2 fa fd hqi hn
     clear ho hb hb0 N CN0 TT TF h14 ha hd
     go_enter Tryz.func47, Tryz.ntmps47
     obtain ⟨Q0, Q1, Q2, Q3, Q4, Q5, Q6, Q7, Q8⟩ := Q.g9
     go_wp2_with fail
     clear Q0 Q1 Q2 Q3 Q4 Q5 Q6 Q7 Q8
     refine (CD1.out _ (by first | exact U | exact U.drew | exact U.drewN _)).mono ?_
     rintro _ w1 ⟨rfl, h1⟩
     replace U := Up.trans (by first | exact U | exact U.drew | exact U.drewN _) h1
     replace Q := Q.up (Up.trans (by first | exact Up.refl _ | exact (Up.refl _).drew | exact (Up.refl _).drewN _) h1)
     clear h1
     clear CD1
     have Q0_ := Q
     obtain ⟨Q0, Q1, Q2, Q3, Q4, Q5, Q6, Q7, Q8⟩ := Q.g9
     go_upto_region 2 with fail
     clear Q0 Q1 Q2 Q3 Q4 Q5 Q6 Q7 Q8
     obtain ⟨VX, hVX, X, uVX⟩ := Ob.nw w1 85 #[.int .i64 c, .bool g, u64 m, .int .i64 z]
     rw [hVX]
     clear hVX
     replace U := U.trans uVX
     replace Q := Q.up uVX
     obtain ⟨xb, hxb⟩ : ∃ xb, w1.heap.size = xb := ⟨_, rfl⟩
     have hxp : xb ≠ p := by have := Ob.lt Q0_; omega
     rw [hxb] at X ⊢
     clear hxb Q0_
     obtain ⟨Q0, Q1, Q2, Q3, Q4, Q5, Q6, Q7, Q8⟩ := Q.g9
     obtain ⟨X0, X1, X2, X3⟩ := X.g4
     go_wp2_with fail
     clear Q0 Q1 Q2 Q3 Q4 Q5 Q6 Q7 Q8 X0 X1 X2 X3
     refine (CD2.out _ (by first | exact U | exact U.drew | exact U.drewN _)).mono ?_
     rintro _ w2 ⟨rfl, h2⟩
     replace U := Up.trans (by first | exact U | exact U.drew | exact U.drewN _) h2
     replace Q := Q.up (Up.trans (by first | exact Up.refl _ | exact (Up.refl _).drew | exact (Up.refl _).drewN _) h2)
     replace X := X.up (Up.trans (by first | exact Up.refl _ | exact (Up.refl _).drew | exact (Up.refl _).drewN _) h2)
     clear h2
     clear CD2
     have Q0_ := Q
     obtain ⟨Q0, Q1, Q2, Q3, Q4, Q5, Q6, Q7, Q8⟩ := Q.g9
     obtain ⟨X0, X1, X2, X3⟩ := X.g4
     go_upto_region 5 with fail
     clear Q0 Q1 Q2 Q3 Q4 Q5 Q6 Q7 Q8 X0 X1 X2 X3
     obtain ⟨VY, hVY, Y, uVY⟩ := Ob.nw w2 85 #[.int .i64 c2, .bool g2, u64 m2, .int .i64 z2]
     rw [hVY]
     clear hVY
     replace U := U.trans uVY
     replace Q := Q.up uVY
     replace X := X.up uVY
     obtain ⟨yb, hyb⟩ : ∃ yb, w2.heap.size = yb := ⟨_, rfl⟩
     have hyp : yb ≠ p := by have := Ob.lt Q0_; omega
     rw [hyb] at Y ⊢
     clear hyb Q0_
     obtain ⟨Q0, Q1, Q2, Q3, Q4, Q5, Q6, Q7, Q8⟩ := Q.g9
     obtain ⟨X0, X1, X2, X3⟩ := X.g4
     obtain ⟨Y0, Y1, Y2, Y3⟩ := Y.g4
     go_wp2_with fail
     clear Q0 Q1 Q2 Q3 Q4 Q5 Q6 Q7 Q8 X0 X1 X2 X3 Y0 Y1 Y2 Y3
     refine (CN.out _ (by first | exact U | exact U.drew | exact U.drewN _)).mono ?_
     rintro _ w3 ⟨rfl, h3⟩
     replace U := Up.trans (by first | exact U | exact U.drew | exact U.drewN _) h3
     replace Q := Q.up (Up.trans (by first | exact Up.refl _ | exact (Up.refl _).drew | exact (Up.refl _).drewN _) h3)
     replace X := X.up (Up.trans (by first | exact Up.refl _ | exact (Up.refl _).drew | exact (Up.refl _).drewN _) h3)
     replace Y := Y.up (Up.trans (by first | exact Up.refl _ | exact (Up.refl _).drew | exact (Up.refl _).drewN _) h3)
     clear h3
     clear CN
     obtain ⟨Q0, Q1, Q2, Q3, Q4, Q5, Q6, Q7, Q8⟩ := Q.g9
     obtain ⟨X0, X1, X2, X3⟩ := X.g4
     obtain ⟨Y0, Y1, Y2, Y3⟩ := Y.g4
     go_upto_region 13 with fail
     clear Q0 Q1 Q2 Q3 Q4 Q5 Q6 Q7 Q8 X0 X1 X2 X3 Y0 Y1 Y2 Y3
     obtain ⟨V, hV⟩ : ∃ V, V = w3 := ⟨_, rfl⟩
     subst hV
     have UV := Up.refl V
     have Q8 := Q.get 8
     have Qf := Q.fr 8
     have Ql := Ob.lt Q
     have X0 := X.get 0
     have X1 := X.get 1
     have X2 := X.get 2
     have X3 := X.get 3
     have Y0 := Y.get 0
     have Y1 := Y.get 1
     have Y2 := Y.get 2
     have Y3 := Y.get 3
     simp only [M.z7, M.z8, M.z9] at Q8 X0 X1 X2 X3 Y0 Y1 Y2 Y3
     replace CPr := Lib.hid (fun W (u : Up V W) => CPr.out W (U.trans u))
     replace CSg := Lib.hid (fun W (u : Up V W) => CSg.out W (U.trans u))
     replace CAd := Lib.hid (fun W (u : Up V W) => CAd.out W (U.trans u))
     replace CFi := Lib.hid (fun W (u : Up V W) => CFi.out W (U.trans u))
     clear Q8 Qf Ql X0 X1 X2 X3 Y0 Y1 Y2 Y3
     have uD : Up V V.drew := (Up.refl _).drew
     refine wp_region_held_drew (S := fun w' => Ob w' xb 85 #[.int .i64 c, .bool g, u64 m, .int .i64 z] ∧ Ob w' yb 85 #[.int .i64 c2, .bool g2, u64 m2, .int .i64 z2]) (by kernel_rfl) ⟨X.up uD, Y.up uD⟩ (fun hHeld => ?_)
     refine wpAnyH_nameq (fun _ _ _ _ _ h => h) (fun Q0 HP HN => ?_)
     refine wpAnyH_take (i := 0) (v := ?_) rfl ?_ ?_ ?_ ?_ ?_ ?_ ?_
     rotate_left
     ·kernel_rfl
     ·kernel_rfl
     ·kernel_rfl
     ·exact fun c a w h => HP c _ _ a w h
     ·refine Or.inl ⟨by rfl, ?_⟩
      intro wq hSq
      go_simp
      all_goals with_reducible rfl
     ·assumption
     try simp only [Act.put, M.z1, M.z2, M.z3, M.z4, M.z5, M.z6]
     refine wpAnyH_take (i := 1) (v := ?_) rfl ?_ ?_ ?_ ?_ ?_ ?_ ?_
     rotate_left
     ·kernel_rfl
     ·kernel_rfl
     ·kernel_rfl
     ·exact fun c a w h => HP c _ _ a w h
     ·refine Or.inl ⟨by rfl, ?_⟩
      intro wq hSq
      go_simp
      all_goals with_reducible rfl
     ·assumption
     try simp only [Act.put, M.z1, M.z2, M.z3, M.z4, M.z5, M.z6]
     refine wpAnyH_take (i := 2) (v := ?_) rfl ?_ ?_ ?_ ?_ ?_ ?_ ?_
     rotate_left
     ·kernel_rfl
     ·kernel_rfl
     ·kernel_rfl
     ·exact fun c a w h => HP c _ _ a w h
     ·refine Or.inl ⟨by rfl, ?_⟩
      intro wq hSq
      go_simp
      all_goals with_reducible rfl
     ·assumption
     try simp only [Act.put, M.z1, M.z2, M.z3, M.z4, M.z5, M.z6]
     refine wpAnyH_take (i := 3) (v := ?_) rfl ?_ ?_ ?_ ?_ ?_ ?_ ?_
     rotate_left
     ·kernel_rfl
     ·kernel_rfl
     ·kernel_rfl
     ·exact fun c a w h => HP c _ _ a w h
     ·refine Or.inl ⟨by rfl, ?_⟩
      intro wq hSq
      go_simp
      all_goals with_reducible rfl
     ·assumption
     try simp only [Act.put, M.z1, M.z2, M.z3, M.z4, M.z5, M.z6]
     refine wpAnyH_take (i := 4) (v := ?_) rfl ?_ ?_ ?_ ?_ ?_ ?_ ?_
     rotate_left
     ·kernel_rfl
     ·kernel_rfl
     ·kernel_rfl
     ·exact fun c a w h => HP c _ _ a w h
     ·refine Or.inl ⟨by rfl, ?_⟩
      intro wq hSq
      go_simp
      all_goals with_reducible rfl
     ·assumption
     try simp only [Act.put, M.z1, M.z2, M.z3, M.z4, M.z5, M.z6]
     refine wpAnyH_take (i := 6) (v := ?_) rfl ?_ ?_ ?_ ?_ ?_ ?_ ?_
     rotate_left
     ·kernel_rfl
     ·kernel_rfl
     ·kernel_rfl
     ·exact fun c a w h => HP c _ _ a w h
     ·refine Or.inl ⟨by rfl, ?_⟩
      intro wq hSq
      go_simp
      all_goals with_reducible rfl
     ·assumption
     try simp only [Act.put, M.z1, M.z2, M.z3, M.z4, M.z5, M.z6]
     refine wpAnyH_take (i := 7) (v := ?_) rfl ?_ ?_ ?_ ?_ ?_ ?_ ?_
     rotate_left
     ·kernel_rfl
     ·kernel_rfl
     ·kernel_rfl
     ·exact fun c a w h => HP c _ _ a w h
     ·refine Or.inl ⟨by rfl, ?_⟩
      intro wq hSq
      go_simp
      all_goals with_reducible rfl
     ·assumption
     try simp only [Act.put, M.z1, M.z2, M.z3, M.z4, M.z5, M.z6]
     refine wpAnyH_take (i := 8) (v := ?_) rfl ?_ ?_ ?_ ?_ ?_ ?_ ?_
     rotate_left
     ·kernel_rfl
     ·kernel_rfl
     ·kernel_rfl
     ·exact fun c a w h => HP c _ _ a w h
     ·refine Or.inl ⟨by rfl, ?_⟩
      intro wq hSq
      go_simp
      all_goals with_reducible rfl
     ·assumption
     try simp only [Act.put, M.z1, M.z2, M.z3, M.z4, M.z5, M.z6]
     refine wpAnyH_take (i := 9) (v := ?_) rfl ?_ ?_ ?_ ?_ ?_ ?_ ?_
     rotate_left
     ·kernel_rfl
     ·kernel_rfl
     ·kernel_rfl
     ·exact fun c a w h => HP c _ _ a w h
     ·refine Or.inl ⟨by rfl, ?_⟩
      intro wq hSq
      obtain ⟨hS0, hS1⟩ : Ob wq xb 85 #[.int .i64 c, .bool g, u64 m, .int .i64 z] ∧ Ob wq yb 85 #[.int .i64 c2, .bool g2, u64 m2, .int .i64 z2] := hSq
      have q00 := hS0.get 0
      have q01 := hS0.get 1
      have q02 := hS0.get 2
      have q03 := hS0.get 3
      have q10 := hS1.get 0
      have q11 := hS1.get 1
      have q12 := hS1.get 2
      have q13 := hS1.get 3
      simp only [M.z7, M.z8, M.z9] at q00 q01 q02 q03 q10 q11 q12 q13
      go_simp
      all_goals with_reducible rfl
     ·assumption
     try simp only [Act.put, M.z1, M.z2, M.z3, M.z4, M.z5, M.z6]
     refine wpAnyH_take (i := 10) (v := ?_) rfl ?_ ?_ ?_ ?_ ?_ ?_ ?_
     rotate_left
     ·kernel_rfl
     ·kernel_rfl
     ·kernel_rfl
     ·exact fun c a w h => HP c _ _ a w h
     ·refine Or.inl ⟨by rfl, ?_⟩
      intro wq hSq
      obtain ⟨hS0, hS1⟩ : Ob wq xb 85 #[.int .i64 c, .bool g, u64 m, .int .i64 z] ∧ Ob wq yb 85 #[.int .i64 c2, .bool g2, u64 m2, .int .i64 z2] := hSq
      have q00 := hS0.get 0
      have q01 := hS0.get 1
      have q02 := hS0.get 2
      have q03 := hS0.get 3
      have q10 := hS1.get 0
      have q11 := hS1.get 1
      have q12 := hS1.get 2
      have q13 := hS1.get 3
      simp only [M.z7, M.z8, M.z9] at q00 q01 q02 q03 q10 q11 q12 q13
      go_simp
      all_goals with_reducible rfl
     ·assumption
     try simp only [Act.put, M.z1, M.z2, M.z3, M.z4, M.z5, M.z6]
     refine wpAnyH_ready (rs := [5, 11]) ?_ ?_ ?_
     ·kernel_rfl
     ·simp
     refine AllReadyH.cons rfl (fun KQ hK => ?_) (AllReadyH.cons rfl (fun KQ hK => ?_) AllReadyH.nil)
     ·have q8 := (Q.up uD).get 8
      simp only [M.z7, M.z8, M.z9] at q8
      go_simp
      refine hK.out _ _ ⟨X.up uD, Y.up uD⟩ (fun _ => ?_)
      try simp only [Act.put, M.z1, M.z2, M.z3, M.z4, M.z5, M.z6]
      clear hK q8
      refine wpAnyH_ready (rs := [11]) ?_ ?_ ?_
      ·kernel_rfl
      ·simp
      refine AllReadyH.cons rfl (fun KQ hK => ?_) AllReadyH.nil
      go_simp
      refine (CPr.out _ uD).mono ?_
      rintro _ Y0 ⟨vP, rfl, NP, vY0⟩
      obtain ⟨ANP, nNP, cNP, rfl, NP⟩ := NP.slq
      have uY0 : Up V Y0 := uD.trans vY0
      refine hK.out _ _ ⟨X.up uY0, Y.up uY0⟩ (fun _ => ?_)
      try simp only [Act.put, M.z1, M.z2, M.z3, M.z4, M.z5, M.z6]
      clear hK
      refine wpAnyH_ready (rs := [12]) ?_ ?_ ?_
      ·kernel_rfl
      ·simp
      refine AllReadyH.cons rfl (fun KQ hK => ?_) AllReadyH.nil
      go_simp
      refine (CSg.out _ uY0 _ _ _).mono ?_
      rintro _ Y1 ⟨rfl, vY1⟩
      replace NP := NP.up vY1
      have uY1 : Up V Y1 := uY0.trans vY1
      refine hK.out _ _ ⟨X.up uY1, Y.up uY1⟩ (fun _ => ?_)
      try simp only [Act.put, M.z1, M.z2, M.z3, M.z4, M.z5, M.z6]
      clear hK
      refine wpAnyH_ready (rs := [13]) ?_ ?_ ?_
      ·kernel_rfl
      ·simp
      refine AllReadyH.cons rfl (fun KQ hK => ?_) AllReadyH.nil
      go_simp
      refine (CAd.out _ uY1 _ _ NP).mono ?_
      rintro _ Y2 ⟨vA, rfl, NA, vY2⟩
      obtain ⟨ANA, nNA, cNA, rfl, NA⟩ := NA.slq
      replace NA := NA.lower (Nat.le_trans (Up.size U) (Up.size uY1))
      have uY2 : Up V Y2 := uY1.trans vY2
      refine hK.out _ _ ⟨X.up uY2, Y.up uY2⟩ (fun _ => ?_)
      try simp only [Act.put, M.z1, M.z2, M.z3, M.z4, M.z5, M.z6]
      clear hK
      refine wpAnyH_ready (rs := [14]) ?_ ?_ ?_
      ·kernel_rfl
      ·simp
      refine AllReadyH.cons rfl (fun KQ hK => ?_) AllReadyH.nil
      go_simp
      refine (CFi.out _ uY2 _ _ NA (Nat.le_trans (Up.size U) (Up.size uY2))).mono ?_
      rintro _ Y3 ⟨vF, rfl, NF, vY3⟩
      obtain ⟨ANF, nNF, cNF, rfl, NF⟩ := NF.slq
      have uY3 : Up V Y3 := uY2.trans vY3
      refine hK.out _ _ ⟨X.up uY3, Y.up uY3⟩ (fun _ => ?_)
      try simp only [Act.put, M.z1, M.z2, M.z3, M.z4, M.z5, M.z6]
      clear hK
      refine wpAnyH_take (i := 15) (v := ?_) rfl ?_ ?_ ?_ ?_ ?_ ?_ ?_
      rotate_left
      ·kernel_rfl
      ·kernel_rfl
      ·kernel_rfl
      ·exact fun c a w h => HP c _ _ a w h
      ·refine Or.inl ⟨by rfl, ?_⟩
       intro wq hSq
       go_simp
       all_goals with_reducible rfl
      ·assumption
      try simp only [Act.put, M.z1, M.z2, M.z3, M.z4, M.z5, M.z6]
      refine wpAnyH_take (i := 16) (v := ?_) rfl ?_ ?_ ?_ ?_ ?_ ?_ ?_
      rotate_left
      ·kernel_rfl
      ·kernel_rfl
      ·kernel_rfl
      ·exact fun c a w h => HP c _ _ a w h
      ·refine Or.inl ⟨by rfl, ?_⟩
       intro wq hSq
       go_simp
       all_goals with_reducible rfl
      ·assumption
      try simp only [Act.put, M.z1, M.z2, M.z3, M.z4, M.z5, M.z6]
      refine wpAnyH_ready (rs := [17]) ?_ ?_ ?_
      ·kernel_rfl
      ·simp
      refine AllReadyH.cons rfl (fun KQ hK => ?_) AllReadyH.nil
      have Qw := Q.up uY3
      have Qf := Qw.fr 8
      have Ql := Ob.lt Qw
      have q8 := Qw.get 8
      simp only [M.z7, M.z8, M.z9] at q8
      go_simp
      refine hK.out _ _ ⟨(X.up uY3).other hxp _, (Y.up uY3).other hyp _⟩ (fun _ => ?_)
      try simp only [Act.put, M.z1, M.z2, M.z3, M.z4, M.z5, M.z6]
      clear hK q8 Qf Ql Qw
      refine wpAnyH_done ?_ (HN _ _ ?_) _
      ·kernel_rfl
      go_wp2_with fail
      go_ret
      rw [HQ.out]
      exact ⟨(), rfl, HH.out.put (U.trans uY3) (NF.fit20 HR.out HS2.out) (Nat.le_refl _) HL.out⟩
     ·go_simp
      refine (CPr.out _ uD).mono ?_
      rintro _ Y0 ⟨vP, rfl, NP, vY0⟩
      obtain ⟨ANP, nNP, cNP, rfl, NP⟩ := NP.slq
      have uY0 : Up V Y0 := uD.trans vY0
      refine hK.out _ _ ⟨X.up uY0, Y.up uY0⟩ (fun _ => ?_)
      try simp only [Act.put, M.z1, M.z2, M.z3, M.z4, M.z5, M.z6]
      clear hK
      refine wpAnyH_ready (rs := [5, 12]) ?_ ?_ ?_
      ·kernel_rfl
      ·simp
      refine AllReadyH.cons rfl (fun KQ hK => ?_) (AllReadyH.cons rfl (fun KQ hK => ?_) AllReadyH.nil)
      ·have q8 := (Q.up uY0).get 8
       simp only [M.z7, M.z8, M.z9] at q8
       go_simp
       refine hK.out _ _ ⟨X.up uY0, Y.up uY0⟩ (fun _ => ?_)
       try simp only [Act.put, M.z1, M.z2, M.z3, M.z4, M.z5, M.z6]
       clear hK q8
       refine wpAnyH_ready (rs := [12]) ?_ ?_ ?_
       ·kernel_rfl
       ·simp
       refine AllReadyH.cons rfl (fun KQ hK => ?_) AllReadyH.nil
       go_simp
       refine (CSg.out _ uY0 _ _ _).mono ?_
       rintro _ Y1 ⟨rfl, vY1⟩
       replace NP := NP.up vY1
       have uY1 : Up V Y1 := uY0.trans vY1
       refine hK.out _ _ ⟨X.up uY1, Y.up uY1⟩ (fun _ => ?_)
       try simp only [Act.put, M.z1, M.z2, M.z3, M.z4, M.z5, M.z6]
       clear hK
       refine wpAnyH_ready (rs := [13]) ?_ ?_ ?_
       ·kernel_rfl
       ·simp
       refine AllReadyH.cons rfl (fun KQ hK => ?_) AllReadyH.nil
       go_simp
       refine (CAd.out _ uY1 _ _ NP).mono ?_
       rintro _ Y2 ⟨vA, rfl, NA, vY2⟩
       obtain ⟨ANA, nNA, cNA, rfl, NA⟩ := NA.slq
       replace NA := NA.lower (Nat.le_trans (Up.size U) (Up.size uY1))
       have uY2 : Up V Y2 := uY1.trans vY2
       refine hK.out _ _ ⟨X.up uY2, Y.up uY2⟩ (fun _ => ?_)
       try simp only [Act.put, M.z1, M.z2, M.z3, M.z4, M.z5, M.z6]
       clear hK
       refine wpAnyH_ready (rs := [14]) ?_ ?_ ?_
       ·kernel_rfl
       ·simp
       refine AllReadyH.cons rfl (fun KQ hK => ?_) AllReadyH.nil
       go_simp
       refine (CFi.out _ uY2 _ _ NA (Nat.le_trans (Up.size U) (Up.size uY2))).mono ?_
       rintro _ Y3 ⟨vF, rfl, NF, vY3⟩
       obtain ⟨ANF, nNF, cNF, rfl, NF⟩ := NF.slq
       have uY3 : Up V Y3 := uY2.trans vY3
       refine hK.out _ _ ⟨X.up uY3, Y.up uY3⟩ (fun _ => ?_)
       try simp only [Act.put, M.z1, M.z2, M.z3, M.z4, M.z5, M.z6]
       clear hK
       refine wpAnyH_take (i := 15) (v := ?_) rfl ?_ ?_ ?_ ?_ ?_ ?_ ?_
       rotate_left
       ·kernel_rfl
       ·kernel_rfl
       ·kernel_rfl
       ·exact fun c a w h => HP c _ _ a w h
       ·refine Or.inl ⟨by rfl, ?_⟩
        intro wq hSq
        go_simp
        all_goals with_reducible rfl
       ·assumption
       try simp only [Act.put, M.z1, M.z2, M.z3, M.z4, M.z5, M.z6]
       refine wpAnyH_take (i := 16) (v := ?_) rfl ?_ ?_ ?_ ?_ ?_ ?_ ?_
       rotate_left
       ·kernel_rfl
       ·kernel_rfl
       ·kernel_rfl
       ·exact fun c a w h => HP c _ _ a w h
       ·refine Or.inl ⟨by rfl, ?_⟩
        intro wq hSq
        go_simp
        all_goals with_reducible rfl
       ·assumption
       try simp only [Act.put, M.z1, M.z2, M.z3, M.z4, M.z5, M.z6]
       refine wpAnyH_ready (rs := [17]) ?_ ?_ ?_
       ·kernel_rfl
       ·simp
       refine AllReadyH.cons rfl (fun KQ hK => ?_) AllReadyH.nil
       have Qw := Q.up uY3
       have Qf := Qw.fr 8
       have Ql := Ob.lt Qw
       have q8 := Qw.get 8
       simp only [M.z7, M.z8, M.z9] at q8
       go_simp
       refine hK.out _ _ ⟨(X.up uY3).other hxp _, (Y.up uY3).other hyp _⟩ (fun _ => ?_)
       try simp only [Act.put, M.z1, M.z2, M.z3, M.z4, M.z5, M.z6]
       clear hK q8 Qf Ql Qw
       refine wpAnyH_done ?_ (HN _ _ ?_) _
       ·kernel_rfl
       go_wp2_with fail
       go_ret
       rw [HQ.out]
       exact ⟨(), rfl, HH.out.put (U.trans uY3) (NF.fit20 HR.out HS2.out) (Nat.le_refl _) HL.out⟩
      ·go_simp
       refine (CSg.out _ uY0 _ _ _).mono ?_
       rintro _ Y1 ⟨rfl, vY1⟩
       replace NP := NP.up vY1
       have uY1 : Up V Y1 := uY0.trans vY1
       refine hK.out _ _ ⟨X.up uY1, Y.up uY1⟩ (fun _ => ?_)
       try simp only [Act.put, M.z1, M.z2, M.z3, M.z4, M.z5, M.z6]
       clear hK
       refine wpAnyH_ready (rs := [5]) ?_ ?_ ?_
       ·kernel_rfl
       ·simp
       refine AllReadyH.cons rfl (fun KQ hK => ?_) AllReadyH.nil
       have q8 := (Q.up uY1).get 8
       simp only [M.z7, M.z8, M.z9] at q8
       go_simp
       refine hK.out _ _ ⟨X.up uY1, Y.up uY1⟩ (fun _ => ?_)
       try simp only [Act.put, M.z1, M.z2, M.z3, M.z4, M.z5, M.z6]
       clear hK q8
       refine wpAnyH_ready (rs := [13]) ?_ ?_ ?_
       ·kernel_rfl
       ·simp
       refine AllReadyH.cons rfl (fun KQ hK => ?_) AllReadyH.nil
       go_simp
       refine (CAd.out _ uY1 _ _ NP).mono ?_
       rintro _ Y2 ⟨vA, rfl, NA, vY2⟩
       obtain ⟨ANA, nNA, cNA, rfl, NA⟩ := NA.slq
       replace NA := NA.lower (Nat.le_trans (Up.size U) (Up.size uY1))
       have uY2 : Up V Y2 := uY1.trans vY2
       refine hK.out _ _ ⟨X.up uY2, Y.up uY2⟩ (fun _ => ?_)
       try simp only [Act.put, M.z1, M.z2, M.z3, M.z4, M.z5, M.z6]
       clear hK
       refine wpAnyH_ready (rs := [14]) ?_ ?_ ?_
       ·kernel_rfl
       ·simp
       refine AllReadyH.cons rfl (fun KQ hK => ?_) AllReadyH.nil
       go_simp
       refine (CFi.out _ uY2 _ _ NA (Nat.le_trans (Up.size U) (Up.size uY2))).mono ?_
       rintro _ Y3 ⟨vF, rfl, NF, vY3⟩
       obtain ⟨ANF, nNF, cNF, rfl, NF⟩ := NF.slq
       have uY3 : Up V Y3 := uY2.trans vY3
       refine hK.out _ _ ⟨X.up uY3, Y.up uY3⟩ (fun _ => ?_)
       try simp only [Act.put, M.z1, M.z2, M.z3, M.z4, M.z5, M.z6]
       clear hK
       refine wpAnyH_take (i := 15) (v := ?_) rfl ?_ ?_ ?_ ?_ ?_ ?_ ?_
       rotate_left
       ·kernel_rfl
       ·kernel_rfl
       ·kernel_rfl
       ·exact fun c a w h => HP c _ _ a w h
       ·refine Or.inl ⟨by rfl, ?_⟩
        intro wq hSq
        go_simp
        all_goals with_reducible rfl
       ·assumption
       try simp only [Act.put, M.z1, M.z2, M.z3, M.z4, M.z5, M.z6]
       refine wpAnyH_take (i := 16) (v := ?_) rfl ?_ ?_ ?_ ?_ ?_ ?_ ?_
       rotate_left
       ·kernel_rfl
       ·kernel_rfl
       ·kernel_rfl
       ·exact fun c a w h => HP c _ _ a w h
       ·refine Or.inl ⟨by rfl, ?_⟩
        intro wq hSq
        go_simp
        all_goals with_reducible rfl
       ·assumption
       try simp only [Act.put, M.z1, M.z2, M.z3, M.z4, M.z5, M.z6]
       refine wpAnyH_ready (rs := [17]) ?_ ?_ ?_
       ·kernel_rfl
       ·simp
       refine AllReadyH.cons rfl (fun KQ hK => ?_) AllReadyH.nil
       have Qw := Q.up uY3
       have Qf := Qw.fr 8
       have Ql := Ob.lt Qw
       have q8 := Qw.get 8
       simp only [M.z7, M.z8, M.z9] at q8
       go_simp
       refine hK.out _ _ ⟨(X.up uY3).other hxp _, (Y.up uY3).other hyp _⟩ (fun _ => ?_)
       try simp only [Act.put, M.z1, M.z2, M.z3, M.z4, M.z5, M.z6]
       clear hK q8 Qf Ql Qw
       refine wpAnyH_done ?_ (HN _ _ ?_) _
       ·kernel_rfl
       go_wp2_with fail
       go_ret
       rw [HQ.out]
       exact ⟨(), rfl, HH.out.put (U.trans uY3) (NF.fit20 HR.out HS2.out) (Nat.le_refl _) HL.out⟩
    ·have CSg := Lib.hid (fun W (u : Up w W) lo' v' (N' : Nt W lo' 20 v' P) => qu_signed_neg W K (.slice A n c0) (Q.up u) lo' 20 v' P N' (Nat.le_of_lt hPS2))
     rw [if_pos rfl] at hD
     rw [hD] at CSg
     clear hD
     clear e1 e2 ho2 c4 c24 hm hm2 zl zh zl2 zh2 hk k2 hP hPS hPS2 hDS hmul h1 h2 fa fd hqi hn
     clear ho hb hb0 N CN0 TT TF h14 ha hd
     go_enter Tryz.func47, Tryz.ntmps47
     obtain ⟨Q0, Q1, Q2, Q3, Q4, Q5, Q6, Q7, Q8⟩ := Q.g9
     go_wp2_with fail
     clear Q0 Q1 Q2 Q3 Q4 Q5 Q6 Q7 Q8
     refine (CD1.out _ (by first | exact U | exact U.drew | exact U.drewN _)).mono ?_
     rintro _ w1 ⟨rfl, h1⟩
     replace U := Up.trans (by first | exact U | exact U.drew | exact U.drewN _) h1
     replace Q := Q.up (Up.trans (by first | exact Up.refl _ | exact (Up.refl _).drew | exact (Up.refl _).drewN _) h1)
     clear h1
     clear CD1
     have Q0_ := Q
     obtain ⟨Q0, Q1, Q2, Q3, Q4, Q5, Q6, Q7, Q8⟩ := Q.g9
     go_upto_region 2 with fail
     clear Q0 Q1 Q2 Q3 Q4 Q5 Q6 Q7 Q8
     obtain ⟨VX, hVX, X, uVX⟩ := Ob.nw w1 85 #[.int .i64 c, .bool g, u64 m, .int .i64 z]
     rw [hVX]
     clear hVX
     replace U := U.trans uVX
     replace Q := Q.up uVX
     obtain ⟨xb, hxb⟩ : ∃ xb, w1.heap.size = xb := ⟨_, rfl⟩
     have hxp : xb ≠ p := by have := Ob.lt Q0_; omega
     rw [hxb] at X ⊢
     clear hxb Q0_
     obtain ⟨Q0, Q1, Q2, Q3, Q4, Q5, Q6, Q7, Q8⟩ := Q.g9
     obtain ⟨X0, X1, X2, X3⟩ := X.g4
     go_wp2_with fail
     clear Q0 Q1 Q2 Q3 Q4 Q5 Q6 Q7 Q8 X0 X1 X2 X3
     refine (CD2.out _ (by first | exact U | exact U.drew | exact U.drewN _)).mono ?_
     rintro _ w2 ⟨rfl, h2⟩
     replace U := Up.trans (by first | exact U | exact U.drew | exact U.drewN _) h2
     replace Q := Q.up (Up.trans (by first | exact Up.refl _ | exact (Up.refl _).drew | exact (Up.refl _).drewN _) h2)
     replace X := X.up (Up.trans (by first | exact Up.refl _ | exact (Up.refl _).drew | exact (Up.refl _).drewN _) h2)
     clear h2
     clear CD2
     have Q0_ := Q
     obtain ⟨Q0, Q1, Q2, Q3, Q4, Q5, Q6, Q7, Q8⟩ := Q.g9
     obtain ⟨X0, X1, X2, X3⟩ := X.g4
     go_upto_region 5 with fail
     clear Q0 Q1 Q2 Q3 Q4 Q5 Q6 Q7 Q8 X0 X1 X2 X3
     obtain ⟨VY, hVY, Y, uVY⟩ := Ob.nw w2 85 #[.int .i64 c2, .bool g2, u64 m2, .int .i64 z2]
     rw [hVY]
     clear hVY
     replace U := U.trans uVY
     replace Q := Q.up uVY
     replace X := X.up uVY
     obtain ⟨yb, hyb⟩ : ∃ yb, w2.heap.size = yb := ⟨_, rfl⟩
     have hyp : yb ≠ p := by have := Ob.lt Q0_; omega
     rw [hyb] at Y ⊢
     clear hyb Q0_
     obtain ⟨Q0, Q1, Q2, Q3, Q4, Q5, Q6, Q7, Q8⟩ := Q.g9
     obtain ⟨X0, X1, X2, X3⟩ := X.g4
     obtain ⟨Y0, Y1, Y2, Y3⟩ := Y.g4
     go_wp2_with fail
     clear Q0 Q1 Q2 Q3 Q4 Q5 Q6 Q7 Q8 X0 X1 X2 X3 Y0 Y1 Y2 Y3
     refine (CN.out _ (by first | exact U | exact U.drew | exact U.drewN _)).mono ?_
     rintro _ w3 ⟨rfl, h3⟩
     replace U := Up.trans (by first | exact U | exact U.drew | exact U.drewN _) h3
     replace Q := Q.up (Up.trans (by first | exact Up.refl _ | exact (Up.refl _).drew | exact (Up.refl _).drewN _) h3)
     replace X := X.up (Up.trans (by first | exact Up.refl _ | exact (Up.refl _).drew | exact (Up.refl _).drewN _) h3)
     replace Y := Y.up (Up.trans (by first | exact Up.refl _ | exact (Up.refl _).drew | exact (Up.refl _).drewN _) h3)
     clear h3
     clear CN
     obtain ⟨Q0, Q1, Q2, Q3, Q4, Q5, Q6, Q7, Q8⟩ := Q.g9
     obtain ⟨X0, X1, X2, X3⟩ := X.g4
     obtain ⟨Y0, Y1, Y2, Y3⟩ := Y.g4
     go_upto_region 13 with fail
     clear Q0 Q1 Q2 Q3 Q4 Q5 Q6 Q7 Q8 X0 X1 X2 X3 Y0 Y1 Y2 Y3
     obtain ⟨V, hV⟩ : ∃ V, V = w3 := ⟨_, rfl⟩
     subst hV
     have UV := Up.refl V
     have Q8 := Q.get 8
     have Qf := Q.fr 8
     have Ql := Ob.lt Q
     have X0 := X.get 0
     have X1 := X.get 1
     have X2 := X.get 2
     have X3 := X.get 3
     have Y0 := Y.get 0
     have Y1 := Y.get 1
     have Y2 := Y.get 2
     have Y3 := Y.get 3
     simp only [M.z7, M.z8, M.z9] at Q8 X0 X1 X2 X3 Y0 Y1 Y2 Y3
     replace CPr := Lib.hid (fun W (u : Up V W) => CPr.out W (U.trans u))
     replace CSg := Lib.hid (fun W (u : Up V W) => CSg.out W (U.trans u))
     replace CAd := Lib.hid (fun W (u : Up V W) => CAd.out W (U.trans u))
     replace CFi := Lib.hid (fun W (u : Up V W) => CFi.out W (U.trans u))
     clear Q8 Qf Ql X0 X1 X2 X3 Y0 Y1 Y2 Y3
     have uD : Up V V.drew := (Up.refl _).drew
     refine wp_region_held_drew (S := fun w' => Ob w' xb 85 #[.int .i64 c, .bool g, u64 m, .int .i64 z] ∧ Ob w' yb 85 #[.int .i64 c2, .bool g2, u64 m2, .int .i64 z2]) (by kernel_rfl) ⟨X.up uD, Y.up uD⟩ (fun hHeld => ?_)
     refine wpAnyH_nameq (fun _ _ _ _ _ h => h) (fun Q0 HP HN => ?_)
     refine wpAnyH_take (i := 0) (v := ?_) rfl ?_ ?_ ?_ ?_ ?_ ?_ ?_
     rotate_left
     ·kernel_rfl
     ·kernel_rfl
     ·kernel_rfl
     ·exact fun c a w h => HP c _ _ a w h
     ·refine Or.inl ⟨by rfl, ?_⟩
      intro wq hSq
      go_simp
      all_goals with_reducible rfl
     ·assumption
     try simp only [Act.put, M.z1, M.z2, M.z3, M.z4, M.z5, M.z6]
     refine wpAnyH_take (i := 1) (v := ?_) rfl ?_ ?_ ?_ ?_ ?_ ?_ ?_
     rotate_left
     ·kernel_rfl
     ·kernel_rfl
     ·kernel_rfl
     ·exact fun c a w h => HP c _ _ a w h
     ·refine Or.inl ⟨by rfl, ?_⟩
      intro wq hSq
      go_simp
      all_goals with_reducible rfl
     ·assumption
     try simp only [Act.put, M.z1, M.z2, M.z3, M.z4, M.z5, M.z6]
     refine wpAnyH_take (i := 2) (v := ?_) rfl ?_ ?_ ?_ ?_ ?_ ?_ ?_
     rotate_left
     ·kernel_rfl
     ·kernel_rfl
     ·kernel_rfl
     ·exact fun c a w h => HP c _ _ a w h
     ·refine Or.inl ⟨by rfl, ?_⟩
      intro wq hSq
      go_simp
      all_goals with_reducible rfl
     ·assumption
     try simp only [Act.put, M.z1, M.z2, M.z3, M.z4, M.z5, M.z6]
     refine wpAnyH_take (i := 3) (v := ?_) rfl ?_ ?_ ?_ ?_ ?_ ?_ ?_
     rotate_left
     ·kernel_rfl
     ·kernel_rfl
     ·kernel_rfl
     ·exact fun c a w h => HP c _ _ a w h
     ·refine Or.inl ⟨by rfl, ?_⟩
      intro wq hSq
      go_simp
      all_goals with_reducible rfl
     ·assumption
     try simp only [Act.put, M.z1, M.z2, M.z3, M.z4, M.z5, M.z6]
     refine wpAnyH_take (i := 4) (v := ?_) rfl ?_ ?_ ?_ ?_ ?_ ?_ ?_
     rotate_left
     ·kernel_rfl
     ·kernel_rfl
     ·kernel_rfl
     ·exact fun c a w h => HP c _ _ a w h
     ·refine Or.inl ⟨by rfl, ?_⟩
      intro wq hSq
      go_simp
      all_goals with_reducible rfl
     ·assumption
     try simp only [Act.put, M.z1, M.z2, M.z3, M.z4, M.z5, M.z6]
     refine wpAnyH_take (i := 6) (v := ?_) rfl ?_ ?_ ?_ ?_ ?_ ?_ ?_
     rotate_left
     ·kernel_rfl
     ·kernel_rfl
     ·kernel_rfl
     ·exact fun c a w h => HP c _ _ a w h
     ·refine Or.inl ⟨by rfl, ?_⟩
      intro wq hSq
      go_simp
      all_goals with_reducible rfl
     ·assumption
     try simp only [Act.put, M.z1, M.z2, M.z3, M.z4, M.z5, M.z6]
     refine wpAnyH_take (i := 7) (v := ?_) rfl ?_ ?_ ?_ ?_ ?_ ?_ ?_
     rotate_left
     ·kernel_rfl
     ·kernel_rfl
     ·kernel_rfl
     ·exact fun c a w h => HP c _ _ a w h
     ·refine Or.inl ⟨by rfl, ?_⟩
      intro wq hSq
      go_simp
      all_goals with_reducible rfl
     ·assumption
     try simp only [Act.put, M.z1, M.z2, M.z3, M.z4, M.z5, M.z6]
     refine wpAnyH_take (i := 8) (v := ?_) rfl ?_ ?_ ?_ ?_ ?_ ?_ ?_
     rotate_left
     ·kernel_rfl
     ·kernel_rfl
     ·kernel_rfl
     ·exact fun c a w h => HP c _ _ a w h
     ·refine Or.inl ⟨by rfl, ?_⟩
      intro wq hSq
      go_simp
      all_goals with_reducible rfl
     ·assumption
     try simp only [Act.put, M.z1, M.z2, M.z3, M.z4, M.z5, M.z6]
     refine wpAnyH_take (i := 9) (v := ?_) rfl ?_ ?_ ?_ ?_ ?_ ?_ ?_
     rotate_left
     ·kernel_rfl
     ·kernel_rfl
     ·kernel_rfl
     ·exact fun c a w h => HP c _ _ a w h
     ·refine Or.inl ⟨by rfl, ?_⟩
      intro wq hSq
      obtain ⟨hS0, hS1⟩ : Ob wq xb 85 #[.int .i64 c, .bool g, u64 m, .int .i64 z] ∧ Ob wq yb 85 #[.int .i64 c2, .bool g2, u64 m2, .int .i64 z2] := hSq
      have q00 := hS0.get 0
      have q01 := hS0.get 1
      have q02 := hS0.get 2
      have q03 := hS0.get 3
      have q10 := hS1.get 0
      have q11 := hS1.get 1
      have q12 := hS1.get 2
      have q13 := hS1.get 3
      simp only [M.z7, M.z8, M.z9] at q00 q01 q02 q03 q10 q11 q12 q13
      go_simp
      all_goals with_reducible rfl
     ·assumption
     try simp only [Act.put, M.z1, M.z2, M.z3, M.z4, M.z5, M.z6]
     refine wpAnyH_take (i := 10) (v := ?_) rfl ?_ ?_ ?_ ?_ ?_ ?_ ?_
     rotate_left
     ·kernel_rfl
     ·kernel_rfl
     ·kernel_rfl
     ·exact fun c a w h => HP c _ _ a w h
     ·refine Or.inl ⟨by rfl, ?_⟩
      intro wq hSq
      obtain ⟨hS0, hS1⟩ : Ob wq xb 85 #[.int .i64 c, .bool g, u64 m, .int .i64 z] ∧ Ob wq yb 85 #[.int .i64 c2, .bool g2, u64 m2, .int .i64 z2] := hSq
      have q00 := hS0.get 0
      have q01 := hS0.get 1
      have q02 := hS0.get 2
      have q03 := hS0.get 3
      have q10 := hS1.get 0
      have q11 := hS1.get 1
      have q12 := hS1.get 2
      have q13 := hS1.get 3
      simp only [M.z7, M.z8, M.z9] at q00 q01 q02 q03 q10 q11 q12 q13
      go_simp
      all_goals with_reducible rfl
     ·assumption
     try simp only [Act.put, M.z1, M.z2, M.z3, M.z4, M.z5, M.z6]
     refine wpAnyH_ready (rs := [5, 11]) ?_ ?_ ?_
     ·kernel_rfl
     ·simp
     refine AllReadyH.cons rfl (fun KQ hK => ?_) (AllReadyH.cons rfl (fun KQ hK => ?_) AllReadyH.nil)
     ·have q8 := (Q.up uD).get 8
      simp only [M.z7, M.z8, M.z9] at q8
      go_simp
      refine hK.out _ _ ⟨X.up uD, Y.up uD⟩ (fun _ => ?_)
      try simp only [Act.put, M.z1, M.z2, M.z3, M.z4, M.z5, M.z6]
      clear hK q8
      refine wpAnyH_ready (rs := [11]) ?_ ?_ ?_
      ·kernel_rfl
      ·simp
      refine AllReadyH.cons rfl (fun KQ hK => ?_) AllReadyH.nil
      go_simp
      refine (CPr.out _ uD).mono ?_
      rintro _ Y0 ⟨vP, rfl, NP, vY0⟩
      obtain ⟨ANP, nNP, cNP, rfl, NP⟩ := NP.slq
      have uY0 : Up V Y0 := uD.trans vY0
      refine hK.out _ _ ⟨X.up uY0, Y.up uY0⟩ (fun _ => ?_)
      try simp only [Act.put, M.z1, M.z2, M.z3, M.z4, M.z5, M.z6]
      clear hK
      refine wpAnyH_ready (rs := [12]) ?_ ?_ ?_
      ·kernel_rfl
      ·simp
      refine AllReadyH.cons rfl (fun KQ hK => ?_) AllReadyH.nil
      go_simp
      refine (CSg.out _ uY0 _ _ NP).mono ?_
      rintro _ Y1 ⟨vS, rfl, NS, vY1⟩
      obtain ⟨ANS, nNS, cNS, rfl, NS⟩ := NS.slq
      have uY1 : Up V Y1 := uY0.trans vY1
      refine hK.out _ _ ⟨X.up uY1, Y.up uY1⟩ (fun _ => ?_)
      try simp only [Act.put, M.z1, M.z2, M.z3, M.z4, M.z5, M.z6]
      clear hK
      refine wpAnyH_ready (rs := [13]) ?_ ?_ ?_
      ·kernel_rfl
      ·simp
      refine AllReadyH.cons rfl (fun KQ hK => ?_) AllReadyH.nil
      go_simp
      refine (CAd.out _ uY1 _ _ NS).mono ?_
      rintro _ Y2 ⟨vA, rfl, NA, vY2⟩
      obtain ⟨ANA, nNA, cNA, rfl, NA⟩ := NA.slq
      replace NA := NA.lower (Nat.le_trans (Up.size U) (Up.size uY1))
      have uY2 : Up V Y2 := uY1.trans vY2
      refine hK.out _ _ ⟨X.up uY2, Y.up uY2⟩ (fun _ => ?_)
      try simp only [Act.put, M.z1, M.z2, M.z3, M.z4, M.z5, M.z6]
      clear hK
      refine wpAnyH_ready (rs := [14]) ?_ ?_ ?_
      ·kernel_rfl
      ·simp
      refine AllReadyH.cons rfl (fun KQ hK => ?_) AllReadyH.nil
      go_simp
      refine (CFi.out _ uY2 _ _ NA (Nat.le_trans (Up.size U) (Up.size uY2))).mono ?_
      rintro _ Y3 ⟨vF, rfl, NF, vY3⟩
      obtain ⟨ANF, nNF, cNF, rfl, NF⟩ := NF.slq
      have uY3 : Up V Y3 := uY2.trans vY3
      refine hK.out _ _ ⟨X.up uY3, Y.up uY3⟩ (fun _ => ?_)
      try simp only [Act.put, M.z1, M.z2, M.z3, M.z4, M.z5, M.z6]
      clear hK
      refine wpAnyH_take (i := 15) (v := ?_) rfl ?_ ?_ ?_ ?_ ?_ ?_ ?_
      rotate_left
      ·kernel_rfl
      ·kernel_rfl
      ·kernel_rfl
      ·exact fun c a w h => HP c _ _ a w h
      ·refine Or.inl ⟨by rfl, ?_⟩
       intro wq hSq
       go_simp
       all_goals with_reducible rfl
      ·assumption
      try simp only [Act.put, M.z1, M.z2, M.z3, M.z4, M.z5, M.z6]
      refine wpAnyH_take (i := 16) (v := ?_) rfl ?_ ?_ ?_ ?_ ?_ ?_ ?_
      rotate_left
      ·kernel_rfl
      ·kernel_rfl
      ·kernel_rfl
      ·exact fun c a w h => HP c _ _ a w h
      ·refine Or.inl ⟨by rfl, ?_⟩
       intro wq hSq
       go_simp
       all_goals with_reducible rfl
      ·assumption
      try simp only [Act.put, M.z1, M.z2, M.z3, M.z4, M.z5, M.z6]
      refine wpAnyH_ready (rs := [17]) ?_ ?_ ?_
      ·kernel_rfl
      ·simp
      refine AllReadyH.cons rfl (fun KQ hK => ?_) AllReadyH.nil
      have Qw := Q.up uY3
      have Qf := Qw.fr 8
      have Ql := Ob.lt Qw
      have q8 := Qw.get 8
      simp only [M.z7, M.z8, M.z9] at q8
      go_simp
      refine hK.out _ _ ⟨(X.up uY3).other hxp _, (Y.up uY3).other hyp _⟩ (fun _ => ?_)
      try simp only [Act.put, M.z1, M.z2, M.z3, M.z4, M.z5, M.z6]
      clear hK q8 Qf Ql Qw
      refine wpAnyH_done ?_ (HN _ _ ?_) _
      ·kernel_rfl
      go_wp2_with fail
      go_ret
      rw [HQ.out]
      exact ⟨(), rfl, HH.out.put (U.trans uY3) (NF.fit20 HR.out HS2.out) (Nat.le_refl _) HL.out⟩
     ·go_simp
      refine (CPr.out _ uD).mono ?_
      rintro _ Y0 ⟨vP, rfl, NP, vY0⟩
      obtain ⟨ANP, nNP, cNP, rfl, NP⟩ := NP.slq
      have uY0 : Up V Y0 := uD.trans vY0
      refine hK.out _ _ ⟨X.up uY0, Y.up uY0⟩ (fun _ => ?_)
      try simp only [Act.put, M.z1, M.z2, M.z3, M.z4, M.z5, M.z6]
      clear hK
      refine wpAnyH_ready (rs := [5, 12]) ?_ ?_ ?_
      ·kernel_rfl
      ·simp
      refine AllReadyH.cons rfl (fun KQ hK => ?_) (AllReadyH.cons rfl (fun KQ hK => ?_) AllReadyH.nil)
      ·have q8 := (Q.up uY0).get 8
       simp only [M.z7, M.z8, M.z9] at q8
       go_simp
       refine hK.out _ _ ⟨X.up uY0, Y.up uY0⟩ (fun _ => ?_)
       try simp only [Act.put, M.z1, M.z2, M.z3, M.z4, M.z5, M.z6]
       clear hK q8
       refine wpAnyH_ready (rs := [12]) ?_ ?_ ?_
       ·kernel_rfl
       ·simp
       refine AllReadyH.cons rfl (fun KQ hK => ?_) AllReadyH.nil
       go_simp
       refine (CSg.out _ uY0 _ _ NP).mono ?_
       rintro _ Y1 ⟨vS, rfl, NS, vY1⟩
       obtain ⟨ANS, nNS, cNS, rfl, NS⟩ := NS.slq
       have uY1 : Up V Y1 := uY0.trans vY1
       refine hK.out _ _ ⟨X.up uY1, Y.up uY1⟩ (fun _ => ?_)
       try simp only [Act.put, M.z1, M.z2, M.z3, M.z4, M.z5, M.z6]
       clear hK
       refine wpAnyH_ready (rs := [13]) ?_ ?_ ?_
       ·kernel_rfl
       ·simp
       refine AllReadyH.cons rfl (fun KQ hK => ?_) AllReadyH.nil
       go_simp
       refine (CAd.out _ uY1 _ _ NS).mono ?_
       rintro _ Y2 ⟨vA, rfl, NA, vY2⟩
       obtain ⟨ANA, nNA, cNA, rfl, NA⟩ := NA.slq
       replace NA := NA.lower (Nat.le_trans (Up.size U) (Up.size uY1))
       have uY2 : Up V Y2 := uY1.trans vY2
       refine hK.out _ _ ⟨X.up uY2, Y.up uY2⟩ (fun _ => ?_)
       try simp only [Act.put, M.z1, M.z2, M.z3, M.z4, M.z5, M.z6]
       clear hK
       refine wpAnyH_ready (rs := [14]) ?_ ?_ ?_
       ·kernel_rfl
       ·simp
       refine AllReadyH.cons rfl (fun KQ hK => ?_) AllReadyH.nil
       go_simp
       refine (CFi.out _ uY2 _ _ NA (Nat.le_trans (Up.size U) (Up.size uY2))).mono ?_
       rintro _ Y3 ⟨vF, rfl, NF, vY3⟩
       obtain ⟨ANF, nNF, cNF, rfl, NF⟩ := NF.slq
       have uY3 : Up V Y3 := uY2.trans vY3
       refine hK.out _ _ ⟨X.up uY3, Y.up uY3⟩ (fun _ => ?_)
       try simp only [Act.put, M.z1, M.z2, M.z3, M.z4, M.z5, M.z6]
       clear hK
       refine wpAnyH_take (i := 15) (v := ?_) rfl ?_ ?_ ?_ ?_ ?_ ?_ ?_
       rotate_left
       ·kernel_rfl
       ·kernel_rfl
       ·kernel_rfl
       ·exact fun c a w h => HP c _ _ a w h
       ·refine Or.inl ⟨by rfl, ?_⟩
        intro wq hSq
        go_simp
        all_goals with_reducible rfl
       ·assumption
       try simp only [Act.put, M.z1, M.z2, M.z3, M.z4, M.z5, M.z6]
       refine wpAnyH_take (i := 16) (v := ?_) rfl ?_ ?_ ?_ ?_ ?_ ?_ ?_
       rotate_left
       ·kernel_rfl
       ·kernel_rfl
       ·kernel_rfl
       ·exact fun c a w h => HP c _ _ a w h
       ·refine Or.inl ⟨by rfl, ?_⟩
        intro wq hSq
        go_simp
        all_goals with_reducible rfl
       ·assumption
       try simp only [Act.put, M.z1, M.z2, M.z3, M.z4, M.z5, M.z6]
       refine wpAnyH_ready (rs := [17]) ?_ ?_ ?_
       ·kernel_rfl
       ·simp
       refine AllReadyH.cons rfl (fun KQ hK => ?_) AllReadyH.nil
       have Qw := Q.up uY3
       have Qf := Qw.fr 8
       have Ql := Ob.lt Qw
       have q8 := Qw.get 8
       simp only [M.z7, M.z8, M.z9] at q8
       go_simp
       refine hK.out _ _ ⟨(X.up uY3).other hxp _, (Y.up uY3).other hyp _⟩ (fun _ => ?_)
       try simp only [Act.put, M.z1, M.z2, M.z3, M.z4, M.z5, M.z6]
       clear hK q8 Qf Ql Qw
       refine wpAnyH_done ?_ (HN _ _ ?_) _
       ·kernel_rfl
       go_wp2_with fail
       go_ret
       rw [HQ.out]
       exact ⟨(), rfl, HH.out.put (U.trans uY3) (NF.fit20 HR.out HS2.out) (Nat.le_refl _) HL.out⟩
      ·go_simp
       refine (CSg.out _ uY0 _ _ NP).mono ?_
       rintro _ Y1 ⟨vS, rfl, NS, vY1⟩
       obtain ⟨ANS, nNS, cNS, rfl, NS⟩ := NS.slq
       have uY1 : Up V Y1 := uY0.trans vY1
       refine hK.out _ _ ⟨X.up uY1, Y.up uY1⟩ (fun _ => ?_)
       try simp only [Act.put, M.z1, M.z2, M.z3, M.z4, M.z5, M.z6]
       clear hK
       refine wpAnyH_ready (rs := [5]) ?_ ?_ ?_
       ·kernel_rfl
       ·simp
       refine AllReadyH.cons rfl (fun KQ hK => ?_) AllReadyH.nil
       have q8 := (Q.up uY1).get 8
       simp only [M.z7, M.z8, M.z9] at q8
       go_simp
       refine hK.out _ _ ⟨X.up uY1, Y.up uY1⟩ (fun _ => ?_)
       try simp only [Act.put, M.z1, M.z2, M.z3, M.z4, M.z5, M.z6]
       clear hK q8
       refine wpAnyH_ready (rs := [13]) ?_ ?_ ?_
       ·kernel_rfl
       ·simp
       refine AllReadyH.cons rfl (fun KQ hK => ?_) AllReadyH.nil
       go_simp
       refine (CAd.out _ uY1 _ _ NS).mono ?_
       rintro _ Y2 ⟨vA, rfl, NA, vY2⟩
       obtain ⟨ANA, nNA, cNA, rfl, NA⟩ := NA.slq
       replace NA := NA.lower (Nat.le_trans (Up.size U) (Up.size uY1))
       have uY2 : Up V Y2 := uY1.trans vY2
       refine hK.out _ _ ⟨X.up uY2, Y.up uY2⟩ (fun _ => ?_)
       try simp only [Act.put, M.z1, M.z2, M.z3, M.z4, M.z5, M.z6]
       clear hK
       refine wpAnyH_ready (rs := [14]) ?_ ?_ ?_
       ·kernel_rfl
       ·simp
       refine AllReadyH.cons rfl (fun KQ hK => ?_) AllReadyH.nil
       go_simp
       refine (CFi.out _ uY2 _ _ NA (Nat.le_trans (Up.size U) (Up.size uY2))).mono ?_
       rintro _ Y3 ⟨vF, rfl, NF, vY3⟩
       obtain ⟨ANF, nNF, cNF, rfl, NF⟩ := NF.slq
       have uY3 : Up V Y3 := uY2.trans vY3
       refine hK.out _ _ ⟨X.up uY3, Y.up uY3⟩ (fun _ => ?_)
       try simp only [Act.put, M.z1, M.z2, M.z3, M.z4, M.z5, M.z6]
       clear hK
       refine wpAnyH_take (i := 15) (v := ?_) rfl ?_ ?_ ?_ ?_ ?_ ?_ ?_
       rotate_left
       ·kernel_rfl
       ·kernel_rfl
       ·kernel_rfl
       ·exact fun c a w h => HP c _ _ a w h
       ·refine Or.inl ⟨by rfl, ?_⟩
        intro wq hSq
        go_simp
        all_goals with_reducible rfl
       ·assumption
       try simp only [Act.put, M.z1, M.z2, M.z3, M.z4, M.z5, M.z6]
       refine wpAnyH_take (i := 16) (v := ?_) rfl ?_ ?_ ?_ ?_ ?_ ?_ ?_
       rotate_left
       ·kernel_rfl
       ·kernel_rfl
       ·kernel_rfl
       ·exact fun c a w h => HP c _ _ a w h
       ·refine Or.inl ⟨by rfl, ?_⟩
        intro wq hSq
        go_simp
        all_goals with_reducible rfl
       ·assumption
       try simp only [Act.put, M.z1, M.z2, M.z3, M.z4, M.z5, M.z6]
       refine wpAnyH_ready (rs := [17]) ?_ ?_ ?_
       ·kernel_rfl
       ·simp
       refine AllReadyH.cons rfl (fun KQ hK => ?_) AllReadyH.nil
       have Qw := Q.up uY3
       have Qf := Qw.fr 8
       have Ql := Ob.lt Qw
       have q8 := Qw.get 8
       simp only [M.z7, M.z8, M.z9] at q8
       go_simp
       refine hK.out _ _ ⟨(X.up uY3).other hxp _, (Y.up uY3).other hyp _⟩ (fun _ => ?_)
       try simp only [Act.put, M.z1, M.z2, M.z3, M.z4, M.z5, M.z6]
       clear hK q8 Qf Ql Qw
       refine wpAnyH_done ?_ (HN _ _ ?_) _
       ·kernel_rfl
       go_wp2_with fail
       go_ret
       rw [HQ.out]
       exact ⟨(), rfl, HH.out.put (U.trans uY3) (NF.fit20 HR.out HS2.out) (Nat.le_refl _) HL.out⟩
end Go.Proofs.YtijpffgocookaaaGreatDoor
