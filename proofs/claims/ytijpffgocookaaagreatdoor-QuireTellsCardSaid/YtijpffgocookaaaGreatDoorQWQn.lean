import Derived.Test.YtijpffgocookaaaGreatDoorQWQm
import Derived.Test.YtijpffgocookaaaGreatDoorQWNb
import Derived.Test.YtijpffgocookaaaGreatDoorQWExa
set_option maxHeartbeats 32000000
set_option linter.unusedVariables false
set_option linter.unusedSimpArgs false
namespace Go.Proofs.YtijpffgocookaaaGreatDoor
open Go.RowKit Go.Shelf
def Rlo (lo s a : Nat) (w : World) (e : Ending) (w' : World) : Prop := ∃ v, e = .returned v ∧ Nt w' lo s v a ∧ Up w w'
set_option maxRecDepth 100000 in
theorem qu_size (w : World) {p i S Z : Nat} {f : M.Fm} (K : Hid (Qk i f S Z)) (v : Value) (Q : Qo w p i f v)  : Calls Tryz.prog 37 #[ptr p] w (Nz (S : Int) w) := by
 obtain ⟨s1, _s2, zq1, zq2⟩ : (128 ≤ S ∧ S ≤ 1024) ∧ True ∧ 48 ≤ Z ∧ Z ≤ 496 := ⟨⟨K.out.s1, K.out.s2⟩, trivial, K.out.z1, K.out.z2⟩
 have q1 := K.out.sw
 have q2 : IntKind.i64.wrap (S : Int) = (S : Int) := by unfold IntKind.wrap; simp [IntKind.min, IntKind.max, IntKind.signed, IntKind.bits]; omega
 have U := Up.refl w
 go_enter Tryz.func37, Tryz.ntmps37
 obtain ⟨Q0, Q1, Q2, Q3, Q4, Q5, Q6, Q7, Q8⟩ := Q.g9
 go_wp2_with fail
 clear Q0 Q1 Q2 Q3 Q4 Q5 Q6 Q7 Q8
 go_ret
 exact ⟨rfl, (by first | exact U | exact U.drew | exact U.drewN _)⟩
set_option maxRecDepth 100000 in
theorem qu_point (w : World) {p i S Z : Nat} {f : M.Fm} (K : Hid (Qk i f S Z)) (v : Value) (Q : Qo w p i f v)  : Calls Tryz.prog 90 #[ptr p] w (Nz (Z : Int) w) := by
 obtain ⟨s1, _s2, zq1, zq2⟩ : (128 ≤ S ∧ S ≤ 1024) ∧ True ∧ 48 ≤ Z ∧ Z ≤ 496 := ⟨⟨K.out.s1, K.out.s2⟩, trivial, K.out.z1, K.out.z2⟩
 have q1 := K.out.zw
 have q2 : IntKind.i64.wrap ((Z : Int) + 16) = ((Z : Int) + 16) := by unfold IntKind.wrap; simp [IntKind.min, IntKind.max, IntKind.signed, IntKind.bits]; omega
 have q3 : (Z : Int) + 16 - 16 = Z := by omega
 have q4 : IntKind.i64.wrap (Z : Int) = (Z : Int) := by unfold IntKind.wrap; simp [IntKind.min, IntKind.max, IntKind.signed, IntKind.bits]; omega
 have U := Up.refl w
 go_enter Tryz.func90, Tryz.ntmps90
 obtain ⟨Q0, Q1, Q2, Q3, Q4, Q5, Q6, Q7, Q8⟩ := Q.g9
 go_wp2_with fail
 clear Q0 Q1 Q2 Q3 Q4 Q5 Q6 Q7 Q8
 go_ret
 exact ⟨rfl, (by first | exact U | exact U.drew | exact U.drewN _)⟩
set_option maxRecDepth 100000 in
theorem qu_highest (w : World) {p i S Z : Nat} {f : M.Fm} (K : Hid (Qk i f S Z)) (v : Value) (Q : Qo w p i f v)  : Calls Tryz.prog 62 #[ptr p] w (Res 20 (2 ^ (S - 1)) w) := by
 obtain ⟨s1, _s2, zq1, zq2⟩ : (128 ≤ S ∧ S ≤ 1024) ∧ True ∧ 48 ≤ Z ∧ Z ≤ 496 := ⟨⟨K.out.s1, K.out.s2⟩, trivial, K.out.z1, K.out.z2⟩
 have CS := Lib.hid (fun W (u : Up w W) => qu_size W K v (Q.up u))
 have CO := Lib.hid (fun W (u : Up w W) => of_any W 1 (by decide))
 obtain ⟨S1, hS⟩ : ∃ S1, S = S1 + 1 := ⟨S - 1, by omega⟩
 have q1 : (S : Int) - 1 = (S1 : Int) := by omega
 have q2 : IntKind.i64.wrap (S1 : Int) = (S1 : Int) := by unfold IntKind.wrap; simp [IntKind.min, IntKind.max, IntKind.signed, IntKind.bits]; omega
 have CL := Lib.hid (fun W (u : Up w W) lo vv (N : Nt W lo 1 vv 1) => shl_any W lo 1 vv 1 N.nw (by omega) (S1 : Int) S1 (by omega))
 have U := Up.refl w
 have HB : Hid (S1 / 64 + 2 ≤ 20) := Lib.hid (show S1 / 64 + 2 ≤ 20 by omega)
 have HE : Hid (2 ^ (S - 1) = 1 * 2 ^ S1) := by rw [Hid, hS, Nat.add_sub_cancel, Nat.one_mul]
 clear hS
 go_enter Tryz.func62, Tryz.ntmps62
 obtain ⟨Q0, Q1, Q2, Q3, Q4, Q5, Q6, Q7, Q8⟩ := Q.g9
 go_wp2_with fail
 clear Q0 Q1 Q2 Q3 Q4 Q5 Q6 Q7 Q8
 refine (CO.out _ (by first | exact U | exact U.drew | exact U.drewN _)).mono ?_
 rintro _ w1 ⟨vN, rfl, N, h1⟩
 replace U := Up.trans (by first | exact U | exact U.drew | exact U.drewN _) h1
 replace Q := Q.up (Up.trans (by first | exact Up.refl _ | exact (Up.refl _).drew | exact (Up.refl _).drewN _) h1)
 clear h1
 obtain ⟨AN, nN, cN, rfl, N⟩ := N.slq
 obtain ⟨Q0, Q1, Q2, Q3, Q4, Q5, Q6, Q7, Q8⟩ := Q.g9
 go_wp2_with fail
 clear Q0 Q1 Q2 Q3 Q4 Q5 Q6 Q7 Q8
 refine (CS.out _ (by first | exact U | exact U.drew | exact U.drewN _)).mono ?_
 rintro _ w2 ⟨rfl, h2⟩
 replace U := Up.trans (by first | exact U | exact U.drew | exact U.drewN _) h2
 replace Q := Q.up (Up.trans (by first | exact Up.refl _ | exact (Up.refl _).drew | exact (Up.refl _).drewN _) h2)
 replace N := N.up (Up.trans (by first | exact Up.refl _ | exact (Up.refl _).drew | exact (Up.refl _).drewN _) h2)
 clear h2
 obtain ⟨Q0, Q1, Q2, Q3, Q4, Q5, Q6, Q7, Q8⟩ := Q.g9
 go_wp2_with fail
 clear Q0 Q1 Q2 Q3 Q4 Q5 Q6 Q7 Q8
 refine (CL.out _ (by first | exact U | exact U.drew | exact U.drewN _) _ _ N).mono ?_
 have SZ0 : Hid (w.heap.size ≤ w2.heap.size) := Lib.hid U.size
 rintro _ w3 ⟨vM_, rfl, M_, h3⟩
 replace U := Up.trans (by first | exact U | exact U.drew | exact U.drewN _) h3
 replace Q := Q.up (Up.trans (by first | exact Up.refl _ | exact (Up.refl _).drew | exact (Up.refl _).drewN _) h3)
 clear h3
 obtain ⟨AM_, nM_, cM_, rfl, M_⟩ := M_.slq
 obtain ⟨Q0, Q1, Q2, Q3, Q4, Q5, Q6, Q7, Q8⟩ := Q.g9
 go_wp2_with fail
 clear Q0 Q1 Q2 Q3 Q4 Q5 Q6 Q7 Q8
 go_ret
 exact ⟨_, rfl, by rw [HE.out]; exact (M_.more (by have := HB.out; omega)).lower SZ0.out, (by first | exact U | exact U.drew | exact U.drewN _)⟩
set_option maxRecDepth 100000 in
theorem qu_beyond (w : World) {p i S Z : Nat} {f : M.Fm} (K : Hid (Qk i f S Z)) (v : Value) (Q : Qo w p i f v)  : Calls Tryz.prog 88 #[ptr p] w (Res 20 (2 ^ S) w) := by
 obtain ⟨s1, _s2, zq1, zq2⟩ : (128 ≤ S ∧ S ≤ 1024) ∧ True ∧ 48 ≤ Z ∧ Z ≤ 496 := ⟨⟨K.out.s1, K.out.s2⟩, trivial, K.out.z1, K.out.z2⟩
 have CS := Lib.hid (fun W (u : Up w W) => qu_size W K v (Q.up u))
 have CO := Lib.hid (fun W (u : Up w W) => of_any W 1 (by decide))
 have CL := Lib.hid (fun W (u : Up w W) lo vv (N : Nt W lo 1 vv 1) => shl_any W lo 1 vv 1 N.nw (by omega) (S : Int) S (by omega))
 have U := Up.refl w
 have HB : Hid (S / 64 + 2 ≤ 20) := Lib.hid (show S / 64 + 2 ≤ 20 by omega)
 go_enter Tryz.func88, Tryz.ntmps88
 obtain ⟨Q0, Q1, Q2, Q3, Q4, Q5, Q6, Q7, Q8⟩ := Q.g9
 go_wp2_with fail
 clear Q0 Q1 Q2 Q3 Q4 Q5 Q6 Q7 Q8
 refine (CO.out _ (by first | exact U | exact U.drew | exact U.drewN _)).mono ?_
 rintro _ w1 ⟨vN, rfl, N, h1⟩
 replace U := Up.trans (by first | exact U | exact U.drew | exact U.drewN _) h1
 replace Q := Q.up (Up.trans (by first | exact Up.refl _ | exact (Up.refl _).drew | exact (Up.refl _).drewN _) h1)
 clear h1
 obtain ⟨AN, nN, cN, rfl, N⟩ := N.slq
 obtain ⟨Q0, Q1, Q2, Q3, Q4, Q5, Q6, Q7, Q8⟩ := Q.g9
 go_wp2_with fail
 clear Q0 Q1 Q2 Q3 Q4 Q5 Q6 Q7 Q8
 refine (CS.out _ (by first | exact U | exact U.drew | exact U.drewN _)).mono ?_
 rintro _ w2 ⟨rfl, h2⟩
 replace U := Up.trans (by first | exact U | exact U.drew | exact U.drewN _) h2
 replace Q := Q.up (Up.trans (by first | exact Up.refl _ | exact (Up.refl _).drew | exact (Up.refl _).drewN _) h2)
 replace N := N.up (Up.trans (by first | exact Up.refl _ | exact (Up.refl _).drew | exact (Up.refl _).drewN _) h2)
 clear h2
 obtain ⟨Q0, Q1, Q2, Q3, Q4, Q5, Q6, Q7, Q8⟩ := Q.g9
 go_wp2_with fail
 clear Q0 Q1 Q2 Q3 Q4 Q5 Q6 Q7 Q8
 refine (CL.out _ (by first | exact U | exact U.drew | exact U.drewN _) _ _ N).mono ?_
 have SZ0 : Hid (w.heap.size ≤ w2.heap.size) := Lib.hid U.size
 rintro _ w3 ⟨vM_, rfl, M_, h3⟩
 replace U := Up.trans (by first | exact U | exact U.drew | exact U.drewN _) h3
 replace Q := Q.up (Up.trans (by first | exact Up.refl _ | exact (Up.refl _).drew | exact (Up.refl _).drewN _) h3)
 clear h3
 obtain ⟨AM_, nM_, cM_, rfl, M_⟩ := M_.slq
 obtain ⟨Q0, Q1, Q2, Q3, Q4, Q5, Q6, Q7, Q8⟩ := Q.g9
 go_wp2_with fail
 clear Q0 Q1 Q2 Q3 Q4 Q5 Q6 Q7 Q8
 go_ret
 exact ⟨_, rfl, by rw [show 2 ^ S = 1 * 2 ^ S by rw [Nat.one_mul]]; exact (M_.more (by have := HB.out; omega)).lower SZ0.out, (by first | exact U | exact U.drew | exact U.drewN _)⟩
set_option maxRecDepth 100000 in
theorem qu_fitting (w : World) {p i S Z : Nat} {f : M.Fm} (K : Hid (Qk i f S Z)) (v : Value) (Q : Qo w p i f v) (lo s : Nat) (v2 : Value) (a : Nat) (N : Nt w lo s v2 a) (ha : a < 2 * 2 ^ S) (hlo : lo ≤ w.heap.size) : Calls Tryz.prog 79 #[ptr p, v2] w (Rlo lo s (a % 2 ^ S) w) := by
 obtain ⟨s1, _s2, zq1, zq2⟩ : (128 ≤ S ∧ S ≤ 1024) ∧ True ∧ 48 ≤ Z ∧ Z ≤ 496 := ⟨⟨K.out.s1, K.out.s2⟩, trivial, K.out.z1, K.out.z2⟩
 obtain ⟨A, n, c, rfl, N⟩ := N.slq
 obtain ⟨P, hP⟩ : ∃ P, 2 ^ S = P := ⟨_, rfl⟩
 have P0 : 0 < P := by rw [← hP]; exact Nat.two_pow_pos S
 have CB := Lib.hid (fun W (u : Up w W) => qu_beyond W K v (Q.up u))
 rw [hP] at CB ha ⊢
 obtain ⟨r, hr⟩ : ∃ r, decide (P ≤ a) = r := ⟨_, rfl⟩
 have CU := Lib.hid (fun W (u : Up w W) lo2 v2 (N2 : Nt W lo2 20 v2 P) => sub_any W lo lo2 s 20 (.slice A n c) v2 a P (N.up u).nw N2.nw)
 rw [hr] at CU
 have HM : Hid ((r = true → a % P = a - P) ∧ (r = false → a % P = a)) := by
  refine Lib.hid ⟨fun e => ?_, fun e => ?_⟩
  ·rw [e] at hr
   have := of_decide_eq_true hr
   rw [← M.fit_mod ha, if_pos this]
  ·rw [e] at hr
   have := of_decide_eq_false hr
   rw [← M.fit_mod ha, if_neg this]
 have HN := Lib.hid N
 have HL := Lib.hid hlo
 clear ha hr hP P0 N hlo
 have U := Up.refl w
 cases r
 ·go_enter Tryz.func79, Tryz.ntmps79
  obtain ⟨Q0, Q1, Q2, Q3, Q4, Q5, Q6, Q7, Q8⟩ := Q.g9
  go_wp2_with fail
  clear Q0 Q1 Q2 Q3 Q4 Q5 Q6 Q7 Q8
  refine (CB.out _ (by first | exact U | exact U.drew | exact U.drewN _)).mono ?_
  rintro _ w1 ⟨vB, rfl, B, h1⟩
  replace U := Up.trans (by first | exact U | exact U.drew | exact U.drewN _) h1
  replace Q := Q.up (Up.trans (by first | exact Up.refl _ | exact (Up.refl _).drew | exact (Up.refl _).drewN _) h1)
  clear h1
  obtain ⟨AB, nB, cB, rfl, B⟩ := B.slq
  obtain ⟨Q0, Q1, Q2, Q3, Q4, Q5, Q6, Q7, Q8⟩ := Q.g9
  go_wp2_with fail
  clear Q0 Q1 Q2 Q3 Q4 Q5 Q6 Q7 Q8
  refine (CU.out _ (by first | exact U | exact U.drew | exact U.drewN _) _ _ B).mono ?_
  have SZ0 : Hid (w.heap.size ≤ w1.heap.size) := Lib.hid U.size
  rintro _ w2 ⟨v3, rfl, N3, h2⟩
  replace U := Up.trans (by first | exact U | exact U.drew | exact U.drewN _) h2
  replace Q := Q.up (Up.trans (by first | exact Up.refl _ | exact (Up.refl _).drew | exact (Up.refl _).drewN _) h2)
  clear h2
  obtain ⟨A3, n3, c3, rfl, N3⟩ := N3.slq
  obtain ⟨Q0, Q1, Q2, Q3, Q4, Q5, Q6, Q7, Q8⟩ := Q.g9
  go_wp2_with fail
  clear Q0 Q1 Q2 Q3 Q4 Q5 Q6 Q7 Q8
  go_ret
  exact ⟨_, rfl, by rw [HM.out.2 (by first | rfl | trivial)]; exact HN.out.up (by first | exact U | exact U.drew | exact U.drewN _), (by first | exact U | exact U.drew | exact U.drewN _)⟩
 ·go_enter Tryz.func79, Tryz.ntmps79
  obtain ⟨Q0, Q1, Q2, Q3, Q4, Q5, Q6, Q7, Q8⟩ := Q.g9
  go_wp2_with fail
  clear Q0 Q1 Q2 Q3 Q4 Q5 Q6 Q7 Q8
  refine (CB.out _ (by first | exact U | exact U.drew | exact U.drewN _)).mono ?_
  rintro _ w1 ⟨vB, rfl, B, h1⟩
  replace U := Up.trans (by first | exact U | exact U.drew | exact U.drewN _) h1
  replace Q := Q.up (Up.trans (by first | exact Up.refl _ | exact (Up.refl _).drew | exact (Up.refl _).drewN _) h1)
  clear h1
  obtain ⟨AB, nB, cB, rfl, B⟩ := B.slq
  obtain ⟨Q0, Q1, Q2, Q3, Q4, Q5, Q6, Q7, Q8⟩ := Q.g9
  go_wp2_with fail
  clear Q0 Q1 Q2 Q3 Q4 Q5 Q6 Q7 Q8
  refine (CU.out _ (by first | exact U | exact U.drew | exact U.drewN _) _ _ B).mono ?_
  have SZ0 : Hid (w.heap.size ≤ w1.heap.size) := Lib.hid U.size
  rintro _ w2 ⟨v3, rfl, N3, h2⟩
  replace U := Up.trans (by first | exact U | exact U.drew | exact U.drewN _) h2
  replace Q := Q.up (Up.trans (by first | exact Up.refl _ | exact (Up.refl _).drew | exact (Up.refl _).drewN _) h2)
  clear h2
  obtain ⟨A3, n3, c3, rfl, N3⟩ := N3.slq
  obtain ⟨Q0, Q1, Q2, Q3, Q4, Q5, Q6, Q7, Q8⟩ := Q.g9
  go_wp2_with fail
  clear Q0 Q1 Q2 Q3 Q4 Q5 Q6 Q7 Q8
  go_ret
  exact ⟨_, rfl, by rw [HM.out.1 (by first | rfl | trivial)]; exact N3.lower (Nat.le_trans HL.out SZ0.out), (by first | exact U | exact U.drew | exact U.drewN _)⟩
set_option maxRecDepth 100000 in
theorem qu_turned (w : World) {p i S Z : Nat} {f : M.Fm} (K : Hid (Qk i f S Z)) (v : Value) (Q : Qo w p i f v) (lo s : Nat) (v2 : Value) (a : Nat) (N : Nt w lo s v2 a) (ha : a ≤ 2 ^ S) : Calls Tryz.prog 53 #[ptr p, v2] w (Res 20 (M.ng (2 ^ S) a) w) := by
 obtain ⟨s1, _s2, zq1, zq2⟩ : (128 ≤ S ∧ S ≤ 1024) ∧ True ∧ 48 ≤ Z ∧ Z ≤ 496 := ⟨⟨K.out.s1, K.out.s2⟩, trivial, K.out.z1, K.out.z2⟩
 obtain ⟨A, n, c, rfl, N⟩ := N.slq
 obtain ⟨P, hP⟩ : ∃ P, 2 ^ S = P := ⟨_, rfl⟩
 have P0 : 0 < P := by rw [← hP]; exact Nat.two_pow_pos S
 have CB := Lib.hid (fun W (u : Up w W) => qu_beyond W K v (Q.up u))
 have CF := Lib.hid (fun W (u : Up w W) lo3 v3 (N3 : Nt W lo3 20 v3 (2 ^ S - a)) (h : lo3 ≤ W.heap.size) => qu_fitting W K v (Q.up u) lo3 20 v3 (2 ^ S - a) N3 (by rw [hP]; omega) h)
 rw [hP] at CB CF ha ⊢
 have CU := Lib.hid (fun W (u : Up w W) lo2 v2 (N2 : Nt W lo2 20 v2 P) => sub_ok W lo2 lo 20 s v2 (.slice A n c) P a N2.nw (N.up u).nw ha)
 clear ha hP P0 N
 have U := Up.refl w
 go_enter Tryz.func53, Tryz.ntmps53
 obtain ⟨Q0, Q1, Q2, Q3, Q4, Q5, Q6, Q7, Q8⟩ := Q.g9
 go_wp2_with fail
 clear Q0 Q1 Q2 Q3 Q4 Q5 Q6 Q7 Q8
 refine (CB.out _ (by first | exact U | exact U.drew | exact U.drewN _)).mono ?_
 rintro _ w1 ⟨vB, rfl, B, h1⟩
 replace U := Up.trans (by first | exact U | exact U.drew | exact U.drewN _) h1
 replace Q := Q.up (Up.trans (by first | exact Up.refl _ | exact (Up.refl _).drew | exact (Up.refl _).drewN _) h1)
 clear h1
 obtain ⟨AB, nB, cB, rfl, B⟩ := B.slq
 obtain ⟨Q0, Q1, Q2, Q3, Q4, Q5, Q6, Q7, Q8⟩ := Q.g9
 go_wp2_with fail
 clear Q0 Q1 Q2 Q3 Q4 Q5 Q6 Q7 Q8
 refine (CU.out _ (by first | exact U | exact U.drew | exact U.drewN _) _ _ B).mono ?_
 have SZ0 : Hid (w.heap.size ≤ w1.heap.size) := Lib.hid U.size
 rintro _ w2 ⟨v3, rfl, N3, h2⟩
 replace U := Up.trans (by first | exact U | exact U.drew | exact U.drewN _) h2
 replace Q := Q.up (Up.trans (by first | exact Up.refl _ | exact (Up.refl _).drew | exact (Up.refl _).drewN _) h2)
 have LE2 := h2.size
 clear h2
 have SZ1 : Hid (w1.heap.size ≤ w2.heap.size) := Lib.hid LE2
 obtain ⟨A3, n3, c3, rfl, N3⟩ := N3.slq
 obtain ⟨Q0, Q1, Q2, Q3, Q4, Q5, Q6, Q7, Q8⟩ := Q.g9
 go_wp2_with fail
 clear Q0 Q1 Q2 Q3 Q4 Q5 Q6 Q7 Q8
 refine (CF.out _ (by first | exact U | exact U.drew | exact U.drewN _) _ _ N3 SZ1.out).mono ?_
 rintro _ w3 ⟨vN4, rfl, N4, h3⟩
 replace U := Up.trans (by first | exact U | exact U.drew | exact U.drewN _) h3
 replace Q := Q.up (Up.trans (by first | exact Up.refl _ | exact (Up.refl _).drew | exact (Up.refl _).drewN _) h3)
 clear h3
 obtain ⟨AN4, nN4, cN4, rfl, N4⟩ := N4.slq
 obtain ⟨Q0, Q1, Q2, Q3, Q4, Q5, Q6, Q7, Q8⟩ := Q.g9
 go_wp2_with fail
 clear Q0 Q1 Q2 Q3 Q4 Q5 Q6 Q7 Q8
 go_ret
 exact ⟨_, rfl, N4.lower SZ0.out, (by first | exact U | exact U.drew | exact U.drewN _)⟩
set_option maxRecDepth 100000 in
theorem qu_signed_pos (w : World) {p i S Z : Nat} {f : M.Fm} (K : Hid (Qk i f S Z)) (v : Value) (Q : Qo w p i f v) (A : Option Addr) (n c : Nat) : Calls Tryz.prog 57 #[ptr p, .bool false, .slice A n c] w (fun e w' => e = .returned (.slice A n c) ∧ Up w w') := by
 have U := Up.refl w
 go_enter Tryz.func57, Tryz.ntmps57
 obtain ⟨Q0, Q1, Q2, Q3, Q4, Q5, Q6, Q7, Q8⟩ := Q.g9
 go_wp2_with fail
 clear Q0 Q1 Q2 Q3 Q4 Q5 Q6 Q7 Q8
 go_ret
 exact ⟨rfl, (by first | exact U | exact U.drew | exact U.drewN _)⟩
set_option maxRecDepth 100000 in
theorem qu_signed_neg (w : World) {p i S Z : Nat} {f : M.Fm} (K : Hid (Qk i f S Z)) (v : Value) (Q : Qo w p i f v) (lo s : Nat) (v2 : Value) (a : Nat) (N : Nt w lo s v2 a) (ha : a ≤ 2 ^ S) : Calls Tryz.prog 57 #[ptr p, .bool true, v2] w (Res 20 (M.ng (2 ^ S) a) w) := by
 obtain ⟨A, n, c, rfl, N⟩ := N.slq
 have CT := Lib.hid (fun W (u : Up w W) => qu_turned W K v (Q.up u) lo s (.slice A n c) a (N.up u) ha)
 clear ha N
 have U := Up.refl w
 go_enter Tryz.func57, Tryz.ntmps57
 obtain ⟨Q0, Q1, Q2, Q3, Q4, Q5, Q6, Q7, Q8⟩ := Q.g9
 go_wp2_with fail
 clear Q0 Q1 Q2 Q3 Q4 Q5 Q6 Q7 Q8
 refine (CT.out _ (by first | exact U | exact U.drew | exact U.drewN _)).mono ?_
 rintro _ w1 ⟨vN4, rfl, N4, h1⟩
 replace U := Up.trans (by first | exact U | exact U.drew | exact U.drewN _) h1
 replace Q := Q.up (Up.trans (by first | exact Up.refl _ | exact (Up.refl _).drew | exact (Up.refl _).drewN _) h1)
 clear h1
 obtain ⟨AN4, nN4, cN4, rfl, N4⟩ := N4.slq
 obtain ⟨Q0, Q1, Q2, Q3, Q4, Q5, Q6, Q7, Q8⟩ := Q.g9
 go_wp2_with fail
 clear Q0 Q1 Q2 Q3 Q4 Q5 Q6 Q7 Q8
 go_ret
 exact ⟨_, rfl, N4.lower (by first | exact Nat.le_refl _ | (simp)), (by first | exact U | exact U.drew | exact U.drewN _)⟩
theorem set4_blk {w : World} {b : Nat} (u0 u1 u2 u3 : Value) (k : Nat) (hk : k ≠ b) : (set4 w b u0 u1 u2 u3).heap[k]? = w.heap[k]? := by
 unfold set4
 rw [Below.heap_setCell _ ⟨b, 3, none⟩ _ k hk, Below.heap_setCell _ ⟨b, 2, none⟩ _ k hk, Below.heap_setCell _ ⟨b, 1, none⟩ _ k hk, Below.heap_setCell _ ⟨b, 0, none⟩ _ k hk]
set_option maxRecDepth 100000 in
theorem qu_held (w : World) {p i S Z : Nat} {f : M.Fm} (K : Hid (Qk i f S Z)) (A : Option Addr) (n c b : Nat) (Q : Qo w p i f (.slice A n c)) (N : Nt w 0 20 (.slice A n c) b) (hb : b < 2 ^ S) : Calls Tryz.prog 60 #[ptr p] w (fun e w' => ∃ v2, e = .returned (xv (decide (M.qn i ≤ b)) v2 (-(Z : Int)) 0) ∧ Nt w' 0 20 v2 (M.qm i b) ∧ Up w w') := by
 obtain ⟨s1, _s2, zq1, zq2⟩ : (128 ≤ S ∧ S ≤ 1024) ∧ True ∧ 48 ≤ Z ∧ Z ≤ 496 := ⟨⟨K.out.s1, K.out.s2⟩, trivial, K.out.z1, K.out.z2⟩
 have CS := Lib.hid (fun W (u : Up w W) => qu_size W K (.slice A n c) (Q.up u))
 have CP := Lib.hid (fun W (u : Up w W) => qu_point W K (.slice A n c) (Q.up u))
 obtain ⟨B, hB⟩ : ∃ B : Nat, M.bits b = B := ⟨_, rfl⟩
 have CB := Lib.hid (fun W (u : Up w W) => bits_at2 W 0 20 (.slice A n c) b (B : Int) (N.up u).nw (Lib.hid (by rw [hB])))
 obtain ⟨g, hg⟩ : ∃ g, decide (M.qn i ≤ b) = g := ⟨_, rfl⟩
 have e1 : ((B : Int) == (S : Int)) = g := by rw [← hB, ← hg, ← K.out.s]; exact M.top_bitq K.out.i1 K.out.i2 (by rw [K.out.s]; exact hb)
 have HG : Hid ((if g = true then M.ng (2 ^ S) b else b) = M.qm i b) := by
  have h1 := M.qn_pos i
  show _ = _
  rw [← hg, ← K.out.s]
  unfold M.qm
  rw [K.out.s]
  by_cases h : M.qn i ≤ b
  ·rw [if_pos (decide_eq_true h), if_neg (by omega), M.ng_pos (by omega) (by omega)]
  ·rw [if_neg (by simpa using h), if_pos (by omega)]
 have CN := Lib.hid (fun W (u : Up w W) => qu_signed_neg W K (.slice A n c) (Q.up u) 0 20 (.slice A n c) b (N.up u) (Nat.le_of_lt hb))
 have CQ := Lib.hid (fun W (u : Up w W) => qu_signed_pos W K (.slice A n c) (Q.up u) A n c)
 have HN := Lib.hid N
 have z3 : IntKind.i64.wrap (-(Z : Int)) = (-(Z : Int)) := by unfold IntKind.wrap; simp [IntKind.min, IntKind.max, IntKind.signed, IntKind.bits]; omega
 rw [hg]
 clear hb hg hB N s1
 obtain ⟨V, hV⟩ : ∃ V, w.alloc (.cells #[.bool false, .slice none 0 0, .int .i64 0, .int .i64 0] 34) = V := ⟨_, rfl⟩
 have bR : Bx V w.heap.size false (.slice none 0 0) 0 0 := by rw [← hV]; exact Bx.mk_ w _ _ _ _
 have sV : Hid (w.heap.size < V.heap.size) := Lib.hid (World.block_lt_of_cell? _ _ bR.1.1)
 have U : Up w V := by rw [← hV]; exact (Up.refl _).alloc _
 replace Q := Q.up U
 cases g
 ·go_enter Tryz.func60, Tryz.ntmps60
  go_upto_region 1 with fail
  clear hV
  have uV := Up.refl V
  obtain ⟨Q0, Q1, Q2, Q3, Q4, Q5, Q6, Q7, Q8⟩ := Q.g9
  go_wp2_with fail
  clear Q0 Q1 Q2 Q3 Q4 Q5 Q6 Q7 Q8
  refine (CB.out _ (by first | exact U | exact U.drew | exact U.drewN _)).mono ?_
  rintro _ _ ⟨rfl, rfl⟩
  obtain ⟨Q0, Q1, Q2, Q3, Q4, Q5, Q6, Q7, Q8⟩ := Q.g9
  go_wp2_with fail
  clear Q0 Q1 Q2 Q3 Q4 Q5 Q6 Q7 Q8
  refine (CS.out _ (by first | exact U | exact U.drew | exact U.drewN _)).mono ?_
  rintro _ w2 ⟨rfl, h2⟩
  replace U := Up.trans (by first | exact U | exact U.drew | exact U.drewN _) h2
  replace Q := Q.up (Up.trans (by first | exact Up.refl _ | exact (Up.refl _).drew | exact (Up.refl _).drewN _) h2)
  replace bR := bR.up (Up.trans (by first | exact Up.refl _ | exact (Up.refl _).drew | exact (Up.refl _).drewN _) h2)
  replace uV := uV.trans (Up.trans (by first | exact Up.refl _ | exact (Up.refl _).drew | exact (Up.refl _).drewN _) h2)
  clear h2
  obtain ⟨Q0, Q1, Q2, Q3, Q4, Q5, Q6, Q7, Q8⟩ := Q.g9
  go_wp2_with fail
  clear Q0 Q1 Q2 Q3 Q4 Q5 Q6 Q7 Q8
  refine (CQ.out _ (by first | exact U | exact U.drew | exact U.drewN _)).mono ?_
  rintro _ w3 ⟨rfl, h3⟩
  replace U := Up.trans (by first | exact U | exact U.drew | exact U.drewN _) h3
  replace Q := Q.up (Up.trans (by first | exact Up.refl _ | exact (Up.refl _).drew | exact (Up.refl _).drewN _) h3)
  replace bR := bR.up (Up.trans (by first | exact Up.refl _ | exact (Up.refl _).drew | exact (Up.refl _).drewN _) h3)
  replace uV := uV.trans (Up.trans (by first | exact Up.refl _ | exact (Up.refl _).drew | exact (Up.refl _).drewN _) h3)
  clear h3
  obtain ⟨Q0, Q1, Q2, Q3, Q4, Q5, Q6, Q7, Q8⟩ := Q.g9
  go_wp2_with fail
  clear Q0 Q1 Q2 Q3 Q4 Q5 Q6 Q7 Q8
  refine (CP.out _ (by first | exact U | exact U.drew | exact U.drewN _)).mono ?_
  rintro _ w4 ⟨rfl, h4⟩
  replace U := Up.trans (by first | exact U | exact U.drew | exact U.drewN _) h4
  replace Q := Q.up (Up.trans (by first | exact Up.refl _ | exact (Up.refl _).drew | exact (Up.refl _).drewN _) h4)
  replace bR := bR.up (Up.trans (by first | exact Up.refl _ | exact (Up.refl _).drew | exact (Up.refl _).drewN _) h4)
  replace uV := uV.trans (Up.trans (by first | exact Up.refl _ | exact (Up.refl _).drew | exact (Up.refl _).drewN _) h4)
  clear h4
  have FIN := Lib.hid (show _ ∧ _ from ⟨((HN.out.up U).keep_ (fun k o h0 e => set4_blk (.bool false) (.slice A n c) (.int .i64 (-(Z : Int))) (.int .i64 0) k (show k ≠ w.heap.size from by have := (HN.out.old_ h0 e).2; omega))), U.set4 (Nat.le_refl _) (.bool false) (.slice A n c) (.int .i64 (-(Z : Int))) (.int .i64 0)⟩)
  have HG2 := Lib.hid HG.out.symm
  obtain ⟨⟨b0, b1, b2, b3⟩, g0, g1, g2, g3⟩ := bR
  obtain ⟨Q0, Q1, Q2, Q3, Q4, Q5, Q6, Q7, Q8⟩ := Q.g9
  go_wp2_with fail
  clear Q0 Q1 Q2 Q3 Q4 Q5 Q6 Q7 Q8
  exact bodyPost_ret (v := xv false (.slice A n c) (-(Z : Int)) 0) (by simp [results, Tryz.results60, go_sem, b0, b1, b2, b3]) rfl ⟨_, rfl, by rw [HG2.out]; exact FIN.out.1, FIN.out.2⟩
 ·go_enter Tryz.func60, Tryz.ntmps60
  go_upto_region 1 with fail
  clear hV
  have uV := Up.refl V
  obtain ⟨Q0, Q1, Q2, Q3, Q4, Q5, Q6, Q7, Q8⟩ := Q.g9
  go_wp2_with fail
  clear Q0 Q1 Q2 Q3 Q4 Q5 Q6 Q7 Q8
  refine (CB.out _ (by first | exact U | exact U.drew | exact U.drewN _)).mono ?_
  rintro _ _ ⟨rfl, rfl⟩
  obtain ⟨Q0, Q1, Q2, Q3, Q4, Q5, Q6, Q7, Q8⟩ := Q.g9
  go_wp2_with fail
  clear Q0 Q1 Q2 Q3 Q4 Q5 Q6 Q7 Q8
  refine (CS.out _ (by first | exact U | exact U.drew | exact U.drewN _)).mono ?_
  rintro _ w2 ⟨rfl, h2⟩
  replace U := Up.trans (by first | exact U | exact U.drew | exact U.drewN _) h2
  replace Q := Q.up (Up.trans (by first | exact Up.refl _ | exact (Up.refl _).drew | exact (Up.refl _).drewN _) h2)
  replace bR := bR.up (Up.trans (by first | exact Up.refl _ | exact (Up.refl _).drew | exact (Up.refl _).drewN _) h2)
  replace uV := uV.trans (Up.trans (by first | exact Up.refl _ | exact (Up.refl _).drew | exact (Up.refl _).drewN _) h2)
  clear h2
  obtain ⟨Q0, Q1, Q2, Q3, Q4, Q5, Q6, Q7, Q8⟩ := Q.g9
  go_wp2_with fail
  clear Q0 Q1 Q2 Q3 Q4 Q5 Q6 Q7 Q8
  refine (CN.out _ (by first | exact U | exact U.drew | exact U.drewN _)).mono ?_
  have SZ0 : Hid (V.heap.size ≤ w2.heap.size) := Lib.hid uV.size
  rintro _ w3 ⟨vM_, rfl, M_, h3⟩
  replace U := Up.trans (by first | exact U | exact U.drew | exact U.drewN _) h3
  replace Q := Q.up (Up.trans (by first | exact Up.refl _ | exact (Up.refl _).drew | exact (Up.refl _).drewN _) h3)
  replace bR := bR.up (Up.trans (by first | exact Up.refl _ | exact (Up.refl _).drew | exact (Up.refl _).drewN _) h3)
  replace uV := uV.trans (Up.trans (by first | exact Up.refl _ | exact (Up.refl _).drew | exact (Up.refl _).drewN _) h3)
  clear h3
  obtain ⟨AM_, nM_, cM_, rfl, M_⟩ := M_.slq
  obtain ⟨Q0, Q1, Q2, Q3, Q4, Q5, Q6, Q7, Q8⟩ := Q.g9
  go_wp2_with fail
  clear Q0 Q1 Q2 Q3 Q4 Q5 Q6 Q7 Q8
  refine (CP.out _ (by first | exact U | exact U.drew | exact U.drewN _)).mono ?_
  rintro _ w4 ⟨rfl, h4⟩
  replace U := Up.trans (by first | exact U | exact U.drew | exact U.drewN _) h4
  replace Q := Q.up (Up.trans (by first | exact Up.refl _ | exact (Up.refl _).drew | exact (Up.refl _).drewN _) h4)
  replace bR := bR.up (Up.trans (by first | exact Up.refl _ | exact (Up.refl _).drew | exact (Up.refl _).drewN _) h4)
  replace uV := uV.trans (Up.trans (by first | exact Up.refl _ | exact (Up.refl _).drew | exact (Up.refl _).drewN _) h4)
  replace M_ := M_.up (Up.trans (by first | exact Up.refl _ | exact (Up.refl _).drew | exact (Up.refl _).drewN _) h4)
  clear h4
  have FIN := Lib.hid (show _ ∧ _ from ⟨((M_.set4 (Nat.lt_of_lt_of_le sV.out SZ0.out) (.bool true) (.slice AM_ nM_ cM_) (.int .i64 (-(Z : Int))) (.int .i64 0)).lower (Nat.zero_le _)), U.set4 (Nat.le_refl _) (.bool true) (.slice AM_ nM_ cM_) (.int .i64 (-(Z : Int))) (.int .i64 0)⟩)
  have HG2 := Lib.hid HG.out.symm
  obtain ⟨⟨b0, b1, b2, b3⟩, g0, g1, g2, g3⟩ := bR
  obtain ⟨Q0, Q1, Q2, Q3, Q4, Q5, Q6, Q7, Q8⟩ := Q.g9
  go_wp2_with fail
  clear Q0 Q1 Q2 Q3 Q4 Q5 Q6 Q7 Q8
  exact bodyPost_ret (v := xv true (.slice AM_ nM_ cM_) (-(Z : Int)) 0) (by simp [results, Tryz.results60, go_sem, b0, b1, b2, b3]) rfl ⟨_, rfl, by rw [HG2.out]; exact FIN.out.1, FIN.out.2⟩
end Go.Proofs.YtijpffgocookaaaGreatDoor
