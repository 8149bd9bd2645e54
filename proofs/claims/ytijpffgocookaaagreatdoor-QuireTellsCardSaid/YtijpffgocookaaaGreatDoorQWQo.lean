import Derived.Test.YtijpffgocookaaaGreatDoorQWQn
import Derived.Deep.RegionHeld3
set_option maxHeartbeats 32000000
set_option linter.unusedVariables false
set_option linter.unusedSimpArgs false
namespace Go.Proofs.YtijpffgocookaaaGreatDoor
open Go.RowKit Go.Shelf
set_option maxRecDepth 100000 in
theorem qu_product (w : World) {p i S Z : Nat} {f : M.Fm} (K : Hid (Qk i f S Z)) (v : Value) (Q : Qo w p i f v) (c c2 : Int) (g g2 : Bool) (m m2 k P : Nat) (z z2 : Int) (hm : m < 18446744073709551616) (hm2 : m2 < 18446744073709551616) (hz : -3000 ≤ z ∧ z ≤ 3000) (hz2 : -3000 ≤ z2 ∧ z2 ≤ 3000) (hk : z + z2 - M.qz i = (k : Int)) (k2 : k ≤ 2000) (hP : m * m2 * 2 ^ k = P) (hS : P < 2 ^ S) : Calls Tryz.prog 80 #[ptr p, .agg #[.int .i64 c, .bool g, u64 m, .int .i64 z], .agg #[.int .i64 c2, .bool g2, u64 m2, .int .i64 z2]] w (Res 20 P w) := by
 obtain ⟨s1, _s2, zq1, zq2⟩ : (128 ≤ S ∧ S ≤ 1024) ∧ True ∧ 48 ≤ Z ∧ Z ≤ 496 := ⟨⟨K.out.s1, K.out.s2⟩, trivial, K.out.z1, K.out.z2⟩
 have CO1 := Lib.hid (fun W (u : Up w W) => of_any W m hm)
 have CO2 := Lib.hid (fun W (u : Up w W) => of_any W m2 hm2)
 have CM := Lib.hid (fun W (u : Up w W) lo v lo' v' (N : Nt W lo 1 v m) (N' : Nt W lo' 1 v' m2) => mul_any W lo lo' 1 1 v v' m m2 N.nw N'.nw (by omega) (by omega))
 have CP := Lib.hid (fun W (u : Up w W) => qu_point W K v (Q.up u))
 obtain ⟨PM, hPM⟩ : ∃ PM, m * m2 = PM := ⟨_, rfl⟩
 rw [hPM] at CM hP
 have CL := Lib.hid (fun W (u : Up w W) lo v (N : Nt W lo 2 v PM) => shl_any W lo 2 v PM N.nw (by omega) (k : Int) k (by omega))
 rw [hP] at CL
 have HF : Hid (P < 2 ^ S) := Lib.hid hS
 have HS2 := Lib.hid s1.2
 rw [K.out.z] at hk
 have q1 : z + z2 + (Z : Int) = (k : Int) := by omega
 have q2 : IntKind.i64.wrap (z + z2) = (z + z2) := by unfold IntKind.wrap; simp [IntKind.min, IntKind.max, IntKind.signed, IntKind.bits]; omega
 have q3 : IntKind.i64.wrap (k : Int) = (k : Int) := by unfold IntKind.wrap; simp [IntKind.min, IntKind.max, IntKind.signed, IntKind.bits]; omega
 clear hPM hP hS hk k2 hm hm2 hz hz2
 have U := Up.refl w
 go_enter Tryz.func80, Tryz.ntmps80
 go_upto_region 1 with fail
 obtain ⟨VX, hVX, X, uVX⟩ := Ob.nw w 85 #[.int .i64 c, .bool g, u64 m, .int .i64 z]
 rw [hVX]
 replace U := U.trans uVX
 have sVX : VX.heap.size = w.heap.size + 1 := by rw [← hVX]; exact Array.size_push _
 clear hVX
 replace Q := Q.up uVX
 obtain ⟨VY, hVY, Y, uVY⟩ := Ob.nw VX 85 #[.int .i64 c2, .bool g2, u64 m2, .int .i64 z2]
 rw [hVY]
 replace U := U.trans uVY
 have sVY : VY.heap.size = VX.heap.size + 1 := by rw [← hVY]; exact Array.size_push _
 clear hVY
 replace Q := Q.up uVY
 replace X := X.up uVY
 rw [sVX] at Y
 clear sVX sVY uVX uVY
 obtain ⟨V, hV⟩ : ∃ V, V = VY := ⟨_, rfl⟩
 subst hV
 have X2 := X.get 2
 have X3 := X.get 3
 have Y2 := Y.get 2
 have Y3 := Y.get 3
 simp only [M.z7, M.z8, M.z9] at X2 X3 Y2 Y3
 have UV := Up.refl V
 replace CO1 := Lib.hid (fun W (u : Up V W) => CO1.out W (U.trans u))
 replace CO2 := Lib.hid (fun W (u : Up V W) => CO2.out W (U.trans u))
 replace CM := Lib.hid (fun W (u : Up V W) => CM.out W (U.trans u))
 replace CP := Lib.hid (fun W (u : Up V W) => CP.out W (U.trans u))
 replace CL := Lib.hid (fun W (u : Up V W) => CL.out W (U.trans u))
 clear Q X Y
 go_wp2_with fail
 go_region_held3 (fun w' => w'.cell? ⟨w.heap.size, 2, none⟩ = some (u64 m) ∧ w'.cell? ⟨w.heap.size, 3, none⟩ = some (.int .i64 z) ∧ w'.cell? ⟨w.heap.size + 1, 2, none⟩ = some (u64 m2) ∧ w'.cell? ⟨w.heap.size + 1, 3, none⟩ = some (.int .i64 z2)) (go_keep) (first
  | (go_at_call 41; (with_reducible refine (CO1.out _ ?_).mono ?_); (first | with_reducible assumption | exact UV.drewN _ | exact UV.drew); rintro _ wA ⟨vA, rfl, NA, hA⟩; obtain ⟨AA, nA, cA, rfl, NA⟩ := NA.slq; have UA : Up V wA := Up.trans (by first | with_reducible assumption | exact UV.drewN _ | exact UV.drew) hA; have X2A := cell_up UA X2; have X3A := cell_up UA X3; have Y2A := cell_up UA Y2; have Y3A := cell_up UA Y3)
  | (go_at_call 41; (with_reducible refine (CO2.out _ ?_).mono ?_); (first | with_reducible assumption | exact UV.drewN _ | exact UV.drew | exact UA.drewN _ | exact UA.drew); rintro _ wB ⟨vB, rfl, NB, hB⟩; obtain ⟨AB, nB, cB, rfl, NB⟩ := NB.slq; have UB : Up V wB := Up.trans (by first | with_reducible assumption | exact UV.drewN _ | exact UV.drew | exact UA.drewN _ | exact UA.drew) hB; have NAB := NA.up (Up.trans (by first | exact Up.refl _ | exact (Up.refl _).drewN _ | exact (Up.refl _).drew) hB); have X2B := cell_up UB X2; have X3B := cell_up UB X3; have Y2B := cell_up UB Y2; have Y3B := cell_up UB Y3)
  | (go_at_call 92; (refine (CM.out _ (by first | with_reducible assumption | exact UV.drewN _ | exact UV.drew | exact UA.drewN _ | exact UA.drew | exact UB.drewN _ | exact UB.drew) _ _ _ _ (by first | exact NAB | exact NAB.up ((Up.refl _).drewN _) | exact NAB.up ((Up.refl _).drew)) (by first | exact NB | exact NB.up ((Up.refl _).drewN _) | exact NB.up ((Up.refl _).drew))).mono ?_); rintro _ wC ⟨vC, rfl, NC, hC⟩; obtain ⟨AC, nC, cC, rfl, NC⟩ := NC.slq; have UC : Up V wC := Up.trans (by first | with_reducible assumption | exact UV.drewN _ | exact UV.drew | exact UA.drewN _ | exact UA.drew | exact UB.drewN _ | exact UB.drew) hC; have X2C := cell_up UC X2; have X3C := cell_up UC X3; have Y2C := cell_up UC Y2; have Y3C := cell_up UC Y3)
  | (go_at_call 90; (refine (CP.out _ (by first | with_reducible assumption | exact UV.drewN _ | exact UV.drew | exact UA.drewN _ | exact UA.drew | exact UB.drewN _ | exact UB.drew | exact UC.drewN _ | exact UC.drew)).mono ?_); rintro _ wD ⟨rfl, hD⟩; have UD : Up V wD := Up.trans (by first | with_reducible assumption | exact UV.drewN _ | exact UV.drew | exact UA.drewN _ | exact UA.drew | exact UB.drewN _ | exact UB.drew | exact UC.drewN _ | exact UC.drew) hD; have NCD := NC.up (Up.trans (by first | exact Up.refl _ | exact (Up.refl _).drewN _ | exact (Up.refl _).drew) hD); have X2D := cell_up UD X2; have X3D := cell_up UD X3; have Y2D := cell_up UD Y2; have Y3D := cell_up UD Y3)
  | (go_at_call 91; (refine (CL.out _ (by first | with_reducible assumption | exact UV.drewN _ | exact UV.drew | exact UA.drewN _ | exact UA.drew | exact UB.drewN _ | exact UB.drew | exact UC.drewN _ | exact UC.drew | exact UD.drewN _ | exact UD.drew) _ _ (by first | exact NCD | exact NCD.up ((Up.refl _).drewN _) | exact NCD.up ((Up.refl _).drew))).mono ?_); rintro _ wE ⟨vE, rfl, NE, hE⟩; obtain ⟨AE, nE, cE, rfl, NE⟩ := NE.slq; have SZE : Hid (w.heap.size ≤ _) := Lib.hid (U.trans (show Up V _ from by first | with_reducible assumption | exact UD.drewN _ | exact UD.drew)).size; have UE : Up V wE := Up.trans (by first | with_reducible assumption | exact UV.drewN _ | exact UV.drew | exact UA.drewN _ | exact UA.drew | exact UB.drewN _ | exact UB.drew | exact UC.drewN _ | exact UC.drew | exact UD.drewN _ | exact UD.drew) hE; have X2E := cell_up UE X2; have X3E := cell_up UE X3; have Y2E := cell_up UE Y2; have Y3E := cell_up UE Y3))
 go_wp2_with fail
 go_ret
 exact ⟨_, rfl, (NE.fit20 HF.out HS2.out).lower SZE.out, by first | exact U.trans UE | exact (U.trans UE).drew | exact (U.trans UE).drewN _⟩
set_option maxRecDepth 100000 in
theorem qu_steps_yes (w : World) {p i S Z : Nat} {f : M.Fm} (K : Hid (Qk i f S Z)) (v : Value) (Q : Qo w p i f v) (sg : Bool) (lo s : Nat) (XA : Option Addr) (xn xc a : Nat) (t fv : Int) (N : Nt w lo s (.slice XA xn xc) a) (hs : s ≤ 1000) (k j A : Nat) (r : Bool) (hk : t + (Z : Int) = (k : Int)) (hj : fv = (j : Int)) (k2 : k ≤ 10000) (j2 : j ≤ 5000) (ht : -10000 ≤ t ∧ t ≤ 10000) (hA : a * 5 ^ j * 2 ^ k = A) (hr : decide (((M.bits A : Nat) : Int) < (S : Int)) = r) : Calls Tryz.prog 55 #[ptr p, .agg #[.bool sg, .slice XA xn xc, .int .i64 t, .int .i64 fv]] w (fun e w' => ∃ v2, e = .returned (.tuple #[v2, .bool r]) ∧ Nt w' w.heap.size 10000 v2 A ∧ Up w w') := by
 obtain ⟨s1, _s2, zq1, zq2⟩ : (128 ≤ S ∧ S ≤ 1024) ∧ True ∧ 48 ≤ Z ∧ Z ≤ 496 := ⟨⟨K.out.s1, K.out.s2⟩, trivial, K.out.z1, K.out.z2⟩
 have CP := Lib.hid (fun W (u : Up w W) => qu_point W K v (Q.up u))
 subst hj
 have CS := Lib.hid (fun W (u : Up w W) => qu_size W K v (Q.up u))
 have CW := Lib.hid (fun W (u : Up w W) => pow_any W 5 j (j : Int) (by decide) (by omega))
 obtain ⟨G, hG⟩ : ∃ G, 5 ^ j = G := ⟨_, rfl⟩
 rw [hG] at CW hA
 have CM := Lib.hid (fun W (u : Up w W) lo' v' (N' : Nt W lo' (j + 1) v' G) => mul_any W lo lo' s (j + 1) (.slice XA xn xc) v' a G (N.up u).nw N'.nw (by omega) (by omega))
 obtain ⟨PM, hPM⟩ : ∃ PM, a * G = PM := ⟨_, rfl⟩
 rw [hPM] at CM hA
 have CL := Lib.hid (fun W (u : Up w W) lo' v' (N' : Nt W lo' (s + (j + 1)) v' PM) => shl_any W lo' (s + (j + 1)) v' PM N'.nw (by omega) (k : Int) k (by omega))
 rw [hA] at CL
 obtain ⟨B, hB⟩ : ∃ B : Nat, M.bits A = B := ⟨_, rfl⟩
 rw [hB] at hr
 have HR2 : Hid (decide (B < S) = r) := by
  show _ = _
  rw [← hr]; simp
 have CB := Lib.hid (fun W lo' s' v' (N' : Nt W lo' s' v' A) => bits_at2 W lo' s' v' A (B : Int) N'.nw (Lib.hid (by rw [hB])))
 have d1 : decide ((k : Int) < 0) = false := decide_eq_false (by omega)
 have d2 : decide ((j : Int) < 0) = false := decide_eq_false (by omega)
 have HB : Hid (s + (j + 1) + k / 64 + 1 ≤ 10000) := Lib.hid (show s + (j + 1) + k / 64 + 1 ≤ 10000 by omega)
 have q2 : IntKind.i64.wrap (k : Int) = (k : Int) := by unfold IntKind.wrap; simp [IntKind.min, IntKind.max, IntKind.signed, IntKind.bits]; omega
 clear hG hPM hA hB N hs k2 j2
 have U := Up.refl w
 go_enter Tryz.func55, Tryz.ntmps55
 go_upto_region 1 with fail
 obtain ⟨VX, hVX, X, uVX⟩ := Ob.nw w 34 #[.bool sg, .slice XA xn xc, .int .i64 t, .int .i64 (j : Int)]
 rw [hVX]
 replace U := U.trans uVX
 have sVX : VX.heap.size = w.heap.size + 1 := by rw [← hVX]; exact Array.size_push _
 clear hVX
 replace Q := Q.up uVX
 clear sVX uVX
 obtain ⟨V, hV⟩ : ∃ V, V = VX := ⟨_, rfl⟩
 subst hV
 have X1 := X.get 1
 have X2 := X.get 2
 have X3 := X.get 3
 simp only [M.z7, M.z8, M.z9] at X1 X2 X3
 have UV := Up.refl V
 replace CP := Lib.hid (fun W (u : Up V W) => CP.out W (U.trans u))
 replace CS := Lib.hid (fun W (u : Up V W) => CS.out W (U.trans u))
 replace CW := Lib.hid (fun W (u : Up V W) => CW.out W (U.trans u))
 replace CM := Lib.hid (fun W (u : Up V W) => CM.out W (U.trans u))
 replace CL := Lib.hid (fun W (u : Up V W) => CL.out W (U.trans u))
 clear Q X
 go_wp2_with fail
 go_region_held3 (fun w' => w'.cell? ⟨w.heap.size, 1, none⟩ = some (.slice XA xn xc) ∧ w'.cell? ⟨w.heap.size, 2, none⟩ = some (.int .i64 t) ∧ w'.cell? ⟨w.heap.size, 3, none⟩ = some (.int .i64 (j : Int))) (go_keep) (first
  | (go_at_call 90; (refine (CP.out _ (by first | with_reducible assumption | exact UV.drewN _ | exact UV.drew)).mono ?_); rintro _ wA ⟨rfl, hA⟩; have UA : Up V wA := Up.trans (by first | with_reducible assumption | exact UV.drewN _ | exact UV.drew) hA; have X1A := cell_up UA X1; have X2A := cell_up UA X2; have X3A := cell_up UA X3))
 go_upto_region 4 with fail
 go_region_held3 (fun w' => w'.cell? ⟨w.heap.size, 1, none⟩ = some (.slice XA xn xc) ∧ w'.cell? ⟨w.heap.size, 2, none⟩ = some (.int .i64 t) ∧ w'.cell? ⟨w.heap.size, 3, none⟩ = some (.int .i64 (j : Int))) (go_keep) (first
  | (go_at_call 93; (refine (CW.out _ (by first | with_reducible assumption | exact UV.drewN _ | exact UV.drew | exact UA.drewN _ | exact UA.drew)).mono ?_); rintro _ wB ⟨vB, rfl, NB, hB⟩; obtain ⟨AB, nB, cB, rfl, NB⟩ := NB.slq; have UB : Up V wB := Up.trans (by first | with_reducible assumption | exact UV.drewN _ | exact UV.drew | exact UA.drewN _ | exact UA.drew) hB; have X1B := cell_up UB X1; have X2B := cell_up UB X2; have X3B := cell_up UB X3)
  | (go_at_call 92; (refine (CM.out _ (by first | with_reducible assumption | exact UV.drewN _ | exact UV.drew | exact UA.drewN _ | exact UA.drew | exact UB.drewN _ | exact UB.drew) _ _ (by first | exact NB | exact NB.up ((Up.refl _).drewN _) | exact NB.up ((Up.refl _).drew))).mono ?_); rintro _ wC ⟨vC, rfl, NC, hC⟩; obtain ⟨AC, nC, cC, rfl, NC⟩ := NC.slq; have UC : Up V wC := Up.trans (by first | with_reducible assumption | exact UV.drewN _ | exact UV.drew | exact UA.drewN _ | exact UA.drew | exact UB.drewN _ | exact UB.drew) hC; have X1C := cell_up UC X1; have X2C := cell_up UC X2; have X3C := cell_up UC X3)
  | (go_at_call 91; (refine (CL.out _ (by first | with_reducible assumption | exact UV.drewN _ | exact UV.drew | exact UA.drewN _ | exact UA.drew | exact UB.drewN _ | exact UB.drew | exact UC.drewN _ | exact UC.drew) _ _ (by first | exact NC | exact NC.up ((Up.refl _).drewN _) | exact NC.up ((Up.refl _).drew))).mono ?_); rintro _ wD ⟨vD, rfl, ND, hD⟩; obtain ⟨AD, nD, cD, rfl, ND⟩ := ND.slq; have SZD : Hid (w.heap.size ≤ _) := Lib.hid (U.trans (show Up V _ from by first | with_reducible assumption | exact UC.drewN _ | exact UC.drew)).size; have UD : Up V wD := Up.trans (by first | with_reducible assumption | exact UV.drewN _ | exact UV.drew | exact UA.drewN _ | exact UA.drew | exact UB.drewN _ | exact UB.drew | exact UC.drewN _ | exact UC.drew) hD; have X1D := cell_up UD X1; have X2D := cell_up UD X2; have X3D := cell_up UD X3))
 go_wp2_with fail
 refine (CB.out _ _ _ _ (by first | exact ND | exact ND.up ((Up.refl _).drewN _) | exact ND.up ((Up.refl _).drew))).mono ?_
 rintro _ _ ⟨rfl, rfl⟩
 go_wp2_with fail
 refine (CS.out _ (by first | exact UD | exact UD.drew | exact UD.drewN _)).mono ?_
 rintro _ wE ⟨rfl, hE⟩
 have NE := ND.up (Up.trans (by first | exact Up.refl _ | exact (Up.refl _).drewN _ | exact (Up.refl _).drew) hE)
 have UE := Up.trans (show Up V _ from by first | exact UD | exact UD.drew | exact UD.drewN _) hE
 go_wp2_with fail
 go_ret2
 exact ⟨_, (by rw [← HR2.out]; rfl), (NE.more HB.out).lower SZD.out, by first | exact U.trans UE | exact (U.trans UE).drew | exact (U.trans UE).drewN _⟩
set_option maxRecDepth 100000 in
theorem qu_steps_no (w : World) {p i S Z : Nat} {f : M.Fm} (K : Hid (Qk i f S Z)) (v : Value) (Q : Qo w p i f v) (sg : Bool) (lo s : Nat) (XA : Option Addr) (xn xc a : Nat) (t fv : Int) (N : Nt w lo s (.slice XA xn xc) a) (hs : s ≤ 1000) (ht : -10000 ≤ t ∧ t ≤ 10000) (hn : t + (Z : Int) < 0 ∨ (0 ≤ t + (Z : Int) ∧ fv < 0)) : Calls Tryz.prog 55 #[ptr p, .agg #[.bool sg, .slice XA xn xc, .int .i64 t, .int .i64 fv]] w (fun e w' => e = .returned (.tuple #[.slice none 0 0, .bool false]) ∧ Up w w') := by
 obtain ⟨s1, _s2, zq1, zq2⟩ : (128 ≤ S ∧ S ≤ 1024) ∧ True ∧ 48 ≤ Z ∧ Z ≤ 496 := ⟨⟨K.out.s1, K.out.s2⟩, trivial, K.out.z1, K.out.z2⟩
 have CP := Lib.hid (fun W (u : Up w W) => qu_point W K v (Q.up u))
 obtain ⟨T2, hT2⟩ : ∃ T2, t + (Z : Int) = T2 := ⟨_, rfl⟩
 rw [hT2] at hn
 have q2 : IntKind.i64.wrap T2 = T2 := by unfold IntKind.wrap; simp [IntKind.min, IntKind.max, IntKind.signed, IntKind.bits]; omega
 have U := Up.refl w
 clear N hs
 rcases hn with hn | ⟨hn, hf⟩
 ·have d1 : decide (T2 < 0) = true := decide_eq_true hn
  clear hn ht
  go_enter Tryz.func55, Tryz.ntmps55
  go_upto_region 1 with fail
  obtain ⟨VX, hVX, X, uVX⟩ := Ob.nw w 34 #[.bool sg, .slice XA xn xc, .int .i64 t, .int .i64 fv]
  rw [hVX]
  replace U := U.trans uVX
  have sVX : VX.heap.size = w.heap.size + 1 := by rw [← hVX]; exact Array.size_push _
  clear hVX
  replace Q := Q.up uVX
  clear sVX uVX
  obtain ⟨V, hV⟩ : ∃ V, V = VX := ⟨_, rfl⟩
  subst hV
  have X1 := X.get 1
  have X2 := X.get 2
  have X3 := X.get 3
  simp only [M.z7, M.z8, M.z9] at X1 X2 X3
  have UV := Up.refl V
  replace CP := Lib.hid (fun W (u : Up V W) => CP.out W (U.trans u))
  clear Q X
  go_wp2_with fail
  go_region_held3 (fun w' => w'.cell? ⟨w.heap.size, 1, none⟩ = some (.slice XA xn xc) ∧ w'.cell? ⟨w.heap.size, 2, none⟩ = some (.int .i64 t) ∧ w'.cell? ⟨w.heap.size, 3, none⟩ = some (.int .i64 fv)) (go_keep) (first
   | (go_at_call 90; (refine (CP.out _ (by first | with_reducible assumption | exact UV.drewN _ | exact UV.drew)).mono ?_); rintro _ wA ⟨rfl, hA⟩; have UA : Up V wA := Up.trans (by first | with_reducible assumption | exact UV.drewN _ | exact UV.drew) hA; have X1A := cell_up UA X1; have X2A := cell_up UA X2; have X3A := cell_up UA X3))
  go_wp2_with fail
  go_ret2
  exact ⟨rfl, by first | exact U.trans UA | exact (U.trans UA).drew | exact (U.trans UA).drewN _⟩
 ·have d1 : decide (T2 < 0) = false := decide_eq_false (by omega)
  have d2 : decide (fv < 0) = true := decide_eq_true hf
  clear hn hf ht
  go_enter Tryz.func55, Tryz.ntmps55
  go_upto_region 1 with fail
  obtain ⟨VX, hVX, X, uVX⟩ := Ob.nw w 34 #[.bool sg, .slice XA xn xc, .int .i64 t, .int .i64 fv]
  rw [hVX]
  replace U := U.trans uVX
  have sVX : VX.heap.size = w.heap.size + 1 := by rw [← hVX]; exact Array.size_push _
  clear hVX
  replace Q := Q.up uVX
  clear sVX uVX
  obtain ⟨V, hV⟩ : ∃ V, V = VX := ⟨_, rfl⟩
  subst hV
  have X1 := X.get 1
  have X2 := X.get 2
  have X3 := X.get 3
  simp only [M.z7, M.z8, M.z9] at X1 X2 X3
  have UV := Up.refl V
  replace CP := Lib.hid (fun W (u : Up V W) => CP.out W (U.trans u))
  clear Q X
  go_wp2_with fail
  go_region_held3 (fun w' => w'.cell? ⟨w.heap.size, 1, none⟩ = some (.slice XA xn xc) ∧ w'.cell? ⟨w.heap.size, 2, none⟩ = some (.int .i64 t) ∧ w'.cell? ⟨w.heap.size, 3, none⟩ = some (.int .i64 fv)) (go_keep) (first
   | (go_at_call 90; (refine (CP.out _ (by first | with_reducible assumption | exact UV.drewN _ | exact UV.drew)).mono ?_); rintro _ wA ⟨rfl, hA⟩; have UA : Up V wA := Up.trans (by first | with_reducible assumption | exact UV.drewN _ | exact UV.drew) hA; have X1A := cell_up UA X1; have X2A := cell_up UA X2; have X3A := cell_up UA X3))
  go_wp2_with fail
  go_ret2
  exact ⟨rfl, by first | exact U.trans UA | exact (U.trans UA).drew | exact (U.trans UA).drewN _⟩
end Go.Proofs.YtijpffgocookaaaGreatDoor
