import Derived.Test.YtcmlanfgafancaaGreatDoorQDKa
import Derived.Deep.RegionHeld3
import Derived.Deep.DrawnRows
import Derived.OwnWalk
import Derived.WalkLawsBesides
set_option maxHeartbeats 32000000
set_option linter.unusedVariables false
set_option linter.unusedSimpArgs false
namespace Go.Proofs.YtcmlanfgafancaaGreatDoor
open Go.RowKit
namespace M
theorem dgs_red {a s a' T F : Nat} {t f t' f' K : Int} (h : Rdx a t f s a' t' f') (h0 : 0 < a) (lt : -5000 ≤ t) (lf : -5000 ≤ f) (hK : min t' f' = K) (hT : (T : Int) = t' - K) (hF : (F : Int) = f' - K) :
  (a' * 2 ^ T * 5 ^ F) % 10 ≠ 0 ∧ sz (a' * 2 ^ T * 5 ^ F) K K = sz a t f ∧ -5000 ≤ K := by
 obtain ⟨k2, k5, e, o2, o5, rfl, rfl, _, _⟩ := h.pos h0
 have lK : -5000 ≤ K := by omega
 refine ⟨?_, ?_, lK⟩
 ·rcases (show T = 0 ∨ F = 0 by omega) with rfl | rfl
  ·rw [Nat.pow_zero, Nat.mul_one]
   have h2 : ∀ n : Nat, (a' * 5 ^ n) % 2 = 1 := by
    intro n
    induction n with
    | zero => simp; omega
    | succ n ih => rw [Nat.pow_succ, ← Nat.mul_assoc]; omega
   have := h2 F
   omega
  ·rw [Nat.pow_zero, Nat.mul_one]
   have h5 : ∀ n : Nat, (a' * 2 ^ n) % 5 ≠ 0 := by
    intro n
    induction n with
    | zero => simpa using o5
    | succ n ih => rw [Nat.pow_succ, ← Nat.mul_assoc]; omega
   have := h5 T
   omega
 ·subst e
  unfold sz ov
  rw [bse_eq]
  obtain ⟨p, hp⟩ : ∃ p : Nat, (K - -5000).toNat = p := ⟨_, rfl⟩
  obtain ⟨q, hq⟩ : ∃ q : Nat, (t - -5000).toNat = q := ⟨_, rfl⟩
  obtain ⟨r, hr⟩ : ∃ r : Nat, (f - -5000).toNat = r := ⟨_, rfl⟩
  rw [hp, hq, hr]
  have e1 : F + p = k5 + r := by omega
  have e2 : T + p = k2 + q := by omega
  have f1 : (5 : Nat) ^ F * 5 ^ p = 5 ^ k5 * 5 ^ r := by rw [← Nat.pow_add, ← Nat.pow_add, e1]
  have f2 : (2 : Nat) ^ T * 2 ^ p = 2 ^ k2 * 2 ^ q := by rw [← Nat.pow_add, ← Nat.pow_add, e2]
  have g1 : a' * 2 ^ T * 5 ^ F * 5 ^ p * 2 ^ p = a' * (5 ^ F * 5 ^ p) * (2 ^ T * 2 ^ p) := by ac_rfl
  have g2 : a' * 5 ^ k5 * 2 ^ k2 * 5 ^ r * 2 ^ q = a' * (5 ^ k5 * 5 ^ r) * (2 ^ k2 * 2 ^ q) := by ac_rfl
  rw [g1, g2, f1, f2]
end M
def Dx (ng : Bool) (D : Nat) (K : Int) (w : World) (e : Ending) (w' : World) : Prop := ∃ v, e = .returned (.agg #[.bool ng, v, .int .i64 K]) ∧ Nt w' w.heap.size 128 v D ∧ Up w w'
def Dxx (ng : Bool) (D : Nat) (K x : Int) (w : World) (e : Ending) (w' : World) : Prop := ∃ v, e = .returned (.tuple #[.agg #[.bool ng, v, .int .i64 K], .int .i64 x]) ∧ Nt w' w.heap.size 128 v D ∧ Up w w'
def Xrx (ng : Bool) (a : Nat) (t x : Int) (w : World) (e : Ending) (w' : World) : Prop := ∃ A n c, e = .returned (.tuple #[xv ng (.slice A n c) t 0, .int .i64 x]) ∧ Nt w' w.heap.size 1 (.slice A n c) a ∧ Up w w'
theorem Nt.sl {w : World} {lo s : Nat} {v : Value} {a : Nat} (h : Nt w lo s v a) : ∃ A n c, v = .slice A n c ∧ Nt w lo s (.slice A n c) a := by
 obtain ⟨A, n, c, xs, rfl, h⟩ := h
 exact ⟨A, n, c, rfl, A, n, c, xs, rfl, h⟩
set_option maxRecDepth 100000 in
theorem digitsof_any (w : World) (lo : Nat) (ng : Bool) (A : Option Addr) (n c : Nat) (t f : Int) (a : Nat) (h : Nt w lo 2 (.slice A n c) a) (h0 : 0 < a) (bt : -4900 ≤ t ∧ t ≤ 4900) (bf : -4900 ≤ f ∧ f ≤ 4900) (btf : t - f ≤ 4000 ∧ f - t ≤ 4000) (D : Nat) (K : Int) (hd : Hid (M.Dgs (M.sz a t f) D K)) : Calls Tryz.prog 42 #[xv ng (.slice A n c) t f] w (Dx ng D K w) := by
 have CR := Lib.hid (fun W (U : Up w W) => reduced_any W lo 2 ng (.slice A n c) t f a (h.nw.up U) (by omega) (by omega) (by omega))
 clear h
 have U := Up.refl w
 go_enter Tryz.func42, Tryz.ntmps42
 go_wp2_with fail
 obtain ⟨V1, hV1⟩ : ∃ V1, w.alloc (.cells #[.bool ng, .slice A n c, .int .i64 t, .int .i64 f] 84) = V1 := ⟨_, rfl⟩
 have X : Ob V1 (w.heap.size) 84 #[.bool ng, .slice A n c, .int .i64 t, .int .i64 f] := by rw [← hV1]; exact Ob.mk_ _ _ _
 have sV1 : V1.heap.size = w.heap.size + 1 := by rw [← hV1]; exact (Array.size_push _)
 have uV1 : Up w V1 := Up.al hV1
 have ltX : w.heap.size ≤ w.heap.size := by have := U.size; omega
 rw [hV1]
 clear hV1
 replace U := U.trans uV1
 clear uV1
 obtain ⟨V2, hV2⟩ : ∃ V2, V1.alloc (.cells #[.bool false, .slice none 0 0, .int .i64 0] 44) = V2 := ⟨_, rfl⟩
 have R : Ob V2 (w.heap.size + 1) 44 #[.bool false, .slice none 0 0, .int .i64 0] := by rw [← sV1, ← hV2]; exact Ob.mk_ _ _ _
 have sV2 : V2.heap.size = w.heap.size + 1 + 1 := by rw [← hV2]; exact (Array.size_push _).trans (congrArg (· + 1) sV1)
 have uV2 : Up V1 V2 := Up.al hV2
 have ltR : w.heap.size ≤ w.heap.size + 1 := Nat.le_succ_of_le ltX
 rw [hV2]
 clear hV2
 replace X := X.up uV2
 replace U := U.trans uV2
 clear uV2
 clear sV2 sV1
 have glX := X.lt
 have glR := R.lt
 obtain ⟨X0, X1, X2, X3, Xf0, Xf1, Xf2, Xf3, Xl⟩ := X.c4
 go_wp2_with fail
 clear X0 Xf0 X1 Xf1 X2 Xf2 X3 Xf3 Xl
 refine (CR.out _ U).mono ?_
 rintro _ w3 ⟨vr, a1, t1, f1, rfl, nr, h3, RD⟩
 replace U := U.trans h3
 replace X := X.up h3
 replace R := R.up h3
 clear h3
 clear CR
 obtain ⟨Ar, nr0, cr, rfl, nr⟩ := nr.sl
 obtain ⟨K1, hK1⟩ : ∃ K1, min t1 f1 = K1 := ⟨_, rfl⟩
 have kk := RD.pos h0
 obtain ⟨T, hT⟩ : ∃ T : Nat, (T : Int) = t1 - K1 := ⟨(t1 - K1).toNat, by omega⟩
 obtain ⟨F, hF⟩ : ∃ F : Nat, (F : Int) = f1 - K1 := ⟨(f1 - K1).toNat, by omega⟩
 have rng : T ≤ 10000 ∧ F ≤ 10000 ∧ -10000 ≤ t1 ∧ t1 ≤ 10000 ∧ -10000 ≤ f1 ∧ f1 ≤ 10000 ∧ -10000 ≤ K1 ∧ K1 ≤ 10000 := by
  obtain ⟨k2, k5, _, _, _, rfl, rfl, b1, b2⟩ := kk
  omega
 obtain ⟨q1, q2, q3⟩ := M.dgs_red RD h0 (by omega) (by omega) hK1 hT hF
 obtain ⟨e1, e2⟩ := M.ten_uniq (by omega) (by have := hd.out.lo; omega) q1 hd.out.ten (q2.trans hd.out.eq.symm)
 have fit := Lib.hid hd.out.fit
 have wT : IntKind.i64.wrap (t1 - K1) = t1 - K1 := by simp [IntKind.wrap, IntKind.bits, IntKind.signed]; omega
 have wF : IntKind.i64.wrap (f1 - K1) = f1 - K1 := by simp [IntKind.wrap, IntKind.bits, IntKind.signed]; omega
 have ES := Lib.hid e1
 have e2' := Lib.hid e2
 have TM := Lib.hid (show max 0 (min (t1 - K1) 131072) = (T : Int) by omega)
 have FM := Lib.hid (show max 0 (min (f1 - K1) 10000) = (F : Int) by omega)
 have bT : T ≤ 10000 := rng.1
 have bF : F ≤ 10000 := rng.2.1
 clear rng q1 q2 q3 hd RD kk e1 e2 bt bf btf h0 hT hF
 go_upto_region 2 with (refine store_ob2 rfl 84 (.tmp 1) (.tmp 6) rfl _ #[.bool ng, .slice A n c, .int .i64 t, .int .i64 f] #[.bool ng, .slice Ar nr0 cr, .int .i64 t1, .int .i64 f1] rfl rfl 4 (by kernel_rfl) rfl rfl (by simp [Value.oneCell']) w U ltX 84 X ?_; clear U; intro V9 Z9 U ho; replace nr := Nt.other nr ho (by omega); replace R := Ob.oth R ho (by omega); clear ho X; have X := Z9; clear Z9)
 obtain ⟨X0, X1, X2, X3, Xf0, Xf1, Xf2, Xf3, Xl⟩ := X.c4
 go_upto_region 3 with fail
 clear hK1
 obtain ⟨W, hW⟩ : ∃ W, V9 = W := ⟨_, rfl⟩
 subst hW
 have CS := Lib.hid (fun W (u : Up V9 W) => shl_any W _ _ _ _ (nr.nw.up u) (by omega) (t1 - K1) T TM.out)
 have CP : Hid (∀ W : World, Calls Tryz.prog 86 #[.int .u64 5, .int .i64 (f1 - K1)] W (Res (F + 1) (5 ^ F) W)) := Lib.hid (fun W => pow_any W 5 F (f1 - K1) (by omega) FM.out)
 go_region_held3 (fun w' => w'.cell? ⟨w.heap.size, 0, none⟩ = some (.bool ng) ∧ w'.cell? ⟨w.heap.size, 1, none⟩ = some (.slice Ar nr0 cr) ∧ w'.cell? ⟨w.heap.size, 2, none⟩ = some (.int .i64 t1) ∧ w'.cell? ⟨w.heap.size, 3, none⟩ = some (.int .i64 f1)) (go_keep) (first
  | (go_at_call 85; (with_reducible refine (CS.out _ ?_).mono ?_); (first | with_reducible assumption | exact (Up.refl _).drewN 1); rintro _ wA ⟨vA, rfl, nA, hua⟩; have uA : Up V9 wA := Up.trans (by first | with_reducible assumption | exact (Up.refl V9).drewN 1) hua; have A0 := cell_up uA X0; have A1 := cell_up uA X1; have A2 := cell_up uA X2; have A3 := cell_up uA X3)
  | (go_at_call 86; (with_reducible refine (CP.out _).mono ?_); rintro _ wB ⟨vB, rfl, nB, hub⟩; have uB : Up V9 wB := Up.trans uA hub; have B0 := cell_up uB X0; have B1 := cell_up uB X1; have B2 := cell_up uB X2; have B3 := cell_up uB X3)
  | (go_at_call 84; (with_reducible refine (mul_any _ _ _ _ _ _ _ _ _ (nA.nw.up hub) nB.nw (by omega) (by omega)).mono ?_); rintro _ wC ⟨vC, rfl, nC, huc⟩; have uC : Up V9 wC := Up.trans uB huc; have C0 := cell_up uC X0; have C1 := cell_up uC X1; have C2 := cell_up uC X2; have C3 := cell_up uC X3))
 obtain ⟨AC, nC0, cC, rfl, nC⟩ := nC.sl
 rw [ES.out] at nC
 have lC : w.heap.size + 1 < wB.heap.size := Nat.lt_of_lt_of_le R.lt (Up.size uB)
 replace nC := nC.fit fit.out
 clear A0 A1 A2 A3 B0 B1 B2 B3 CS CP nA nB hua hub uA uB huc nr X0 X1 X2 X3 Xf0 Xf1 Xf2 Xf3 Xl
 replace U := U.trans uC
 replace R := R.up uC
 go_wp2_with (refine store_ob2 rfl 44 (.tmp 2) (.tmp 29) rfl _ #[.bool false, .slice none 0 0, .int .i64 0] #[.bool ng, .slice AC nC0 cC, .int .i64 K1] rfl rfl 3 (by kernel_rfl) rfl rfl (by simp [Value.oneCell']) w U ltR 44 R ?_; clear U; intro V9 Z9 U ho; replace nC := Nt.other nC ho (by omega); clear ho R; have R := Z9; clear Z9)
 have e2 := e2'.out
 subst e2
 obtain ⟨R0, R1, R2⟩ := R.g3
 refine bodyPost_ret (v := .agg #[.bool ng, .slice AC nC0 cC, .int .i64 K1]) (by simp [results, Tryz.results42, go_sem, R0, R1, R2]) rfl ?_
 exact ⟨_, rfl, nC.lower (by omega), U⟩
set_option maxRecDepth 100000 in
theorem number_err (w : World) (TT : Hid (Tz w)) (TF : Hid (TabF w)) (ii : Int) (p : Nat) (pb : p < 18446744073709551616) (x : Int) (h : M.Er ii p x) : Calls Tryz.prog 40 #[.int .i64 ii, u64 p] w (Xrx false 0 0 x w) := by
 obtain ⟨c, gg, m, z, x1, hd, h⟩ := h
 have CD := Lib.hid (fun W (T : Tz W) (F : TabF W) => vdecode_any W (Lib.hid T) (Lib.hid F) ii p pb c gg m z x1 hd)
 clear hd pb
 rcases h with ⟨h1, rfl⟩ | ⟨rfl, h2, rfl⟩
 ·
  have d1 : (x != 0) = true := by simpa using h1
  clear h1
  have U := Up.refl w
  go_enter Tryz.func40, Tryz.ntmps40
  go_wp2_with fail
  obtain ⟨V1, hV1⟩ : ∃ V1, w.alloc (.cells #[.bool false, .slice none 0 0, .int .i64 0, .int .i64 0] 84) = V1 := ⟨_, rfl⟩
  have R : Ob V1 (w.heap.size) 84 #[.bool false, .slice none 0 0, .int .i64 0, .int .i64 0] := by rw [← hV1]; exact Ob.mk_ _ _ _
  have sV1 : V1.heap.size = w.heap.size + 1 := by rw [← hV1]; exact (Array.size_push _)
  have uV1 : Up w V1 := Up.al hV1
  have ltR : w.heap.size ≤ w.heap.size := by have := U.size; omega
  rw [hV1]
  clear hV1
  replace U := U.trans uV1
  clear uV1
  clear sV1
  have glR := R.lt
  refine (CD.out _ (TT.out.up U) (TF.out.up U)).mono ?_
  rintro _ w2 ⟨rfl, h2⟩
  replace U := U.trans h2
  replace R := R.up h2
  clear h2
  clear CD
  go_upto_region 3 with fail
  have gBR := R.lt
  obtain ⟨V3, hV3⟩ : ∃ V3, w2.alloc (.cells #[.int .i64 c, .bool gg, u64 m, .int .i64 z] 38) = V3 := ⟨_, rfl⟩
  have B : Ob V3 (w2.heap.size) 38 #[.int .i64 c, .bool gg, u64 m, .int .i64 z] := by rw [← hV3]; exact Ob.mk_ _ _ _
  have sV3 : V3.heap.size = w2.heap.size + 1 := by rw [← hV3]; exact (Array.size_push _)
  have uV3 : Up w2 V3 := Up.al hV3
  have ltB : w.heap.size ≤ w2.heap.size := by have := U.size; omega
  rw [hV3]
  clear hV3
  replace U := U.trans uV3
  replace R := R.up uV3
  clear uV3
  clear sV3
  have glB := B.lt
  go_wp2_with (refine store_ob2 rfl 84 (.tmp 4) (.tmp 18) rfl _ #[.bool false, .slice none 0 0, .int .i64 0, .int .i64 0] #[.bool false, .slice none 0 0, .int .i64 0, .int .i64 0] rfl rfl 4 (by kernel_rfl) rfl rfl (by simp [Value.oneCell']) w U ltR 84 R ?_; clear U; intro V9 Z9 U ho; clear ho R; have R := Z9; clear Z9)
  obtain ⟨R0, R1, R2, R3⟩ := R.g4
  refine bodyPost_ret (v := .tuple #[xv false (.slice none 0 0) 0 0, .int .i64 x]) (by simp [results, Tryz.results40, go_sem, R0, R1, R2, R3]) rfl ?_
  exact ⟨_, _, _, rfl, Nt.nil _ _ _, U⟩
 ·
  have d1 : (c != 2) = true := by simpa using h2
  clear h2
  have U := Up.refl w
  go_enter Tryz.func40, Tryz.ntmps40
  go_wp2_with fail
  obtain ⟨V1, hV1⟩ : ∃ V1, w.alloc (.cells #[.bool false, .slice none 0 0, .int .i64 0, .int .i64 0] 84) = V1 := ⟨_, rfl⟩
  have R : Ob V1 (w.heap.size) 84 #[.bool false, .slice none 0 0, .int .i64 0, .int .i64 0] := by rw [← hV1]; exact Ob.mk_ _ _ _
  have sV1 : V1.heap.size = w.heap.size + 1 := by rw [← hV1]; exact (Array.size_push _)
  have uV1 : Up w V1 := Up.al hV1
  have ltR : w.heap.size ≤ w.heap.size := by have := U.size; omega
  rw [hV1]
  clear hV1
  replace U := U.trans uV1
  clear uV1
  clear sV1
  have glR := R.lt
  refine (CD.out _ (TT.out.up U) (TF.out.up U)).mono ?_
  rintro _ w2 ⟨rfl, h2⟩
  replace U := U.trans h2
  replace R := R.up h2
  clear h2
  clear CD
  go_upto_region 4 with fail
  have gBR := R.lt
  obtain ⟨V3, hV3⟩ : ∃ V3, w2.alloc (.cells #[.int .i64 c, .bool gg, u64 m, .int .i64 z] 38) = V3 := ⟨_, rfl⟩
  have B : Ob V3 (w2.heap.size) 38 #[.int .i64 c, .bool gg, u64 m, .int .i64 z] := by rw [← hV3]; exact Ob.mk_ _ _ _
  have sV3 : V3.heap.size = w2.heap.size + 1 := by rw [← hV3]; exact (Array.size_push _)
  have uV3 : Up w2 V3 := Up.al hV3
  have ltB : w.heap.size ≤ w2.heap.size := by have := U.size; omega
  rw [hV3]
  clear hV3
  replace U := U.trans uV3
  replace R := R.up uV3
  clear uV3
  clear sV3
  have glB := B.lt
  obtain ⟨B0, B1, B2, B3, Bf0, Bf1, Bf2, Bf3, Bl⟩ := B.c4
  go_upto_region 5 with fail
  go_wp2_with (refine store_ob2 rfl 84 (.tmp 4) (.tmp 23) rfl _ #[.bool false, .slice none 0 0, .int .i64 0, .int .i64 0] #[.bool false, .slice none 0 0, .int .i64 0, .int .i64 0] rfl rfl 4 (by kernel_rfl) rfl rfl (by simp [Value.oneCell']) w U ltR 84 R ?_; clear U; intro V9 Z9 U ho; clear ho R; have R := Z9; clear Z9)
  obtain ⟨R0, R1, R2, R3⟩ := R.g4
  refine bodyPost_ret (v := .tuple #[xv false (.slice none 0 0) 0 0, .int .i64 5]) (by simp [results, Tryz.results40, go_sem, R0, R1, R2, R3]) rfl ?_
  exact ⟨_, _, _, rfl, Nt.nil _ _ _, U⟩
set_option maxRecDepth 100000 in
theorem number_ok (w : World) (TT : Hid (Tz w)) (TF : Hid (TabF w)) (i : Nat) (i1 : 1 ≤ i) (i2 : i ≤ 14) (p : Nat) (pb : p < 18446744073709551616) (hp : (p : Int) ≤ M.msk (M.tb i)) (gg : Bool) (m : Nat) (z : Int) (hd : M.Dv (M.tb i) p 2 gg m z) : Calls Tryz.prog 40 #[.int .i64 (i : Int), u64 p] w (Xrx gg m z 0 w) := by
 obtain ⟨m0, mb, zb⟩ := M.pt_rng (M.ok i i1 i2) (M.ok2 i i1 i2) (M.ok3 i i1 i2) hp hd
 have CD := Lib.hid (fun W (T : Tz W) (F : TabF W) => vdecode_any W (Lib.hid T) (Lib.hid F) (i : Int) p pb 2 gg m z 0 (.inr ⟨i, rfl, i1, i2, .inr ⟨hp, hd, rfl⟩⟩))
 have CX := Lib.hid (fun W => xof_fin W gg m z mb (M.pw_of zb))
 clear hd pb hp i1 i2 zb mb m0
 have U := Up.refl w
 go_enter Tryz.func40, Tryz.ntmps40
 go_wp2_with fail
 obtain ⟨V1, hV1⟩ : ∃ V1, w.alloc (.cells #[.bool false, .slice none 0 0, .int .i64 0, .int .i64 0] 84) = V1 := ⟨_, rfl⟩
 have R : Ob V1 (w.heap.size) 84 #[.bool false, .slice none 0 0, .int .i64 0, .int .i64 0] := by rw [← hV1]; exact Ob.mk_ _ _ _
 have sV1 : V1.heap.size = w.heap.size + 1 := by rw [← hV1]; exact (Array.size_push _)
 have uV1 : Up w V1 := Up.al hV1
 have ltR : w.heap.size ≤ w.heap.size := by have := U.size; omega
 rw [hV1]
 clear hV1
 replace U := U.trans uV1
 clear uV1
 clear sV1
 have glR := R.lt
 refine (CD.out _ (TT.out.up U) (TF.out.up U)).mono ?_
 rintro _ w2 ⟨rfl, h2⟩
 replace U := U.trans h2
 replace R := R.up h2
 clear h2
 clear CD
 go_upto_region 4 with fail
 have gBR := R.lt
 obtain ⟨V3, hV3⟩ : ∃ V3, w2.alloc (.cells #[.int .i64 2, .bool gg, u64 m, .int .i64 z] 38) = V3 := ⟨_, rfl⟩
 have B : Ob V3 (w2.heap.size) 38 #[.int .i64 2, .bool gg, u64 m, .int .i64 z] := by rw [← hV3]; exact Ob.mk_ _ _ _
 have sV3 : V3.heap.size = w2.heap.size + 1 := by rw [← hV3]; exact (Array.size_push _)
 have uV3 : Up w2 V3 := Up.al hV3
 have ltB : w.heap.size ≤ w2.heap.size := by have := U.size; omega
 rw [hV3]
 clear hV3
 replace U := U.trans uV3
 replace R := R.up uV3
 clear uV3
 clear sV3
 have glB := B.lt
 obtain ⟨B0, B1, B2, B3, Bf0, Bf1, Bf2, Bf3, Bl⟩ := B.c4
 go_wp2_with fail
 clear B0 Bf0 B1 Bf1 B2 Bf2 B3 Bf3 Bl
 refine (CX.out _).mono ?_
 rintro _ w4 ⟨v, rfl, N, h4⟩
 replace U := U.trans h4
 replace R := R.up h4
 replace B := B.up h4
 clear h4
 clear CX
 obtain ⟨A, n, c, rfl, N⟩ := N.sl
 go_upto_region 7 with fail
 have gCR := R.lt
 have gCB := B.lt
 obtain ⟨V5, hV5⟩ : ∃ V5, w4.alloc (.cells #[.bool gg, .slice A n c, .int .i64 z, .int .i64 0] 84) = V5 := ⟨_, rfl⟩
 have C : Ob V5 (w4.heap.size) 84 #[.bool gg, .slice A n c, .int .i64 z, .int .i64 0] := by rw [← hV5]; exact Ob.mk_ _ _ _
 have sV5 : V5.heap.size = w4.heap.size + 1 := by rw [← hV5]; exact (Array.size_push _)
 have uV5 : Up w4 V5 := Up.al hV5
 have ltC : w.heap.size ≤ w4.heap.size := by have := U.size; omega
 rw [hV5]
 clear hV5
 replace U := U.trans uV5
 replace R := R.up uV5
 replace B := B.up uV5
 replace N := N.up uV5
 clear uV5
 clear sV5
 have glC := C.lt
 obtain ⟨C0, C1, C2, C3, Cf0, Cf1, Cf2, Cf3, Cl⟩ := C.c4
 go_wp2_with (refine store_ob2 rfl 84 (.tmp 4) (.tmp 29) rfl _ #[.bool false, .slice none 0 0, .int .i64 0, .int .i64 0] #[.bool gg, .slice A n c, .int .i64 z, .int .i64 0] rfl rfl 4 (by kernel_rfl) rfl rfl (by simp [Value.oneCell']) w U ltR 84 R ?_; clear U; intro V9 Z9 U ho; replace N := Nt.other N ho (by omega); clear ho R; have R := Z9; clear Z9)
 obtain ⟨R0, R1, R2, R3⟩ := R.g4
 refine bodyPost_ret (v := .tuple #[xv gg (.slice A n c) z 0, .int .i64 0]) (by simp [results, Tryz.results40, go_sem, R0, R1, R2, R3]) rfl ?_
 exact ⟨_, _, _, rfl, N.lower (by omega), U⟩
set_option maxRecDepth 100000 in
theorem full_any (w : World) (TT : Hid (Tz w)) (TF : Hid (TabF w)) (ii : Int) (p : Nat) (pb : p < 18446744073709551616) (gg : Bool) (D : Nat) (K x : Int) (h : M.Uc ii p gg D K x) : Calls Tryz.prog 26 #[.int .i64 ii, u64 p] w (Dxx gg D K x w) := by
 rcases h with ⟨x0, he, rfl, rfl, rfl⟩ | ⟨rfl, i, rfl, i1, i2, hp, m, z, hd, hg⟩
 ·
  have d1 : (x != 0) = true := by simpa using x0
  have CN := Lib.hid (fun W (T : Tz W) (F : TabF W) => number_err W (Lib.hid T) (Lib.hid F) ii p pb x he)
  clear he pb x0
  have U := Up.refl w
  go_enter Tryz.func26, Tryz.ntmps26
  go_wp2_with fail
  obtain ⟨V1, hV1⟩ : ∃ V1, w.alloc (.cells #[.bool false, .slice none 0 0, .int .i64 0] 44) = V1 := ⟨_, rfl⟩
  have R : Ob V1 (w.heap.size) 44 #[.bool false, .slice none 0 0, .int .i64 0] := by rw [← hV1]; exact Ob.mk_ _ _ _
  have sV1 : V1.heap.size = w.heap.size + 1 := by rw [← hV1]; exact (Array.size_push _)
  have uV1 : Up w V1 := Up.al hV1
  have ltR : w.heap.size ≤ w.heap.size := by have := U.size; omega
  rw [hV1]
  clear hV1
  replace U := U.trans uV1
  clear uV1
  clear sV1
  have glR := R.lt
  refine (CN.out _ (TT.out.up U) (TF.out.up U)).mono ?_
  rintro _ w2 ⟨A, n, c, rfl, N, h2⟩
  replace U := U.trans h2
  replace R := R.up h2
  clear h2
  clear CN N
  go_upto_region 3 with fail
  have gBR := R.lt
  obtain ⟨V3, hV3⟩ : ∃ V3, w2.alloc (.cells #[.bool false, .slice A n c, .int .i64 0, .int .i64 0] 84) = V3 := ⟨_, rfl⟩
  have B : Ob V3 (w2.heap.size) 84 #[.bool false, .slice A n c, .int .i64 0, .int .i64 0] := by rw [← hV3]; exact Ob.mk_ _ _ _
  have sV3 : V3.heap.size = w2.heap.size + 1 := by rw [← hV3]; exact (Array.size_push _)
  have uV3 : Up w2 V3 := Up.al hV3
  have ltB : w.heap.size ≤ w2.heap.size := by have := U.size; omega
  rw [hV3]
  clear hV3
  replace U := U.trans uV3
  replace R := R.up uV3
  clear uV3
  clear sV3
  have glB := B.lt
  go_wp2_with (refine store_ob2 rfl 44 (.tmp 4) (.tmp 16) rfl _ #[.bool false, .slice none 0 0, .int .i64 0] #[.bool false, .slice none 0 0, .int .i64 0] rfl rfl 3 (by kernel_rfl) rfl rfl (by simp [Value.oneCell']) w U ltR 44 R ?_; clear U; intro V9 Z9 U ho; clear ho R; have R := Z9; clear Z9)
  obtain ⟨R0, R1, R2⟩ := R.g3
  refine bodyPost_ret (v := .tuple #[.agg #[.bool false, .slice none 0 0, .int .i64 0], .int .i64 x]) (by simp [results, Tryz.results26, go_sem, R0, R1, R2]) rfl ?_
  exact ⟨_, rfl, Nt.nil _ _ _, U⟩
 ·
  obtain ⟨m0, mb, zb⟩ := M.pt_rng (M.ok i i1 i2) (M.ok2 i i1 i2) (M.ok3 i i1 i2) hp hd
  have CN := Lib.hid (fun W (T : Tz W) (F : TabF W) => number_ok W (Lib.hid T) (Lib.hid F) i i1 i2 p pb hp gg m z hd)
  have CG := Lib.hid (fun W (lo : Nat) (A : Option Addr) (n c : Nat) (N : Nt W lo 1 (.slice A n c) m) => digitsof_any W lo gg A n c z 0 m (N.more (by omega)) (by omega) (by omega) (by omega) (by omega) D K (Lib.hid hg))
  clear hd pb hp i1 i2 zb mb m0 hg
  have U := Up.refl w
  go_enter Tryz.func26, Tryz.ntmps26
  go_wp2_with fail
  obtain ⟨V1, hV1⟩ : ∃ V1, w.alloc (.cells #[.bool false, .slice none 0 0, .int .i64 0] 44) = V1 := ⟨_, rfl⟩
  have R : Ob V1 (w.heap.size) 44 #[.bool false, .slice none 0 0, .int .i64 0] := by rw [← hV1]; exact Ob.mk_ _ _ _
  have sV1 : V1.heap.size = w.heap.size + 1 := by rw [← hV1]; exact (Array.size_push _)
  have uV1 : Up w V1 := Up.al hV1
  have ltR : w.heap.size ≤ w.heap.size := by have := U.size; omega
  rw [hV1]
  clear hV1
  replace U := U.trans uV1
  clear uV1
  clear sV1
  have glR := R.lt
  refine (CN.out _ (TT.out.up U) (TF.out.up U)).mono ?_
  rintro _ w2 ⟨A, n, c, rfl, N, h2⟩
  replace U := U.trans h2
  replace R := R.up h2
  clear h2
  clear CN
  go_upto_region 4 with fail
  have gBR := R.lt
  obtain ⟨V3, hV3⟩ : ∃ V3, w2.alloc (.cells #[.bool gg, .slice A n c, .int .i64 z, .int .i64 0] 84) = V3 := ⟨_, rfl⟩
  have B : Ob V3 (w2.heap.size) 84 #[.bool gg, .slice A n c, .int .i64 z, .int .i64 0] := by rw [← hV3]; exact Ob.mk_ _ _ _
  have sV3 : V3.heap.size = w2.heap.size + 1 := by rw [← hV3]; exact (Array.size_push _)
  have uV3 : Up w2 V3 := Up.al hV3
  have ltB : w.heap.size ≤ w2.heap.size := by have := U.size; omega
  rw [hV3]
  clear hV3
  replace U := U.trans uV3
  replace R := R.up uV3
  replace N := N.up uV3
  clear uV3
  clear sV3
  have glB := B.lt
  obtain ⟨B0, B1, B2, B3, Bf0, Bf1, Bf2, Bf3, Bl⟩ := B.c4
  go_wp2_with fail
  clear B0 Bf0 B1 Bf1 B2 Bf2 B3 Bf3 Bl
  refine (CG.out _ _ _ _ _ N).mono ?_
  rintro _ w4 ⟨v, rfl, ND, h4⟩
  replace U := U.trans h4
  replace R := R.up h4
  replace B := B.up h4
  replace N := N.up h4
  clear h4
  clear CG N
  obtain ⟨AD, nD, cD, rfl, ND⟩ := ND.sl
  have lD := R.lt
  go_wp2_with (refine store_ob2 rfl 44 (.tmp 4) (.tmp 19) rfl _ #[.bool false, .slice none 0 0, .int .i64 0] #[.bool gg, .slice AD nD cD, .int .i64 K] rfl rfl 3 (by kernel_rfl) rfl rfl (by simp [Value.oneCell']) w U ltR 44 R ?_; clear U; intro V9 Z9 U ho; replace ND := Nt.other ND ho (by omega); replace B := Ob.oth B ho (by omega); clear ho R; have R := Z9; clear Z9)
  obtain ⟨R0, R1, R2⟩ := R.g3
  refine bodyPost_ret (v := .tuple #[.agg #[.bool gg, .slice AD nD cD, .int .i64 K], .int .i64 0]) (by simp [results, Tryz.results26, go_sem, R0, R1, R2]) rfl ?_
  exact ⟨_, rfl, ND.lower (by omega), U⟩
end Go.Proofs.YtcmlanfgafancaaGreatDoor
