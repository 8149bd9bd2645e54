import Derived.Test.YtcmlanfgafancaaGreatDoorQDJn
import Derived.Test.YtcmlanfgafancaaGreatDoorQDSva
set_option maxHeartbeats 32000000
set_option linter.unusedVariables false
set_option linter.unusedSimpArgs false
namespace Go.Proofs.YtcmlanfgafancaaGreatDoor
open Go.RowKit Go.Shelf
structure Lp (W : World) : Prop where
 ten : TabW W
 er : ErrW W
 low : Tz W
 form : TabF W
theorem Lp.up {w w' : World} (h : Lp w) (U : Up w w') : Lp w' := ⟨h.ten.up U, h.er.up U, h.low.up U, h.form.up U⟩
def Pnf (er n : Int) (w : World) (e : Ending) (w' : World) : Prop := e = .panicked [{ v := .iface 59 (.agg #[.int .i64 er, .int .i64 n]), recovered := false }] ∧ Up w w'
theorem must_ok (w : World) (n : Int) : Calls Tryz.prog 63 #[.int .i64 0, .int .i64 n] w (fun e w' => e = .returned (.tuple #[]) ∧ w = w') := by
 go_enter Tryz.func63, Tryz.ntmps63
 go_wp2_with fail
 go_end0
 exact ⟨rfl, rfl⟩
theorem must_bad (w : World) (er n : Int) (h : er ≠ 0) : Calls Tryz.prog 63 #[.int .i64 er, .int .i64 n] w (Pnf er n w) := by
 have d : (er != 0) = true := by simpa using h
 go_enter Tryz.func63, Tryz.ntmps63
 go_wp2_with fail
 exact ⟨rfl, rfl, Up.refl _⟩
theorem start_true (w : World) (K : Int) (v : Value) (k bg : Int) (ct : Bool) : Calls Tryz.prog 110 #[itv K true v k bg ct] w (fun e w' => e = .returned (.int .i64 1) ∧ Up w w') := by
 have U := Up.refl w
 go_enter Tryz.func110, Tryz.ntmps110
 go_upto_region 1 with fail
 obtain ⟨V1, hV1⟩ : ∃ V1, w.alloc (.cells #[.int .i64 K, .bool true, v, .int .i64 k, .int .i64 bg, .bool ct] 117) = V1 := ⟨_, rfl⟩
 have R : Ob V1 w.heap.size 117 #[.int .i64 K, .bool true, v, .int .i64 k, .int .i64 bg, .bool ct] := by rw [← hV1]; exact Ob.mk_ _ _ _
 replace U : Up w V1 := by rw [← hV1]; exact U.alloc _
 rw [hV1]
 clear hV1
 obtain ⟨i0, i1, i2, i3, i4, i5⟩ := R.six
 go_wp2_with fail
 go_ret
 exact ⟨rfl, U⟩
theorem start_false (w : World) (K : Int) (v : Value) (k bg : Int) (ct : Bool) : Calls Tryz.prog 110 #[itv K false v k bg ct] w (fun e w' => e = .returned (.int .i64 0) ∧ Up w w') := by
 have U := Up.refl w
 go_enter Tryz.func110, Tryz.ntmps110
 go_upto_region 1 with fail
 obtain ⟨V1, hV1⟩ : ∃ V1, w.alloc (.cells #[.int .i64 K, .bool false, v, .int .i64 k, .int .i64 bg, .bool ct] 117) = V1 := ⟨_, rfl⟩
 have R : Ob V1 w.heap.size 117 #[.int .i64 K, .bool false, v, .int .i64 k, .int .i64 bg, .bool ct] := by rw [← hV1]; exact Ob.mk_ _ _ _
 replace U : Up w V1 := by rw [← hV1]; exact U.alloc _
 rw [hV1]
 clear hV1
 obtain ⟨i0, i1, i2, i3, i4, i5⟩ := R.six
 go_wp2_with fail
 go_ret
 exact ⟨rfl, U⟩
def M.so (neg : Bool) : Nat := if neg = true then 1 else 0
theorem start_any (w : World) (K : Int) (neg : Bool) (v : Value) (k bg : Int) (ct : Bool) : Calls Tryz.prog 110 #[itv K neg v k bg ct] w (fun e w' => e = .returned (.int .i64 (M.so neg : Int)) ∧ Up w w') := by
 cases neg
 ·exact start_false w K v k bg ct
 ·exact start_true w K v k bg ct
set_option maxRecDepth 100000 in
theorem number_in (w : World) (K : Int) (neg : Bool) (A : Option Addr) (n c : Nat) (k : Int) (ct : Bool) (lo d : Nat) (h : Nt w lo 2001 (.slice A n c) d) (hd : d < 18446744073709551616 ^ 128) (hk : -5000 ≤ k ∧ k ≤ 5000) : Calls Tryz.prog 67 #[itv K neg (.slice A n c) k 0 ct] w (Xr neg 2001 d k k w) := by
 have CD := Lib.hid (fun W (U : Up w W) => dec_yes W lo 2001 neg (.slice A n c) d k (h.up U).nw hd hk)
 clear h hd hk
 have U := Up.refl w
 go_enter Tryz.func67, Tryz.ntmps67
 go_upto_region 1 with fail
 obtain ⟨V1, hV1⟩ : ∃ V1, w.alloc (.cells #[.int .i64 K, .bool neg, .slice A n c, .int .i64 k, .int .i64 0, .bool ct] 117) = V1 := ⟨_, rfl⟩
 have R : Ob V1 w.heap.size 117 #[.int .i64 K, .bool neg, .slice A n c, .int .i64 k, .int .i64 0, .bool ct] := by rw [← hV1]; exact Ob.mk_ _ _ _
 have U1 : Up w V1 := by rw [← hV1]; exact U.alloc _
 have s1 : V1.heap.size = w.heap.size + 1 := by rw [← hV1]; exact Array.size_push _
 rw [hV1]
 clear hV1
 obtain ⟨V2, hV2⟩ : ∃ V2, V1.alloc (.cells #[.bool false, .slice none 0 0, .int .i64 0, .int .i64 0] 84) = V2 := ⟨_, rfl⟩
 have S : Ob V2 (w.heap.size + 1) 84 #[.bool false, .slice none 0 0, .int .i64 0, .int .i64 0] := by rw [← hV2, ← s1]; exact Ob.mk_ _ _ _
 have u2 : Up V1 V2 := Up.al hV2
 replace U := U1.trans u2
 replace R := R.up u2
 have gS := S.lt
 rw [hV2]
 clear hV2 s1 U1 u2
 obtain ⟨i0, i1, i2, i3, i4, i5⟩ := R.six
 go_quiet (fail)
 go_wp2_with fail
 refine (CD.out _ (U.drewN _)).mono ?_
 rintro _ W2 ⟨v2, rfl, N2, u3⟩
 obtain ⟨A2, n2, c2, ys2, rfl, N2'⟩ := N2
 replace N2 : Nt W2 _ 2001 (.slice A2 n2 c2) d := ⟨_, _, _, _, rfl, N2'⟩
 clear N2'
 replace N2 := N2.lower (lo' := V2.heap.size) (by first | exact Nat.le_refl _ | exact Up.size (((Up.refl V2).drewN _).alloc _))
 replace u3 : Up V2 W2 := by first | exact ((Up.refl V2).drewN _).trans u3 | exact (((Up.refl V2).drewN _).alloc _).trans u3
 replace U := U.trans u3
 replace S := S.up u3
 have gS2 : w.heap.size + 1 < W2.heap.size := S.lt
 clear u3 i0 i1 i2 i3 i4 i5 R CD
 go_upto_region 5 with fail
 obtain ⟨V3, hV3⟩ : ∃ V3, W2.alloc (.cells #[.bool neg, .slice A2 n2 c2, .int .i64 k, .int .i64 k] 84) = V3 := ⟨_, rfl⟩
 have R : Ob V3 W2.heap.size 84 #[.bool neg, .slice A2 n2 c2, .int .i64 k, .int .i64 k] := by rw [← hV3]; exact Ob.mk_ _ _ _
 have u4 : Up W2 V3 := Up.al hV3
 rw [hV3]
 clear hV3
 replace U := U.trans u4
 replace S := S.up u4
 replace N2 := N2.up u4
 clear u4
 obtain ⟨r0, r1, r2, r3⟩ := R.g4
 go_wp2_with (refine store_ob2 rfl 84 (.tmp 2) (.tmp 26) rfl _ #[.bool false, .slice none 0 0, .int .i64 0, .int .i64 0] #[.bool neg, .slice A2 n2 c2, .int .i64 k, .int .i64 k] rfl rfl 4 (by kernel_rfl) rfl rfl (by simp [Value.oneCell']) w U (Nat.le_succ _) 84 S ?_; clear U; intro V9 Z9 U ho)
 obtain ⟨z0, z1, z2, z3⟩ := Z9.g4
 refine bodyPost_ret (v := xv neg (.slice A2 n2 c2) k k) (by simp [results, Tryz.results67, go_sem, z0, z1, z2, z3]) rfl ?_
 exact ⟨_, rfl, (N2.other ho (by omega)).lower (by omega), U⟩
set_option maxRecDepth 100000 in
theorem number_up (w : World) (K : Int) (neg : Bool) (A : Option Addr) (n c : Nat) (k : Int) (ct : Bool) : Calls Tryz.prog 67 #[itv K neg (.slice A n c) k 1 ct] w (Xr neg 1 1 1000 1000 w) := by
 have CD := Lib.hid (fun W (l : Nat) (B : Value) (hB : Nw W l 1 B 1) => dec_yes W l 1 neg B 1 1000 hB (lt_w128 (by decide)) ⟨by decide, by decide⟩)
 have U := Up.refl w
 go_enter Tryz.func67, Tryz.ntmps67
 go_upto_region 1 with fail
 obtain ⟨V1, hV1⟩ : ∃ V1, w.alloc (.cells #[.int .i64 K, .bool neg, .slice A n c, .int .i64 k, .int .i64 1, .bool ct] 117) = V1 := ⟨_, rfl⟩
 have R : Ob V1 w.heap.size 117 #[.int .i64 K, .bool neg, .slice A n c, .int .i64 k, .int .i64 1, .bool ct] := by rw [← hV1]; exact Ob.mk_ _ _ _
 have U1 : Up w V1 := by rw [← hV1]; exact U.alloc _
 have s1 : V1.heap.size = w.heap.size + 1 := by rw [← hV1]; exact Array.size_push _
 rw [hV1]
 clear hV1
 obtain ⟨V2, hV2⟩ : ∃ V2, V1.alloc (.cells #[.bool false, .slice none 0 0, .int .i64 0, .int .i64 0] 84) = V2 := ⟨_, rfl⟩
 have S : Ob V2 (w.heap.size + 1) 84 #[.bool false, .slice none 0 0, .int .i64 0, .int .i64 0] := by rw [← hV2, ← s1]; exact Ob.mk_ _ _ _
 have u2 : Up V1 V2 := Up.al hV2
 replace U := U1.trans u2
 replace R := R.up u2
 have gS := S.lt
 rw [hV2]
 clear hV2 s1 U1 u2
 obtain ⟨i0, i1, i2, i3, i4, i5⟩ := R.six
 go_quiet (fail)
 have h4 : ∀ (n : Nat) (o : Obj), ((V2.drewN n).alloc o).cell? ⟨w.heap.size, 4, none⟩ = some (.int .i64 1) := fun n o => (Below.cell (p := ⟨w.heap.size, 4, none⟩) (((Up.refl V2).drewN n).alloc o) R.lt).trans i4
 have h1 : ∀ (n : Nat) (o : Obj), ((V2.drewN n).alloc o).cell? ⟨w.heap.size, 1, none⟩ = some (.bool neg) := fun n o => (Below.cell (p := ⟨w.heap.size, 1, none⟩) (((Up.refl V2).drewN n).alloc o) R.lt).trans i1
 go_upto_region 3 with fail
 go_region
 all_goals
  go_wp2_with fail
 go_wp2_with fail
 refine (CD.out _ _ _ (lit1 _ 1 _ rfl (by decide))).mono ?_
 rintro _ W2 ⟨v2, rfl, N2, u3⟩
 obtain ⟨A2, n2, c2, ys2, rfl, N2'⟩ := N2
 replace N2 : Nt W2 _ 1 (.slice A2 n2 c2) 1 := ⟨_, _, _, _, rfl, N2'⟩
 clear N2'
 replace N2 := N2.lower (lo' := V2.heap.size) (by first | exact Nat.le_refl _ | exact Up.size (((Up.refl V2).drewN _).alloc _))
 replace u3 : Up V2 W2 := by first | exact ((Up.refl V2).drewN _).trans u3 | exact (((Up.refl V2).drewN _).alloc _).trans u3
 replace U := U.trans u3
 replace S := S.up u3
 have gS2 : w.heap.size + 1 < W2.heap.size := S.lt
 clear u3 i0 i1 i2 i3 i4 i5 R CD
 go_upto_region 5 with fail
 obtain ⟨V3, hV3⟩ : ∃ V3, W2.alloc (.cells #[.bool neg, .slice A2 n2 c2, .int .i64 1000, .int .i64 1000] 84) = V3 := ⟨_, rfl⟩
 have R : Ob V3 W2.heap.size 84 #[.bool neg, .slice A2 n2 c2, .int .i64 1000, .int .i64 1000] := by rw [← hV3]; exact Ob.mk_ _ _ _
 have u4 : Up W2 V3 := Up.al hV3
 rw [hV3]
 clear hV3
 replace U := U.trans u4
 replace S := S.up u4
 replace N2 := N2.up u4
 clear u4
 obtain ⟨r0, r1, r2, r3⟩ := R.g4
 go_wp2_with (refine store_ob2 rfl 84 (.tmp 2) (.tmp 26) rfl _ #[.bool false, .slice none 0 0, .int .i64 0, .int .i64 0] #[.bool neg, .slice A2 n2 c2, .int .i64 1000, .int .i64 1000] rfl rfl 4 (by kernel_rfl) rfl rfl (by simp [Value.oneCell']) w U (Nat.le_succ _) 84 S ?_; clear U; intro V9 Z9 U ho)
 obtain ⟨z0, z1, z2, z3⟩ := Z9.g4
 refine bodyPost_ret (v := xv neg (.slice A2 n2 c2) 1000 1000) (by simp [results, Tryz.results67, go_sem, z0, z1, z2, z3]) rfl ?_
 exact ⟨_, rfl, (N2.other ho (by omega)).lower (by omega), U⟩
set_option maxRecDepth 100000 in
theorem number_low (w : World) (K : Int) (neg : Bool) (A : Option Addr) (n c : Nat) (k : Int) (ct : Bool) : Calls Tryz.prog 67 #[itv K neg (.slice A n c) k (-1) ct] w (Xr neg 1 1 (-1000) (-1000) w) := by
 have CD := Lib.hid (fun W (l : Nat) (B : Value) (hB : Nw W l 1 B 1) => dec_yes W l 1 neg B 1 (-1000) hB (lt_w128 (by decide)) ⟨by decide, by decide⟩)
 have U := Up.refl w
 go_enter Tryz.func67, Tryz.ntmps67
 go_upto_region 1 with fail
 obtain ⟨V1, hV1⟩ : ∃ V1, w.alloc (.cells #[.int .i64 K, .bool neg, .slice A n c, .int .i64 k, .int .i64 (-1), .bool ct] 117) = V1 := ⟨_, rfl⟩
 have R : Ob V1 w.heap.size 117 #[.int .i64 K, .bool neg, .slice A n c, .int .i64 k, .int .i64 (-1), .bool ct] := by rw [← hV1]; exact Ob.mk_ _ _ _
 have U1 : Up w V1 := by rw [← hV1]; exact U.alloc _
 have s1 : V1.heap.size = w.heap.size + 1 := by rw [← hV1]; exact Array.size_push _
 rw [hV1]
 clear hV1
 obtain ⟨V2, hV2⟩ : ∃ V2, V1.alloc (.cells #[.bool false, .slice none 0 0, .int .i64 0, .int .i64 0] 84) = V2 := ⟨_, rfl⟩
 have S : Ob V2 (w.heap.size + 1) 84 #[.bool false, .slice none 0 0, .int .i64 0, .int .i64 0] := by rw [← hV2, ← s1]; exact Ob.mk_ _ _ _
 have u2 : Up V1 V2 := Up.al hV2
 replace U := U1.trans u2
 replace R := R.up u2
 have gS := S.lt
 rw [hV2]
 clear hV2 s1 U1 u2
 obtain ⟨i0, i1, i2, i3, i4, i5⟩ := R.six
 go_quiet (fail)
 have h4 : ∀ (n : Nat) (o : Obj), ((V2.drewN n).alloc o).cell? ⟨w.heap.size, 4, none⟩ = some (.int .i64 (-1)) := fun n o => (Below.cell (p := ⟨w.heap.size, 4, none⟩) (((Up.refl V2).drewN n).alloc o) R.lt).trans i4
 have h1 : ∀ (n : Nat) (o : Obj), ((V2.drewN n).alloc o).cell? ⟨w.heap.size, 1, none⟩ = some (.bool neg) := fun n o => (Below.cell (p := ⟨w.heap.size, 1, none⟩) (((Up.refl V2).drewN n).alloc o) R.lt).trans i1
 go_upto_region 3 with fail
 go_region
 all_goals
  go_wp2_with fail
 go_wp2_with fail
 refine (CD.out _ _ _ (lit1 _ 1 _ rfl (by decide))).mono ?_
 rintro _ W2 ⟨v2, rfl, N2, u3⟩
 obtain ⟨A2, n2, c2, ys2, rfl, N2'⟩ := N2
 replace N2 : Nt W2 _ 1 (.slice A2 n2 c2) 1 := ⟨_, _, _, _, rfl, N2'⟩
 clear N2'
 replace N2 := N2.lower (lo' := V2.heap.size) (by first | exact Nat.le_refl _ | exact Up.size (((Up.refl V2).drewN _).alloc _))
 replace u3 : Up V2 W2 := by first | exact ((Up.refl V2).drewN _).trans u3 | exact (((Up.refl V2).drewN _).alloc _).trans u3
 replace U := U.trans u3
 replace S := S.up u3
 have gS2 : w.heap.size + 1 < W2.heap.size := S.lt
 clear u3 i0 i1 i2 i3 i4 i5 R CD
 go_upto_region 5 with fail
 obtain ⟨V3, hV3⟩ : ∃ V3, W2.alloc (.cells #[.bool neg, .slice A2 n2 c2, .int .i64 (-1000), .int .i64 (-1000)] 84) = V3 := ⟨_, rfl⟩
 have R : Ob V3 W2.heap.size 84 #[.bool neg, .slice A2 n2 c2, .int .i64 (-1000), .int .i64 (-1000)] := by rw [← hV3]; exact Ob.mk_ _ _ _
 have u4 : Up W2 V3 := Up.al hV3
 rw [hV3]
 clear hV3
 replace U := U.trans u4
 replace S := S.up u4
 replace N2 := N2.up u4
 clear u4
 obtain ⟨r0, r1, r2, r3⟩ := R.g4
 go_wp2_with (refine store_ob2 rfl 84 (.tmp 2) (.tmp 26) rfl _ #[.bool false, .slice none 0 0, .int .i64 0, .int .i64 0] #[.bool neg, .slice A2 n2 c2, .int .i64 (-1000), .int .i64 (-1000)] rfl rfl 4 (by kernel_rfl) rfl rfl (by simp [Value.oneCell']) w U (Nat.le_succ _) 84 S ?_; clear U; intro V9 Z9 U ho)
 obtain ⟨z0, z1, z2, z3⟩ := Z9.g4
 refine bodyPost_ret (v := xv neg (.slice A2 n2 c2) (-1000) (-1000)) (by simp [results, Tryz.results67, go_sem, z0, z1, z2, z3]) rfl ?_
 exact ⟨_, rfl, (N2.other ho (by omega)).lower (by omega), U⟩
set_option maxRecDepth 100000 in
theorem word_inf_neg (w : World) (f : M.Fm) (v : Value) (k bg : Int) (ct : Bool) (n1 : (f.n != 0) = true) (ok : M.Ok f) (S : Int) (hS : Hid (M.sgn f = S)) (p : Int) (e : Go.bits BinOp.or IntKind.u64 f.n S = p) : Calls Tryz.prog 65 #[fv f, itv 2 true v k bg ct] w (fun e w' => e = .returned (.int .u64 p) ∧ Up w w') := by
 have CS := Lib.hid (fun W => sign_any W f ok S hS)
 clear ok hS
 have U := Up.refl w
 go_enter Tryz.func65, Tryz.ntmps65
 go_upto_region 1 with fail
 obtain ⟨V0, hV0⟩ : ∃ V0, w.alloc (.cells #[.int .i64 f.k, .int .i64 f.W, .int .i64 f.m, .int .i64 f.b, .int .u64 f.t, .int .u64 f.n, .int .u64 f.x] 53) = V0 := ⟨_, rfl⟩
 have C : Bf V0 w.heap.size 53 f := by rw [← hV0]; exact Bf.mk_ w f 53
 have s0 : V0.heap.size = w.heap.size + 1 := by rw [← hV0]; exact Array.size_push _
 have U0 : Up w V0 := by rw [← hV0]; exact U.alloc _
 rw [hV0]
 clear hV0
 obtain ⟨V1, hV1⟩ : ∃ V1, V0.alloc (.cells #[.int .i64 2, .bool true, v, .int .i64 k, .int .i64 bg, .bool ct] 117) = V1 := ⟨_, rfl⟩
 have R : Ob V1 (w.heap.size + 1) 117 #[.int .i64 2, .bool true, v, .int .i64 k, .int .i64 bg, .bool ct] := by rw [← hV1, ← s0]; exact Ob.mk_ _ _ _
 have u1 : Up V0 V1 := Up.al hV1
 rw [hV1]
 clear hV1 s0
 replace U := U0.trans u1
 replace C := C.up u1
 clear U0 u1
 obtain ⟨C0, C1, C2, C3, C4, C5, C6⟩ := Bf.cs C
 simp only [Nat.zero_add] at C0 C1 C2 C3 C4 C5 C6
 obtain ⟨i0, i1, i2, i3, i4, i5⟩ := R.six
 go_upto_region 3 with fail
 go_region_held3 (fun w' => w'.cell? ⟨w.heap.size, 0, none⟩ = some (.int .i64 f.k) ∧ w'.cell? ⟨w.heap.size, 1, none⟩ = some (.int .i64 f.W) ∧ w'.cell? ⟨w.heap.size, 2, none⟩ = some (.int .i64 f.m) ∧ w'.cell? ⟨w.heap.size, 3, none⟩ = some (.int .i64 f.b) ∧ w'.cell? ⟨w.heap.size, 4, none⟩ = some (.int .u64 f.t) ∧ w'.cell? ⟨w.heap.size, 5, none⟩ = some (.int .u64 f.n) ∧ w'.cell? ⟨w.heap.size, 6, none⟩ = some (.int .u64 f.x)) (go_keep) ((go_at_call 29; (with_reducible refine (CS.out _).mono ?_); rintro _ w30 ⟨rfl, h30⟩; have uw30 : Up V1 w30 := Up.trans (by first | with_reducible assumption | exact (Up.refl V1).drewN 1) h30; have cc0 := cell_up_ uw30 C0; have cc1 := cell_up_ uw30 C1; have cc2 := cell_up_ uw30 C2; have cc3 := cell_up_ uw30 C3; have cc4 := cell_up_ uw30 C4; have cc5 := cell_up_ uw30 C5; have cc6 := cell_up_ uw30 C6))
 clear C0 cc0 C1 cc1 C2 cc2 C3 cc3 C4 cc4 C5 cc5 C6 cc6
 go_wp2_with fail
 go_ret
 exact ⟨by first | rfl | exact ret_int e, U.trans uw30⟩
set_option maxRecDepth 100000 in
theorem word_inf_pos (w : World) (f : M.Fm) (v : Value) (k bg : Int) (ct : Bool) (n1 : (f.n != 0) = true) : Calls Tryz.prog 65 #[fv f, itv 2 false v k bg ct] w (fun e w' => e = .returned (.int .u64 f.n) ∧ Up w w') := by
 have U := Up.refl w
 go_enter Tryz.func65, Tryz.ntmps65
 go_upto_region 1 with fail
 obtain ⟨V0, hV0⟩ : ∃ V0, w.alloc (.cells #[.int .i64 f.k, .int .i64 f.W, .int .i64 f.m, .int .i64 f.b, .int .u64 f.t, .int .u64 f.n, .int .u64 f.x] 53) = V0 := ⟨_, rfl⟩
 have C : Bf V0 w.heap.size 53 f := by rw [← hV0]; exact Bf.mk_ w f 53
 have s0 : V0.heap.size = w.heap.size + 1 := by rw [← hV0]; exact Array.size_push _
 have U0 : Up w V0 := by rw [← hV0]; exact U.alloc _
 rw [hV0]
 clear hV0
 obtain ⟨V1, hV1⟩ : ∃ V1, V0.alloc (.cells #[.int .i64 2, .bool false, v, .int .i64 k, .int .i64 bg, .bool ct] 117) = V1 := ⟨_, rfl⟩
 have R : Ob V1 (w.heap.size + 1) 117 #[.int .i64 2, .bool false, v, .int .i64 k, .int .i64 bg, .bool ct] := by rw [← hV1, ← s0]; exact Ob.mk_ _ _ _
 have u1 : Up V0 V1 := Up.al hV1
 rw [hV1]
 clear hV1 s0
 replace U := U0.trans u1
 replace C := C.up u1
 clear U0 u1
 obtain ⟨C0, C1, C2, C3, C4, C5, C6⟩ := Bf.cs C
 simp only [Nat.zero_add] at C0 C1 C2 C3 C4 C5 C6
 obtain ⟨i0, i1, i2, i3, i4, i5⟩ := R.six
 go_wp2_with fail
 go_ret
 exact ⟨rfl, U⟩
set_option maxRecDepth 100000 in
theorem word_nan (w : World) (f : M.Fm) (neg : Bool) (v : Value) (k bg : Int) (ct : Bool) (x1 : (f.x != 0) = true) (t0 : (f.k == 1) = false) : Calls Tryz.prog 65 #[fv f, itv 3 neg v k bg ct] w (fun e w' => e = .returned (.int .u64 f.x) ∧ Up w w') := by
 have U := Up.refl w
 go_enter Tryz.func65, Tryz.ntmps65
 go_upto_region 1 with fail
 obtain ⟨V0, hV0⟩ : ∃ V0, w.alloc (.cells #[.int .i64 f.k, .int .i64 f.W, .int .i64 f.m, .int .i64 f.b, .int .u64 f.t, .int .u64 f.n, .int .u64 f.x] 53) = V0 := ⟨_, rfl⟩
 have C : Bf V0 w.heap.size 53 f := by rw [← hV0]; exact Bf.mk_ w f 53
 have s0 : V0.heap.size = w.heap.size + 1 := by rw [← hV0]; exact Array.size_push _
 have U0 : Up w V0 := by rw [← hV0]; exact U.alloc _
 rw [hV0]
 clear hV0
 obtain ⟨V1, hV1⟩ : ∃ V1, V0.alloc (.cells #[.int .i64 3, .bool neg, v, .int .i64 k, .int .i64 bg, .bool ct] 117) = V1 := ⟨_, rfl⟩
 have R : Ob V1 (w.heap.size + 1) 117 #[.int .i64 3, .bool neg, v, .int .i64 k, .int .i64 bg, .bool ct] := by rw [← hV1, ← s0]; exact Ob.mk_ _ _ _
 have u1 : Up V0 V1 := Up.al hV1
 rw [hV1]
 clear hV1 s0
 replace U := U0.trans u1
 replace C := C.up u1
 clear U0 u1
 obtain ⟨C0, C1, C2, C3, C4, C5, C6⟩ := Bf.cs C
 simp only [Nat.zero_add] at C0 C1 C2 C3 C4 C5 C6
 obtain ⟨i0, i1, i2, i3, i4, i5⟩ := R.six
 go_wp2_with fail
 go_ret
 exact ⟨rfl, U⟩
set_option maxRecDepth 100000 in
theorem word_nar (w : World) (f : M.Fm) (v : Value) (k bg : Int) (ct : Bool) (t1 : (f.k == 1) = true) : Calls Tryz.prog 65 #[fv f, itv 4 false v k bg ct] w (fun e w' => e = .returned (.int .u64 f.x) ∧ Up w w') := by
 have U := Up.refl w
 go_enter Tryz.func65, Tryz.ntmps65
 go_upto_region 1 with fail
 obtain ⟨V0, hV0⟩ : ∃ V0, w.alloc (.cells #[.int .i64 f.k, .int .i64 f.W, .int .i64 f.m, .int .i64 f.b, .int .u64 f.t, .int .u64 f.n, .int .u64 f.x] 53) = V0 := ⟨_, rfl⟩
 have C : Bf V0 w.heap.size 53 f := by rw [← hV0]; exact Bf.mk_ w f 53
 have s0 : V0.heap.size = w.heap.size + 1 := by rw [← hV0]; exact Array.size_push _
 have U0 : Up w V0 := by rw [← hV0]; exact U.alloc _
 rw [hV0]
 clear hV0
 obtain ⟨V1, hV1⟩ : ∃ V1, V0.alloc (.cells #[.int .i64 4, .bool false, v, .int .i64 k, .int .i64 bg, .bool ct] 117) = V1 := ⟨_, rfl⟩
 have R : Ob V1 (w.heap.size + 1) 117 #[.int .i64 4, .bool false, v, .int .i64 k, .int .i64 bg, .bool ct] := by rw [← hV1, ← s0]; exact Ob.mk_ _ _ _
 have u1 : Up V0 V1 := Up.al hV1
 rw [hV1]
 clear hV1 s0
 replace U := U0.trans u1
 replace C := C.up u1
 clear U0 u1
 obtain ⟨C0, C1, C2, C3, C4, C5, C6⟩ := Bf.cs C
 simp only [Nat.zero_add] at C0 C1 C2 C3 C4 C5 C6
 obtain ⟨i0, i1, i2, i3, i4, i5⟩ := R.six
 go_wp2_with fail
 go_ret
 exact ⟨rfl, U⟩
set_option maxRecDepth 100000 in
theorem word_none2 (w : World) (f : M.Fm) (neg : Bool) (v : Value) (k bg : Int) (ct : Bool) (n0 : (f.n != 0) = false) : Calls Tryz.prog 65 #[fv f, itv 2 neg v k bg ct] w (Pnf 5 (M.so neg : Int) w) := by
 have U := Up.refl w
 go_enter Tryz.func65, Tryz.ntmps65
 go_upto_region 1 with fail
 obtain ⟨V0, hV0⟩ : ∃ V0, w.alloc (.cells #[.int .i64 f.k, .int .i64 f.W, .int .i64 f.m, .int .i64 f.b, .int .u64 f.t, .int .u64 f.n, .int .u64 f.x] 53) = V0 := ⟨_, rfl⟩
 have C : Bf V0 w.heap.size 53 f := by rw [← hV0]; exact Bf.mk_ w f 53
 have s0 : V0.heap.size = w.heap.size + 1 := by rw [← hV0]; exact Array.size_push _
 have U0 : Up w V0 := by rw [← hV0]; exact U.alloc _
 rw [hV0]
 clear hV0
 obtain ⟨V1, hV1⟩ : ∃ V1, V0.alloc (.cells #[.int .i64 2, .bool neg, v, .int .i64 k, .int .i64 bg, .bool ct] 117) = V1 := ⟨_, rfl⟩
 have R : Ob V1 (w.heap.size + 1) 117 #[.int .i64 2, .bool neg, v, .int .i64 k, .int .i64 bg, .bool ct] := by rw [← hV1, ← s0]; exact Ob.mk_ _ _ _
 have u1 : Up V0 V1 := Up.al hV1
 rw [hV1]
 clear hV1 s0
 replace U := U0.trans u1
 replace C := C.up u1
 clear U0 u1
 obtain ⟨C0, C1, C2, C3, C4, C5, C6⟩ := Bf.cs C
 simp only [Nat.zero_add] at C0 C1 C2 C3 C4 C5 C6
 obtain ⟨i0, i1, i2, i3, i4, i5⟩ := R.six
 go_wp2_with fail
 refine (start_any _ 2 neg v k bg ct).mono ?_
 rintro _ W2 ⟨rfl, u2⟩
 replace U := U.trans u2
 clear u2 C0 C1 C2 C3 C4 C5 C6 i0 i1 i2 i3 i4 i5 C R
 go_wp2_with fail
 exact ⟨rfl, rfl, U⟩
set_option maxRecDepth 100000 in
theorem word_none3 (w : World) (f : M.Fm) (neg : Bool) (v : Value) (k bg : Int) (ct : Bool) (x0 : (f.x != 0) = false) : Calls Tryz.prog 65 #[fv f, itv 3 neg v k bg ct] w (Pnf 5 (M.so neg : Int) w) := by
 have U := Up.refl w
 go_enter Tryz.func65, Tryz.ntmps65
 go_upto_region 1 with fail
 obtain ⟨V0, hV0⟩ : ∃ V0, w.alloc (.cells #[.int .i64 f.k, .int .i64 f.W, .int .i64 f.m, .int .i64 f.b, .int .u64 f.t, .int .u64 f.n, .int .u64 f.x] 53) = V0 := ⟨_, rfl⟩
 have C : Bf V0 w.heap.size 53 f := by rw [← hV0]; exact Bf.mk_ w f 53
 have s0 : V0.heap.size = w.heap.size + 1 := by rw [← hV0]; exact Array.size_push _
 have U0 : Up w V0 := by rw [← hV0]; exact U.alloc _
 rw [hV0]
 clear hV0
 obtain ⟨V1, hV1⟩ : ∃ V1, V0.alloc (.cells #[.int .i64 3, .bool neg, v, .int .i64 k, .int .i64 bg, .bool ct] 117) = V1 := ⟨_, rfl⟩
 have R : Ob V1 (w.heap.size + 1) 117 #[.int .i64 3, .bool neg, v, .int .i64 k, .int .i64 bg, .bool ct] := by rw [← hV1, ← s0]; exact Ob.mk_ _ _ _
 have u1 : Up V0 V1 := Up.al hV1
 rw [hV1]
 clear hV1 s0
 replace U := U0.trans u1
 replace C := C.up u1
 clear U0 u1
 obtain ⟨C0, C1, C2, C3, C4, C5, C6⟩ := Bf.cs C
 simp only [Nat.zero_add] at C0 C1 C2 C3 C4 C5 C6
 obtain ⟨i0, i1, i2, i3, i4, i5⟩ := R.six
 go_wp2_with fail
 refine (start_any _ 3 neg v k bg ct).mono ?_
 rintro _ W2 ⟨rfl, u2⟩
 replace U := U.trans u2
 clear u2 C0 C1 C2 C3 C4 C5 C6 i0 i1 i2 i3 i4 i5 C R
 go_wp2_with fail
 exact ⟨rfl, rfl, U⟩
set_option maxRecDepth 100000 in
theorem word_none3t (w : World) (f : M.Fm) (neg : Bool) (v : Value) (k bg : Int) (ct : Bool) (x1 : (f.x != 0) = true) (t1 : (f.k == 1) = true) : Calls Tryz.prog 65 #[fv f, itv 3 neg v k bg ct] w (Pnf 5 (M.so neg : Int) w) := by
 have U := Up.refl w
 go_enter Tryz.func65, Tryz.ntmps65
 go_upto_region 1 with fail
 obtain ⟨V0, hV0⟩ : ∃ V0, w.alloc (.cells #[.int .i64 f.k, .int .i64 f.W, .int .i64 f.m, .int .i64 f.b, .int .u64 f.t, .int .u64 f.n, .int .u64 f.x] 53) = V0 := ⟨_, rfl⟩
 have C : Bf V0 w.heap.size 53 f := by rw [← hV0]; exact Bf.mk_ w f 53
 have s0 : V0.heap.size = w.heap.size + 1 := by rw [← hV0]; exact Array.size_push _
 have U0 : Up w V0 := by rw [← hV0]; exact U.alloc _
 rw [hV0]
 clear hV0
 obtain ⟨V1, hV1⟩ : ∃ V1, V0.alloc (.cells #[.int .i64 3, .bool neg, v, .int .i64 k, .int .i64 bg, .bool ct] 117) = V1 := ⟨_, rfl⟩
 have R : Ob V1 (w.heap.size + 1) 117 #[.int .i64 3, .bool neg, v, .int .i64 k, .int .i64 bg, .bool ct] := by rw [← hV1, ← s0]; exact Ob.mk_ _ _ _
 have u1 : Up V0 V1 := Up.al hV1
 rw [hV1]
 clear hV1 s0
 replace U := U0.trans u1
 replace C := C.up u1
 clear U0 u1
 obtain ⟨C0, C1, C2, C3, C4, C5, C6⟩ := Bf.cs C
 simp only [Nat.zero_add] at C0 C1 C2 C3 C4 C5 C6
 obtain ⟨i0, i1, i2, i3, i4, i5⟩ := R.six
 go_wp2_with fail
 refine (start_any _ 3 neg v k bg ct).mono ?_
 rintro _ W2 ⟨rfl, u2⟩
 replace U := U.trans u2
 clear u2 C0 C1 C2 C3 C4 C5 C6 i0 i1 i2 i3 i4 i5 C R
 go_wp2_with fail
 exact ⟨rfl, rfl, U⟩
set_option maxRecDepth 100000 in
theorem word_none4 (w : World) (f : M.Fm) (neg : Bool) (v : Value) (k bg : Int) (ct : Bool) (t0 : (f.k == 1) = false) : Calls Tryz.prog 65 #[fv f, itv 4 neg v k bg ct] w (Pnf 5 (M.so neg : Int) w) := by
 have U := Up.refl w
 go_enter Tryz.func65, Tryz.ntmps65
 go_upto_region 1 with fail
 obtain ⟨V0, hV0⟩ : ∃ V0, w.alloc (.cells #[.int .i64 f.k, .int .i64 f.W, .int .i64 f.m, .int .i64 f.b, .int .u64 f.t, .int .u64 f.n, .int .u64 f.x] 53) = V0 := ⟨_, rfl⟩
 have C : Bf V0 w.heap.size 53 f := by rw [← hV0]; exact Bf.mk_ w f 53
 have s0 : V0.heap.size = w.heap.size + 1 := by rw [← hV0]; exact Array.size_push _
 have U0 : Up w V0 := by rw [← hV0]; exact U.alloc _
 rw [hV0]
 clear hV0
 obtain ⟨V1, hV1⟩ : ∃ V1, V0.alloc (.cells #[.int .i64 4, .bool neg, v, .int .i64 k, .int .i64 bg, .bool ct] 117) = V1 := ⟨_, rfl⟩
 have R : Ob V1 (w.heap.size + 1) 117 #[.int .i64 4, .bool neg, v, .int .i64 k, .int .i64 bg, .bool ct] := by rw [← hV1, ← s0]; exact Ob.mk_ _ _ _
 have u1 : Up V0 V1 := Up.al hV1
 rw [hV1]
 clear hV1 s0
 replace U := U0.trans u1
 replace C := C.up u1
 clear U0 u1
 obtain ⟨C0, C1, C2, C3, C4, C5, C6⟩ := Bf.cs C
 simp only [Nat.zero_add] at C0 C1 C2 C3 C4 C5 C6
 obtain ⟨i0, i1, i2, i3, i4, i5⟩ := R.six
 go_wp2_with fail
 refine (start_any _ 4 neg v k bg ct).mono ?_
 rintro _ W2 ⟨rfl, u2⟩
 replace U := U.trans u2
 clear u2 C0 C1 C2 C3 C4 C5 C6 i0 i1 i2 i3 i4 i5 C R
 go_wp2_with fail
 exact ⟨rfl, rfl, U⟩
set_option maxRecDepth 100000 in
theorem word_none4n (w : World) (f : M.Fm) (v : Value) (k bg : Int) (ct : Bool) (t1 : (f.k == 1) = true) : Calls Tryz.prog 65 #[fv f, itv 4 true v k bg ct] w (Pnf 5 (M.so true : Int) w) := by
 have U := Up.refl w
 go_enter Tryz.func65, Tryz.ntmps65
 go_upto_region 1 with fail
 obtain ⟨V0, hV0⟩ : ∃ V0, w.alloc (.cells #[.int .i64 f.k, .int .i64 f.W, .int .i64 f.m, .int .i64 f.b, .int .u64 f.t, .int .u64 f.n, .int .u64 f.x] 53) = V0 := ⟨_, rfl⟩
 have C : Bf V0 w.heap.size 53 f := by rw [← hV0]; exact Bf.mk_ w f 53
 have s0 : V0.heap.size = w.heap.size + 1 := by rw [← hV0]; exact Array.size_push _
 have U0 : Up w V0 := by rw [← hV0]; exact U.alloc _
 rw [hV0]
 clear hV0
 obtain ⟨V1, hV1⟩ : ∃ V1, V0.alloc (.cells #[.int .i64 4, .bool true, v, .int .i64 k, .int .i64 bg, .bool ct] 117) = V1 := ⟨_, rfl⟩
 have R : Ob V1 (w.heap.size + 1) 117 #[.int .i64 4, .bool true, v, .int .i64 k, .int .i64 bg, .bool ct] := by rw [← hV1, ← s0]; exact Ob.mk_ _ _ _
 have u1 : Up V0 V1 := Up.al hV1
 rw [hV1]
 clear hV1 s0
 replace U := U0.trans u1
 replace C := C.up u1
 clear U0 u1
 obtain ⟨C0, C1, C2, C3, C4, C5, C6⟩ := Bf.cs C
 simp only [Nat.zero_add] at C0 C1 C2 C3 C4 C5 C6
 obtain ⟨i0, i1, i2, i3, i4, i5⟩ := R.six
 go_wp2_with fail
 refine (start_any _ 4 true v k bg ct).mono ?_
 rintro _ W2 ⟨rfl, u2⟩
 replace U := U.trans u2
 clear u2 C0 C1 C2 C3 C4 C5 C6 i0 i1 i2 i3 i4 i5 C R
 go_wp2_with fail
 exact ⟨rfl, rfl, U⟩
def Pto (p : Int) (n : Nat) (e : Int) (w : World) (en : Ending) (w' : World) : Prop := (e = 0 ∧ en = .returned (.int .u64 p) ∧ Up w w') ∨ (e ≠ 0 ∧ Pnf e (n : Int) w en w')
theorem pword_any (w : World) (f : M.Fm) (ok : M.Ok f) (ok3 : M.Ok3 f) (K : Nat) (hK : 2 ≤ K ∧ K ≤ 4) (neg : Bool) (v : Value) (k bg : Int) (ct : Bool) (p : Int) (n : Nat) (e : Int) (h : M.Wq f K neg p n e) :
  Calls Tryz.prog 65 #[fv f, itv (K : Int) neg v k bg ct] w (Pto p n e w) := by
 have good : ∀ {q : Int} {en : Ending} {w' : World}, q = p → e = 0 → (en = .returned (.int .u64 q) ∧ Up w w') → Pto p n e w en w' := fun h1 h2 h3 => .inl ⟨h2, h1 ▸ h3.1, h3.2⟩
 have nb : ∀ {x : Int}, x ≠ 0 → (x != 0) = true := fun h => by simpa using h
 have ne : ∀ {x : Int}, ¬ x ≠ 0 → (x != 0) = false := fun h => by simpa using h
 have tb_ : f.k = 1 → (f.k == 1) = true := fun h => by simpa using h
 have te : f.k ≠ 1 → (f.k == 1) = false := fun h => by simpa using h
 rcases h with ⟨rfl, h, rfl, rfl, rfl⟩ | ⟨rfl, h, h2, rfl, rfl, rfl⟩ | ⟨rfl, h, rfl, rfl, rfl, rfl⟩ | ⟨h2, h3, h4, rfl, rfl, rfl⟩
 ·cases neg with
  | false => exact (word_inf_pos w f v k bg ct (nb h)).mono fun _ _ g => good rfl rfl g
  | true =>
   have hs := ((M.sgn_ok ok).2 (by have := (ok3.most h).1; omega)).1
   exact (word_inf_neg w f v k bg ct (nb h) ok (M.half f) hs (f.n + M.half f) (M.or_inf ok ok3 h)).mono fun _ _ g => good rfl rfl g
 ·exact (word_nan w f neg v k bg ct (nb h) (te h2)).mono fun _ _ g => good rfl rfl g
 ·exact (word_nar w f v k bg ct (tb_ h)).mono fun _ _ g => good rfl rfl g
 ·have hb : ∀ {en : Ending} {w' : World}, Pnf 5 (M.so neg : Int) w en w' → Pto 0 (if neg = true then 1 else 0) 5 w en w' := fun g => .inr ⟨by decide, g⟩
  rcases (show K = 2 ∨ K = 3 ∨ K = 4 by omega) with rfl | rfl | rfl
  ·exact (word_none2 w f neg v k bg ct (ne (fun e => h2 ⟨rfl, e⟩))).mono fun _ _ g => hb g
  ·by_cases x0 : f.x ≠ 0
   ·by_cases k1 : f.k = 1
    ·exact (word_none3t w f neg v k bg ct (nb x0) (tb_ k1)).mono fun _ _ g => hb g
    ·exact absurd ⟨rfl, x0, k1⟩ h3
   ·exact (word_none3 w f neg v k bg ct (ne x0)).mono fun _ _ g => hb g
  ·by_cases k1 : f.k = 1
   ·cases neg with
    | false => exact absurd ⟨rfl, k1, rfl⟩ h4
    | true => exact (word_none4n w f v k bg ct (tb_ k1)).mono fun _ _ g => hb g
   ·exact (word_none4 w f neg v k bg ct (te k1)).mono fun _ _ g => hb g
theorem numberOf_any (w : World) (K : Int) (neg : Bool) (v : Value) (lo : Nat) (N : M.Nm) (ct : Bool) (h : Nt w lo 2001 v N.d) (hd : N.d < 18446744073709551616 ^ 128) (hk : -3000 ≤ N.k ∧ N.k ≤ 1000) (hb : N.big = 0 ∨ N.big = 1 ∨ N.big = -1) :
  ∃ (a : Nat) (T : Int), M.szn N = M.sz a T T ∧ a < 18446744073709551616 ^ 128 ∧ (-5000 ≤ T ∧ T ≤ 5000) ∧ Calls Tryz.prog 67 #[itv K neg v N.k N.big ct] w (Xr neg 2001 a T T w) := by
 obtain ⟨A, n, c, xs, rfl, h'⟩ := h
 have up1 : ∀ {T : Int} {e : Ending} {w' : World}, Xr neg 1 1 T T w e w' → Xr neg 2001 1 T T w e w' := fun ⟨v, h1, h2, h3⟩ => ⟨v, h1, h2.more (by decide), h3⟩
 rcases hb with e | e | e
 ·refine ⟨N.d, N.k, by unfold M.szn; rw [if_pos e], hd, by omega, ?_⟩
  rw [e]
  exact number_in w K neg A n c N.k ct lo N.d ⟨A, n, c, xs, rfl, h'⟩ hd (by omega)
 ·refine ⟨1, 1000, by unfold M.szn; rw [if_neg (by omega), e]; rfl, lt_w128 (by decide), by decide, ?_⟩
  rw [e]
  exact (number_up w K neg A n c N.k ct).mono fun _ _ => up1
 ·refine ⟨1, -1000, by unfold M.szn; rw [if_neg (by omega), e]; rfl, lt_w128 (by decide), by decide, ?_⟩
  rw [e]
  exact (number_low w K neg A n c N.k ct).mono fun _ _ => up1
end Go.Proofs.YtcmlanfgafancaaGreatDoor
namespace Go.Proofs.YtcmlanfgafancaaGreatDoor
open Go.RowKit Go.Shelf
set_option maxRecDepth 100000 in
theorem po_form (w : World) (ii mode : Int) (s : ByteArray) (h : ii < 1 ∨ 15 ≤ ii) : Calls Tryz.prog 31 #[.int .i64 ii, .int .i64 mode, .string s] w (Pnf 3 0 w) := by
 have CO := Lib.hid (fun W => of_out W ii h)
 clear h
 have U := Up.refl w
 go_enter Tryz.func31, Tryz.ntmps31
 go_wp2_with fail
 refine (CO.out _).mono ?_
 rintro _ W1 ⟨rfl, u1⟩
 replace U := U.trans u1
 clear u1
 go_wp2_with fail
 obtain ⟨V1, hV1⟩ : ∃ V1, W1.alloc (.cells #[.int .i64 0, .int .i64 0, .int .i64 0, .int .i64 0, .int .u64 0, .int .u64 0, .int .u64 0] 53) = V1 := ⟨_, rfl⟩
 have C : Bf V1 W1.heap.size 53 ⟨0, 0, 0, 0, 0, 0, 0⟩ := by rw [← hV1]; exact Bf.mk_ W1 ⟨0, 0, 0, 0, 0, 0, 0⟩ 53
 have u2 : Up W1 V1 := Up.al hV1
 rw [hV1]
 clear hV1
 replace U := U.trans u2
 clear u2
 refine (must_bad _ 3 0 (by decide)).mono ?_
 rintro _ W2 ⟨rfl, u3⟩
 replace U := U.trans u3
 clear u3 C
 go_wp2_with fail
 exact ⟨rfl, rfl, U⟩
set_option maxRecDepth 100000 in
theorem po_mode (w : World) (TF : Hid (TabF w)) (i : Nat) (f : M.Fm) (hf : Hid (M.tb i = f)) (i1 : 1 ≤ i) (i2 : i ≤ 14) (mode : Int) (s : ByteArray) (m1 : (mode != 1) = true) (m2 : (mode != 2) = true) : Calls Tryz.prog 31 #[.int .i64 (i : Int), .int .i64 mode, .string s] w (Pnf 1 0 w) := by
 have CO := Lib.hid (fun W (F : TabF W) => of_in W F i f hf i1 i2)
 clear hf i1 i2
 have U := Up.refl w
 go_enter Tryz.func31, Tryz.ntmps31
 go_wp2_with fail
 refine (CO.out _ TF.out).mono ?_
 rintro _ W1 ⟨rfl, u1⟩
 replace U := U.trans u1
 clear u1
 go_wp2_with fail
 obtain ⟨V1, hV1⟩ : ∃ V1, W1.alloc (.cells #[.int .i64 f.k, .int .i64 f.W, .int .i64 f.m, .int .i64 f.b, .int .u64 f.t, .int .u64 f.n, .int .u64 f.x] 53) = V1 := ⟨_, rfl⟩
 have C : Bf V1 W1.heap.size 53 f := by rw [← hV1]; exact Bf.mk_ W1 f 53
 have u2 : Up W1 V1 := Up.al hV1
 rw [hV1]
 clear hV1
 replace U := U.trans u2
 clear u2
 refine (must_ok _ 0).mono ?_
 rintro _ _ ⟨rfl, rfl⟩
 go_wp2_with fail
 exact ⟨rfl, rfl, U⟩
set_option maxRecDepth 100000 in
theorem po_scan (w : World) (L : Hid (Lp w)) (i : Nat) (f : M.Fm) (hf : Hid (M.tb i = f)) (i1 : 1 ≤ i) (i2 : i ≤ 14) (mode : Int) (m1 : Hid (mode = 1 ∨ mode = 2)) (s : ByteArray) (l : List UInt8) (hl : Hid (s.data.toList = l)) (hs : s.size ≤ 1000000) (r : M.It) (j : Nat) (hr : Hid (M.rs l = (r, j, 2))) : Calls Tryz.prog 31 #[.int .i64 (i : Int), .int .i64 mode, .string s] w (Pnf 2 (j : Int) w) := by
 have CO := Lib.hid (fun W (F : TabF W) => of_in W F i f hf i1 i2)
 obtain ⟨neg, hneg⟩ : ∃ neg, r.neg = neg := ⟨_, rfl⟩
 obtain ⟨d, k, bg, ct, hn⟩ : ∃ d k bg ct, r.n = ⟨d, k, bg, ct⟩ := ⟨_, _, _, _, rfl⟩
 have SC := Lib.hid (fun W (E : ErrW W) A n c (S : Sb W A n c l) (hn2 : n ≤ 100000000) => scan_val W (Lib.hid E) A n c l S hn2 r j 2 hr.out (r.kind : Int) neg d k bg ct (j : Int) rfl hneg hn rfl)
 obtain ⟨K, hK⟩ : ∃ K : Int, (r.kind : Int) = K := ⟨_, rfl⟩
 rw [hK] at SC
 clear hK
 clear hf i1 i2 hneg hn
 have MD : (mode != 1) = false ∨ ((mode != 1) = true ∧ (mode != 2) = false) := by rcases m1.out with rfl | rfl <;> decide
 have U := Up.refl w
 go_enter Tryz.func31, Tryz.ntmps31
 go_wp2_with fail
 refine (CO.out _ L.out.form).mono ?_
 rintro _ W1 ⟨rfl, u1⟩
 replace U := U.trans u1
 clear u1
 go_wp2_with fail
 obtain ⟨V1, hV1⟩ : ∃ V1, W1.alloc (.cells #[.int .i64 f.k, .int .i64 f.W, .int .i64 f.m, .int .i64 f.b, .int .u64 f.t, .int .u64 f.n, .int .u64 f.x] 53) = V1 := ⟨_, rfl⟩
 have C : Bf V1 W1.heap.size 53 f := by rw [← hV1]; exact Bf.mk_ W1 f 53
 have u2 : Up W1 V1 := Up.al hV1
 rw [hV1]
 clear hV1
 replace U := U.trans u2
 clear u2
 refine (must_ok _ 0).mono ?_
 rintro _ _ ⟨rfl, rfl⟩
 obtain ⟨c, W2, hcv, S, u3⟩ := conv_str V1 s l hl.out (by omega)
 replace U := U.trans u3
 replace C := C.up u3
 have gC := C.lt
 obtain ⟨g, hg⟩ : ∃ g, V1.heap.size = g := ⟨_, rfl⟩
 rw [hg] at hcv S
 obtain ⟨n, hn⟩ : ∃ n, s.size = n := ⟨_, rfl⟩
 rw [hn] at hcv S hs
 have CS := Lib.hid (SC.out W2 (L.out.up U).er _ n c S (by omega))
 clear S hn hg u3 hl SC hr
 have back : ∀ Q : Prop, ((mode != 1) = false → Q) → ((mode != 1) = true → (mode != 2) = false → Q) → Q := fun Q a b => by rcases MD with e | ⟨e1, e2⟩; exact a e; exact b e1 e2
 clear MD
 refine back _ (fun m0 => ?_) (fun m0 m2 => ?_)
 all_goals clear back
 all_goals
  go_wp2_with fail
  refine CS.out.mono ?_
  rintro _ W3 ⟨A3, n3, c3, xs3, rfl, N3, v3, l3, w3, u3⟩
  have T3 := Lib.hid (wd_nt N3 v3 l3 w3)
  replace U := U.trans u3
  replace C := C.up u3
  clear N3 v3 l3 w3 u3 CS hcv
  go_wp2_with fail
  obtain ⟨V4, hV4⟩ : ∃ V4, W3.alloc (.cells #[.int .i64 K, .bool neg, .slice A3 n3 c3, .int .i64 k, .int .i64 bg, .bool ct] 117) = V4 := ⟨_, rfl⟩
  have R : Ob V4 W3.heap.size 117 #[.int .i64 K, .bool neg, .slice A3 n3 c3, .int .i64 k, .int .i64 bg, .bool ct] := by rw [← hV4]; exact Ob.mk_ _ _ _
  have u4 : Up W3 V4 := Up.al hV4
  rw [hV4]
  clear hV4
  replace U := U.trans u4
  replace C := C.up u4
  replace T3 := Lib.hid (T3.out.up u4)
  clear u4
  refine (must_bad _ 2 _ (by decide)).mono ?_
  rintro _ W5 ⟨rfl, u5⟩
  replace U := U.trans u5
  clear u5 C R T3
  go_wp2_with fail
  exact ⟨rfl, rfl, U⟩
set_option maxRecDepth 100000 in
theorem po_word (w : World) (L : Hid (Lp w)) (i : Nat) (f : M.Fm) (hf : Hid (M.tb i = f)) (i1 : 1 ≤ i) (i2 : i ≤ 14) (mode : Int) (m1 : Hid (mode = 1 ∨ mode = 2)) (s : ByteArray) (l : List UInt8) (hl : Hid (s.data.toList = l)) (hs : s.size ≤ 1000000) (r : M.It) (j : Nat) (hr : Hid (M.rs l = (r, j, 0))) (hK : 2 ≤ r.kind ∧ r.kind ≤ 4) (p : Int) (n : Nat) (e : Int) (hq : M.Wq f r.kind r.neg p n e) : Calls Tryz.prog 31 #[.int .i64 (i : Int), .int .i64 mode, .string s] w (Pto p n e w) := by
 have CO := Lib.hid (fun W (F : TabF W) => of_in W F i f hf i1 i2)
 obtain ⟨neg, hneg⟩ : ∃ neg, r.neg = neg := ⟨_, rfl⟩
 obtain ⟨d, k, bg, ct, hn⟩ : ∃ d k bg ct, r.n = ⟨d, k, bg, ct⟩ := ⟨_, _, _, _, rfl⟩
 have ok := M.ok i i1 i2
 have ok3 := M.ok3 i i1 i2
 rw [hf.out] at ok ok3
 have SC := Lib.hid (fun W (E : ErrW W) A n c (S : Sb W A n c l) (hn2 : n ≤ 100000000) => scan_val W (Lib.hid E) A n c l S hn2 r j 0 hr.out (r.kind : Int) neg d k bg ct (j : Int) rfl hneg hn rfl)
 have CW := Lib.hid (fun W (v : Value) => pword_any W f ok ok3 r.kind hK neg v k bg ct p n e (hneg ▸ hq))
 have dK : ((r.kind : Int) != 1) = true := by rw [bne_iff_ne]; omega
 obtain ⟨K, hK'⟩ : ∃ K : Int, (r.kind : Int) = K := ⟨_, rfl⟩
 rw [hK'] at SC CW dK
 clear hK' hq hK ok ok3
 clear hf i1 i2 hneg hn
 have MD : (mode != 1) = false ∨ ((mode != 1) = true ∧ (mode != 2) = false) := by rcases m1.out with rfl | rfl <;> decide
 have U := Up.refl w
 go_enter Tryz.func31, Tryz.ntmps31
 go_wp2_with fail
 refine (CO.out _ L.out.form).mono ?_
 rintro _ W1 ⟨rfl, u1⟩
 replace U := U.trans u1
 clear u1
 go_wp2_with fail
 obtain ⟨V1, hV1⟩ : ∃ V1, W1.alloc (.cells #[.int .i64 f.k, .int .i64 f.W, .int .i64 f.m, .int .i64 f.b, .int .u64 f.t, .int .u64 f.n, .int .u64 f.x] 53) = V1 := ⟨_, rfl⟩
 have C : Bf V1 W1.heap.size 53 f := by rw [← hV1]; exact Bf.mk_ W1 f 53
 have u2 : Up W1 V1 := Up.al hV1
 rw [hV1]
 clear hV1
 replace U := U.trans u2
 clear u2
 refine (must_ok _ 0).mono ?_
 rintro _ _ ⟨rfl, rfl⟩
 obtain ⟨c, W2, hcv, S, u3⟩ := conv_str V1 s l hl.out (by omega)
 replace U := U.trans u3
 replace C := C.up u3
 have gC := C.lt
 obtain ⟨g, hg⟩ : ∃ g, V1.heap.size = g := ⟨_, rfl⟩
 rw [hg] at hcv S
 obtain ⟨n, hn⟩ : ∃ n, s.size = n := ⟨_, rfl⟩
 rw [hn] at hcv S hs
 have CS := Lib.hid (SC.out W2 (L.out.up U).er _ n c S (by omega))
 clear S hn hg u3 hl SC hr
 have back : ∀ Q : Prop, ((mode != 1) = false → Q) → ((mode != 1) = true → (mode != 2) = false → Q) → Q := fun Q a b => by rcases MD with e | ⟨e1, e2⟩; exact a e; exact b e1 e2
 clear MD
 refine back _ (fun m0 => ?_) (fun m0 m2 => ?_)
 all_goals clear back
 all_goals
  go_wp2_with fail
  refine CS.out.mono ?_
  rintro _ W3 ⟨A3, n3, c3, xs3, rfl, N3, v3, l3, w3, u3⟩
  have T3 := Lib.hid (wd_nt N3 v3 l3 w3)
  replace U := U.trans u3
  replace C := C.up u3
  clear N3 v3 l3 w3 u3 CS hcv
  go_wp2_with fail
  obtain ⟨V4, hV4⟩ : ∃ V4, W3.alloc (.cells #[.int .i64 K, .bool neg, .slice A3 n3 c3, .int .i64 k, .int .i64 bg, .bool ct] 117) = V4 := ⟨_, rfl⟩
  have R : Ob V4 W3.heap.size 117 #[.int .i64 K, .bool neg, .slice A3 n3 c3, .int .i64 k, .int .i64 bg, .bool ct] := by rw [← hV4]; exact Ob.mk_ _ _ _
  have u4 : Up W3 V4 := Up.al hV4
  rw [hV4]
  clear hV4
  replace U := U.trans u4
  replace C := C.up u4
  replace T3 := Lib.hid (T3.out.up u4)
  clear u4
  refine (must_ok _ _).mono ?_
  rintro _ _ ⟨rfl, rfl⟩
  obtain ⟨i0, i1, i2, i3, i4, i5⟩ := R.six
  obtain ⟨C0, C1, C2, C3, C4, C5, C6⟩ := Bf.cs C
  simp only [Nat.zero_add] at C0 C1 C2 C3 C4 C5 C6
  go_wp2_with fail
  refine (CW.out _ _).mono ?_
  clear i0 i1 i2 i3 i4 i5 C0 C1 C2 C3 C4 C5 C6 R C T3
  rintro _ W5 (⟨e0, rfl, u5⟩ | ⟨e0, rfl, u5⟩)
  ·replace U := U.trans u5
   clear u5
   go_wp2_with fail
   go_ret
   exact .inl ⟨e0, rfl, U⟩
  ·replace U := U.trans u5
   clear u5
   go_wp2_with fail
   exact ⟨rfl, .inr ⟨e0, rfl, U⟩⟩
set_option maxRecDepth 100000 in
theorem po_num (w : World) (L : Hid (Lp w)) (i : Nat) (f : M.Fm) (hf : Hid (M.tb i = f)) (i1 : 1 ≤ i) (i2 : i ≤ 14) (mode : Int) (m1 : Hid (mode = 1 ∨ mode = 2)) (s : ByteArray) (l : List UInt8) (hl : Hid (s.data.toList = l)) (hs : s.size ≤ 1000000) (r : M.It) (j : Nat) (hr : Hid (M.rs l = (r, j, 0))) (hK : r.kind = 1) (hb : r.n.d < 18446744073709551616 ^ 128 ∧ (-3000 ≤ r.n.k ∧ r.n.k ≤ 1000) ∧ (r.n.big = 0 ∨ r.n.big = 1 ∨ r.n.big = -1)) (p : Int) (hp : M.Rv f mode r.neg (M.szn r.n) p) : Calls Tryz.prog 31 #[.int .i64 (i : Int), .int .i64 mode, .string s] w (fun en w' => en = .returned (.int .u64 p) ∧ Up w w') := by
 have CO := Lib.hid (fun W (F : TabF W) => of_in W F i f hf i1 i2)
 obtain ⟨neg, hneg⟩ : ∃ neg, r.neg = neg := ⟨_, rfl⟩
 obtain ⟨d, k, bg, ct, hn⟩ : ∃ d k bg ct, r.n = ⟨d, k, bg, ct⟩ := ⟨_, _, _, _, rfl⟩
 have SC := Lib.hid (fun W (E : ErrW W) A n c (S : Sb W A n c l) (hn2 : n ≤ 100000000) => scan_val W (Lib.hid E) A n c l S hn2 r j 0 hr.out 1 neg d k bg ct (j : Int) (by rw [hK]; rfl) hneg hn rfl)
 have HB := Lib.hid hb
 have HP := Lib.hid hp
 rw [hn] at HB HP
 rw [hneg] at HP
 have CR := Lib.hid (fun W (T : Tz W) (F : TabF W) (lo : Nat) (v : Value) (a : Nat) (t : Int) (N : Nt W lo 2001 v a) (ha : a < 18446744073709551616 ^ 128) (ht : -5000 ≤ t ∧ t ≤ 5000) (hs : M.szn ⟨d, k, bg, ct⟩ = M.sz a t t) => rnd_round W (Lib.hid T) (Lib.hid F) (i : Int) mode lo 2001 neg v t t a N (by decide) ht ht ha p 0 (.inr ⟨i, rfl, i1, i2, .inr ⟨m1.out, by rw [hf.out, ← hs]; exact HP.out, rfl⟩⟩))
 clear hK hb hp HP
 clear hf i1 i2 hneg hn
 have MD : (mode != 1) = false ∨ ((mode != 1) = true ∧ (mode != 2) = false) := by rcases m1.out with rfl | rfl <;> decide
 have U := Up.refl w
 go_enter Tryz.func31, Tryz.ntmps31
 go_wp2_with fail
 refine (CO.out _ L.out.form).mono ?_
 rintro _ W1 ⟨rfl, u1⟩
 replace U := U.trans u1
 clear u1
 go_wp2_with fail
 obtain ⟨V1, hV1⟩ : ∃ V1, W1.alloc (.cells #[.int .i64 f.k, .int .i64 f.W, .int .i64 f.m, .int .i64 f.b, .int .u64 f.t, .int .u64 f.n, .int .u64 f.x] 53) = V1 := ⟨_, rfl⟩
 have C : Bf V1 W1.heap.size 53 f := by rw [← hV1]; exact Bf.mk_ W1 f 53
 have u2 : Up W1 V1 := Up.al hV1
 rw [hV1]
 clear hV1
 replace U := U.trans u2
 clear u2
 refine (must_ok _ 0).mono ?_
 rintro _ _ ⟨rfl, rfl⟩
 obtain ⟨c, W2, hcv, S, u3⟩ := conv_str V1 s l hl.out (by omega)
 replace U := U.trans u3
 replace C := C.up u3
 have gC := C.lt
 obtain ⟨g, hg⟩ : ∃ g, V1.heap.size = g := ⟨_, rfl⟩
 rw [hg] at hcv S
 obtain ⟨n, hn⟩ : ∃ n, s.size = n := ⟨_, rfl⟩
 rw [hn] at hcv S hs
 have CS := Lib.hid (SC.out W2 (L.out.up U).er _ n c S (by omega))
 clear S hn hg u3 hl SC hr
 have back : ∀ Q : Prop, ((mode != 1) = false → Q) → ((mode != 1) = true → (mode != 2) = false → Q) → Q := fun Q a b => by rcases MD with e | ⟨e1, e2⟩; exact a e; exact b e1 e2
 clear MD
 refine back _ (fun m0 => ?_) (fun m0 m2 => ?_)
 all_goals clear back
 all_goals
  go_wp2_with fail
  refine CS.out.mono ?_
  rintro _ W3 ⟨A3, n3, c3, xs3, rfl, N3, v3, l3, w3, u3⟩
  have T3 := Lib.hid (wd_nt N3 v3 l3 w3)
  replace U := U.trans u3
  replace C := C.up u3
  clear N3 v3 l3 w3 u3 CS hcv
  go_wp2_with fail
  obtain ⟨V4, hV4⟩ : ∃ V4, W3.alloc (.cells #[.int .i64 1, .bool neg, .slice A3 n3 c3, .int .i64 k, .int .i64 bg, .bool ct] 117) = V4 := ⟨_, rfl⟩
  have R : Ob V4 W3.heap.size 117 #[.int .i64 1, .bool neg, .slice A3 n3 c3, .int .i64 k, .int .i64 bg, .bool ct] := by rw [← hV4]; exact Ob.mk_ _ _ _
  have u4 : Up W3 V4 := Up.al hV4
  rw [hV4]
  clear hV4
  replace U := U.trans u4
  replace C := C.up u4
  replace T3 := Lib.hid (T3.out.up u4)
  clear u4
  refine (must_ok _ _).mono ?_
  rintro _ _ ⟨rfl, rfl⟩
  obtain ⟨i0, i1, i2, i3, i4, i5⟩ := R.six
  obtain ⟨a, t, hsz, ha, ht, CN⟩ := numberOf_any V4 1 neg (.slice A3 n3 c3) _ ⟨d, k, bg, ct⟩ ct T3.out HB.out.1 HB.out.2.1 HB.out.2.2
  have CN := Lib.hid CN
  have HSZ := Lib.hid hsz
  have HA := Lib.hid ha
  have HT := Lib.hid ht
  clear hsz ha ht T3 HB
  go_wp2_with fail
  refine CN.out.mono ?_
  rintro _ W5 ⟨v5, rfl, N5, u5⟩
  replace U := U.trans u5
  clear u5 i0 i1 i2 i3 i4 i5 R C
  go_wp2_with fail
  refine (CR.out W5 (L.out.up U).low (L.out.up U).form _ _ a t N5 HA.out HT.out HSZ.out).mono ?_
  rintro _ W6 ⟨rfl, u6⟩
  replace U := U.trans u6
  clear u6 N5 CN CR
  go_wp2_with fail
  refine (must_ok _ _).mono ?_
  rintro _ _ ⟨rfl, rfl⟩
  go_wp2_with fail
  go_ret
  exact ⟨rfl, U⟩
theorem patternOf_any (w : World) (L : Hid (Lp w)) (ii mode : Int) (s : ByteArray) (l : List UInt8) (hl : Hid (s.data.toList = l)) (hs : s.size ≤ 1000000) (p : Int) (n : Nat) (e : Int) (h : M.Jc ii mode l p n e) :
  Calls Tryz.prog 31 #[.int .i64 ii, .int .i64 mode, .string s] w (Pto p n e w) := by
 have nb : ∀ {x y : Int}, x ≠ y → (x != y) = true := fun h => by simpa using h
 rcases h with ⟨a, rfl, rfl, rfl⟩ | ⟨i, rfl, a, b, ⟨d, rfl, rfl, rfl⟩ | ⟨d, r, j, er, hr, g⟩⟩
 ·exact (po_form w ii mode s a).mono fun _ _ g => .inr ⟨by decide, g⟩
 ·exact (po_mode w (Lib.hid L.out.form) i _ (Lib.hid rfl) a b mode s (nb fun e => d (.inl e)) (nb fun e => d (.inr e))).mono fun _ _ g => .inr ⟨by decide, g⟩
 ·rcases g with ⟨g0, rfl, rfl, rfl⟩ | ⟨rfl, ⟨k1, g⟩ | ⟨k1, g, rfl, rfl⟩⟩
  ·rcases M.rs_cases hr with ⟨rfl, _⟩ | ⟨e0, _⟩
   ·exact (po_scan w L i _ (Lib.hid rfl) a b mode (Lib.hid d) s l hl hs r n (Lib.hid hr)).mono fun _ _ g => .inr ⟨by decide, g⟩
   ·exact absurd e0 g0
  ·have hk : 2 ≤ r.kind ∧ r.kind ≤ 4 := by
    rcases M.rs_cases hr with ⟨e0, _⟩ | ⟨_, _, x, hx, rfl⟩
    ·exact absurd e0 (by decide)
    ·rcases (M.itm_bounds l x hx).2 with ⟨h1, h2, _⟩ | ⟨h1, _⟩ <;> omega
   exact po_word w L i _ (Lib.hid rfl) a b mode (Lib.hid d) s l hl hs r j (Lib.hid hr) hk p n e g
  ·exact (po_num w L i _ (Lib.hid rfl) a b mode (Lib.hid d) s l hl hs r j (Lib.hid hr) k1 (M.itm_num hr k1) p g).mono fun _ _ g => .inl ⟨rfl, g⟩
end Go.Proofs.YtcmlanfgafancaaGreatDoor
namespace Go.Proofs.YtcmlanfgafancaaGreatDoor
open Go.RowKit Go.Shelf
section
variable {P : Program} {ops : Array Oper} {Q : Exit → Act → List Frame → World → Prop} {i : Nat} {rest : List Nat} {a : Act} {cs cs' : List Frame} {w w' : World} {o : Oper} {v : Value}
structure Ws (P : Program) (ops : Array Oper) (Q : Exit → Act → List Frame → World → Prop) (l : List Nat) (a : Act) (cs : List Frame) (w : World) : Prop where
 out : wpOpsS P ops Q l a cs w
theorem Ws.nil (h : Q .normal a cs w) : Ws P ops Q [] a cs w := ⟨h⟩
theorem recS_val (ho : ops[i]? = some o) (hg : o.guard = none) (hr : (execOp a.eval o).run P w = .ok (.value v) w') {a' : Act} (ha : a.put o.dst v = a') (h : Ws P ops Q rest a' cs w') : Ws P ops Q (i :: rest) a cs w := by
 subst ha
 refine ⟨?_⟩
 unfold wpOpsS
 simp only [ho]
 rw [if_pos (by simp [Region.wanted, hg]), hr]
 exact h.out
theorem recS_skip (ho : ops[i]? = some o) (hg : o.guard = none) (hr : (execOp a.eval o).run P w = .ok .skip w') {a' : Act} (ha : a.put o.dst undef = a') (h : Ws P ops Q rest a' cs w') : Ws P ops Q (i :: rest) a cs w := by
 subst ha
 refine ⟨?_⟩
 unfold wpOpsS
 simp only [ho]
 rw [if_pos (by simp [Region.wanted, hg]), hr]
 exact h.out
theorem recS_none (ho : ops[i]? = some o) (hg : o.guard = none) (hr : (execOp a.eval o).run P w = .ok .recover w') (hc : recoverD cs = none) {a' : Act} (ha : a.put o.dst .nilIface = a') (h : Ws P ops Q rest a' cs w') : Ws P ops Q (i :: rest) a cs w := by
 subst ha
 refine ⟨?_⟩
 unfold wpOpsS
 simp only [ho]
 rw [if_pos (by simp [Region.wanted, hg]), hr]
 simp only [hc]
 exact h.out
theorem recS_some (ho : ops[i]? = some o) (hg : o.guard = none) (hr : (execOp a.eval o).run P w = .ok .recover w') (hc : recoverD cs = some (v, cs')) {a' : Act} (ha : a.put o.dst v = a') (h : Ws P ops Q rest a' cs' w') : Ws P ops Q (i :: rest) a cs w := by
 subst ha
 refine ⟨?_⟩
 unfold wpOpsS
 simp only [ho]
 rw [if_pos (by simp [Region.wanted, hg]), hr]
 simp only [hc]
 exact h.out
end
theorem recoverD_one (c₀ : Frame) (cs : List Frame) (x : Value) (h : c₀.mode = .panicking [{ v := x, recovered := false }]) : recoverD (c₀ :: cs) = some (x, { c₀ with mode := .panicking [{ v := x, recovered := true }] } :: cs) := by
 cases c₀
 simp only at h
 subst h
 rfl
theorem World.lt_of_cell {w : World} {p : Nat} {v : Value} (h : w.cell? ⟨p, 0, none⟩ = some v) : p < w.heap.size := by
 rcases Nat.lt_or_ge p w.heap.size with h1 | h1
 ·exact h1
 ·exfalso
  have : w.heap[p]? = none := Array.getElem?_eq_none h1
  simp [World.cell?, this] at h
theorem other_cell (w : World) {b c j : Nat} (h : b ≠ c) (v : Value) : (w.setCell ⟨b, 0, none⟩ v).cell? ⟨c, j, none⟩ = w.cell? ⟨c, j, none⟩ := by
 simp [go_sem, h, h.symm]
theorem two_cells (w : World) (er n : Int) : Up w (((w.alloc (.cells #[.int .i64 0, .int .i64 0] 59)).setCell ⟨w.heap.size, 0, none⟩ (.int .i64 er)).setCell ⟨w.heap.size, 1, none⟩ (.int .i64 n)) ∧
  (((w.alloc (.cells #[.int .i64 0, .int .i64 0] 59)).setCell ⟨w.heap.size, 0, none⟩ (.int .i64 er)).setCell ⟨w.heap.size, 1, none⟩ (.int .i64 n)).cell? ⟨w.heap.size, 0, none⟩ = some (.int .i64 er) ∧
  (((w.alloc (.cells #[.int .i64 0, .int .i64 0] 59)).setCell ⟨w.heap.size, 0, none⟩ (.int .i64 er)).setCell ⟨w.heap.size, 1, none⟩ (.int .i64 n)).cell? ⟨w.heap.size, 1, none⟩ = some (.int .i64 n) :=
 ⟨(((Up.refl w).alloc _).setCell (p := ⟨w.heap.size, 0, none⟩) (Nat.le_refl _) _).setCell (p := ⟨w.heap.size, 1, none⟩) (Nat.le_refl _) _, by simp [go_sem], by simp [go_sem]⟩
set_option maxRecDepth 100000 in
theorem rec_idle (p q : Nat) (w : World) :
  CallsD Tryz.prog 30 #[.pointer (some ⟨p, 0, none⟩), .pointer (some ⟨q, 0, none⟩)] .returning w fun e u' w' => e = .returned (.tuple #[]) ∧ u' = .returning ∧ Up w w' := by
 have hta : ∀ w : World, (Instr.typeAssert .nilIface 20 59 true).run Tryz.prog w = .ok (.tuple #[.agg #[.int .i64 0, .int .i64 0], .bool false]) w := fun _ => by kernel_rfl
 refine callsD_of_wpS Tryz.func30 rfl fun c₀ cs hu => ?_
 apply wpS_seq
 apply wpS_region
 refine Ws.out (l := [0, 1, 2, 3, 4, 5, 6, 7]) ?_
 refine recS_none (w' := w) (a' := ⟨#[.pointer (some ⟨p, 0, none⟩), .pointer (some ⟨q, 0, none⟩), undef, undef, undef, .nilIface, undef, undef, undef, undef, undef, undef, undef, undef], []⟩) rfl rfl (by simp [go_sem]) (by simp [recoverD, hu]) (by kernel_rfl) ?_
 refine recS_val (v := (.tuple #[.agg #[.int .i64 0, .int .i64 0], .bool false])) (w' := w) (a' := ⟨#[.pointer (some ⟨p, 0, none⟩), .pointer (some ⟨q, 0, none⟩), undef, undef, undef, .nilIface, (.tuple #[.agg #[.int .i64 0, .int .i64 0], .bool false]), undef, undef, undef, undef, undef, undef, undef], []⟩) rfl rfl (by kernel_rfl) (by kernel_rfl) ?_
 refine recS_val (v := (.tuple #[.agg #[.int .i64 0, .int .i64 0], .bool false])) (w' := w) (a' := ⟨#[.pointer (some ⟨p, 0, none⟩), .pointer (some ⟨q, 0, none⟩), undef, undef, (.tuple #[.agg #[.int .i64 0, .int .i64 0], .bool false]), .nilIface, (.tuple #[.agg #[.int .i64 0, .int .i64 0], .bool false]), undef, undef, undef, undef, undef, undef, undef], []⟩) rfl rfl (by kernel_rfl) (by kernel_rfl) ?_
 refine recS_val (v := (.agg #[.int .i64 0, .int .i64 0])) (w' := w) (a' := ⟨#[.pointer (some ⟨p, 0, none⟩), .pointer (some ⟨q, 0, none⟩), undef, undef, (.tuple #[.agg #[.int .i64 0, .int .i64 0], .bool false]), .nilIface, (.tuple #[.agg #[.int .i64 0, .int .i64 0], .bool false]), (.agg #[.int .i64 0, .int .i64 0]), undef, undef, undef, undef, undef, undef], []⟩) rfl rfl (by kernel_rfl) (by kernel_rfl) ?_
 refine recS_val (v := (.bool false)) (w' := w) (a' := ⟨#[.pointer (some ⟨p, 0, none⟩), .pointer (some ⟨q, 0, none⟩), undef, undef, (.tuple #[.agg #[.int .i64 0, .int .i64 0], .bool false]), .nilIface, (.tuple #[.agg #[.int .i64 0, .int .i64 0], .bool false]), (.agg #[.int .i64 0, .int .i64 0]), (.bool false), undef, undef, undef, undef, undef], []⟩) rfl rfl (by kernel_rfl) (by kernel_rfl) ?_
 refine recS_val (v := (.pointer (some ⟨w.heap.size, 0, none⟩))) (w' := (w.alloc (.cells #[.int .i64 0, .int .i64 0] 59))) (a' := ⟨#[.pointer (some ⟨p, 0, none⟩), .pointer (some ⟨q, 0, none⟩), (.pointer (some ⟨w.heap.size, 0, none⟩)), undef, (.tuple #[.agg #[.int .i64 0, .int .i64 0], .bool false]), .nilIface, (.tuple #[.agg #[.int .i64 0, .int .i64 0], .bool false]), (.agg #[.int .i64 0, .int .i64 0]), (.bool false), undef, undef, undef, undef, undef], []⟩) rfl rfl (by kernel_rfl) (by kernel_rfl) ?_
 refine recS_skip (w' := (((w.alloc (.cells #[.int .i64 0, .int .i64 0] 59)).setCell ⟨w.heap.size, 0, none⟩ (.int .i64 0)).setCell ⟨w.heap.size, 1, none⟩ (.int .i64 0))) (a' := ⟨#[.pointer (some ⟨p, 0, none⟩), .pointer (some ⟨q, 0, none⟩), (.pointer (some ⟨w.heap.size, 0, none⟩)), undef, (.tuple #[.agg #[.int .i64 0, .int .i64 0], .bool false]), .nilIface, (.tuple #[.agg #[.int .i64 0, .int .i64 0], .bool false]), (.agg #[.int .i64 0, .int .i64 0]), (.bool false), undef, undef, undef, undef, undef], []⟩) rfl rfl (by simp [go_sem]) (by kernel_rfl) ?_
 refine recS_val (v := (.bool false)) (w' := (((w.alloc (.cells #[.int .i64 0, .int .i64 0] 59)).setCell ⟨w.heap.size, 0, none⟩ (.int .i64 0)).setCell ⟨w.heap.size, 1, none⟩ (.int .i64 0))) (a' := ⟨#[.pointer (some ⟨p, 0, none⟩), .pointer (some ⟨q, 0, none⟩), (.pointer (some ⟨w.heap.size, 0, none⟩)), (.bool false), (.tuple #[.agg #[.int .i64 0, .int .i64 0], .bool false]), .nilIface, (.tuple #[.agg #[.int .i64 0, .int .i64 0], .bool false]), (.agg #[.int .i64 0, .int .i64 0]), (.bool false), undef, undef, undef, undef, undef], []⟩) rfl rfl (by kernel_rfl) (by kernel_rfl) ?_
 have U : Up w (((w.alloc (.cells #[.int .i64 0, .int .i64 0] 59)).setCell ⟨w.heap.size, 0, none⟩ (.int .i64 0)).setCell ⟨w.heap.size, 1, none⟩ (.int .i64 0)) := (((Up.refl w).alloc _).setCell (p := ⟨w.heap.size, 0, none⟩) (Nat.le_refl _) _).setCell (p := ⟨w.heap.size, 1, none⟩) (Nat.le_refl _) _
 refine Ws.nil ?_
 show Code.wpS _ _ _ _ _ _
 refine wpS_of_wp ?_
 go_wp2_with fail
 cases c₀
 simp_all [bodyPostS, results, Tryz.results30]
set_option maxRecDepth 100000 in
theorem rec_fault (p q : Nat) (x y : Value) (er n : Int) (w0 w : World) (U : Up w0 w) (hp : w0.heap.size ≤ p) (hq : w0.heap.size ≤ q) (hne : p ≠ q) (cp : w.cell? ⟨p, 0, none⟩ = some x) (fp : w.frozen? ⟨p, 0, none⟩ = false) (cq : w.cell? ⟨q, 0, none⟩ = some y) (fq : w.frozen? ⟨q, 0, none⟩ = false) :
  CallsD Tryz.prog 30 #[.pointer (some ⟨p, 0, none⟩), .pointer (some ⟨q, 0, none⟩)] (.panicking [{ v := .iface 59 (.agg #[.int .i64 er, .int .i64 n]), recovered := false }]) w fun e u' w' => e = .returned (.tuple #[]) ∧ u' = .panicking [{ v := .iface 59 (.agg #[.int .i64 er, .int .i64 n]), recovered := true }] ∧ Up w0 w' ∧ w'.cell? ⟨p, 0, none⟩ = some (.int .i64 n) ∧ w'.cell? ⟨q, 0, none⟩ = some (.int .i64 er) := by
 have hta : ∀ w : World, (Instr.typeAssert (.iface 59 (.agg #[.int .i64 er, .int .i64 n])) 20 59 true).run Tryz.prog w = .ok (.tuple #[.agg #[.int .i64 er, .int .i64 n], .bool true]) w := fun _ => by kernel_rfl
 refine callsD_of_wpS Tryz.func30 rfl fun c₀ cs hu => ?_
 apply wpS_seq
 apply wpS_region
 refine Ws.out (l := [0, 1, 2, 3, 4, 5, 6, 7]) ?_
 refine recS_some (v := (.iface 59 (.agg #[.int .i64 er, .int .i64 n]))) (w' := w) (cs' := { c₀ with mode := .panicking [{ v := (.iface 59 (.agg #[.int .i64 er, .int .i64 n])), recovered := true }] } :: cs) (a' := ⟨#[.pointer (some ⟨p, 0, none⟩), .pointer (some ⟨q, 0, none⟩), undef, undef, undef, (.iface 59 (.agg #[.int .i64 er, .int .i64 n])), undef, undef, undef, undef, undef, undef, undef, undef], []⟩) rfl rfl (by simp [go_sem]) (recoverD_one c₀ cs _ hu) (by kernel_rfl) ?_
 refine recS_val (v := (.tuple #[.agg #[.int .i64 er, .int .i64 n], .bool true])) (w' := w) (a' := ⟨#[.pointer (some ⟨p, 0, none⟩), .pointer (some ⟨q, 0, none⟩), undef, undef, undef, (.iface 59 (.agg #[.int .i64 er, .int .i64 n])), (.tuple #[.agg #[.int .i64 er, .int .i64 n], .bool true]), undef, undef, undef, undef, undef, undef, undef], []⟩) rfl rfl (by kernel_rfl) (by kernel_rfl) ?_
 refine recS_val (v := (.tuple #[.agg #[.int .i64 er, .int .i64 n], .bool true])) (w' := w) (a' := ⟨#[.pointer (some ⟨p, 0, none⟩), .pointer (some ⟨q, 0, none⟩), undef, undef, (.tuple #[.agg #[.int .i64 er, .int .i64 n], .bool true]), (.iface 59 (.agg #[.int .i64 er, .int .i64 n])), (.tuple #[.agg #[.int .i64 er, .int .i64 n], .bool true]), undef, undef, undef, undef, undef, undef, undef], []⟩) rfl rfl (by kernel_rfl) (by kernel_rfl) ?_
 refine recS_val (v := (.agg #[.int .i64 er, .int .i64 n])) (w' := w) (a' := ⟨#[.pointer (some ⟨p, 0, none⟩), .pointer (some ⟨q, 0, none⟩), undef, undef, (.tuple #[.agg #[.int .i64 er, .int .i64 n], .bool true]), (.iface 59 (.agg #[.int .i64 er, .int .i64 n])), (.tuple #[.agg #[.int .i64 er, .int .i64 n], .bool true]), (.agg #[.int .i64 er, .int .i64 n]), undef, undef, undef, undef, undef, undef], []⟩) rfl rfl (by kernel_rfl) (by kernel_rfl) ?_
 refine recS_val (v := (.bool true)) (w' := w) (a' := ⟨#[.pointer (some ⟨p, 0, none⟩), .pointer (some ⟨q, 0, none⟩), undef, undef, (.tuple #[.agg #[.int .i64 er, .int .i64 n], .bool true]), (.iface 59 (.agg #[.int .i64 er, .int .i64 n])), (.tuple #[.agg #[.int .i64 er, .int .i64 n], .bool true]), (.agg #[.int .i64 er, .int .i64 n]), (.bool true), undef, undef, undef, undef, undef], []⟩) rfl rfl (by kernel_rfl) (by kernel_rfl) ?_
 refine recS_val (v := (.pointer (some ⟨w.heap.size, 0, none⟩))) (w' := (w.alloc (.cells #[.int .i64 0, .int .i64 0] 59))) (a' := ⟨#[.pointer (some ⟨p, 0, none⟩), .pointer (some ⟨q, 0, none⟩), (.pointer (some ⟨w.heap.size, 0, none⟩)), undef, (.tuple #[.agg #[.int .i64 er, .int .i64 n], .bool true]), (.iface 59 (.agg #[.int .i64 er, .int .i64 n])), (.tuple #[.agg #[.int .i64 er, .int .i64 n], .bool true]), (.agg #[.int .i64 er, .int .i64 n]), (.bool true), undef, undef, undef, undef, undef], []⟩) rfl rfl (by kernel_rfl) (by kernel_rfl) ?_
 refine recS_skip (w' := (((w.alloc (.cells #[.int .i64 0, .int .i64 0] 59)).setCell ⟨w.heap.size, 0, none⟩ (.int .i64 er)).setCell ⟨w.heap.size, 1, none⟩ (.int .i64 n))) (a' := ⟨#[.pointer (some ⟨p, 0, none⟩), .pointer (some ⟨q, 0, none⟩), (.pointer (some ⟨w.heap.size, 0, none⟩)), undef, (.tuple #[.agg #[.int .i64 er, .int .i64 n], .bool true]), (.iface 59 (.agg #[.int .i64 er, .int .i64 n])), (.tuple #[.agg #[.int .i64 er, .int .i64 n], .bool true]), (.agg #[.int .i64 er, .int .i64 n]), (.bool true), undef, undef, undef, undef, undef], []⟩) rfl rfl (by simp [go_sem]) (by kernel_rfl) ?_
 refine recS_val (v := (.bool true)) (w' := (((w.alloc (.cells #[.int .i64 0, .int .i64 0] 59)).setCell ⟨w.heap.size, 0, none⟩ (.int .i64 er)).setCell ⟨w.heap.size, 1, none⟩ (.int .i64 n))) (a' := ⟨#[.pointer (some ⟨p, 0, none⟩), .pointer (some ⟨q, 0, none⟩), (.pointer (some ⟨w.heap.size, 0, none⟩)), (.bool true), (.tuple #[.agg #[.int .i64 er, .int .i64 n], .bool true]), (.iface 59 (.agg #[.int .i64 er, .int .i64 n])), (.tuple #[.agg #[.int .i64 er, .int .i64 n], .bool true]), (.agg #[.int .i64 er, .int .i64 n]), (.bool true), undef, undef, undef, undef, undef], []⟩) rfl rfl (by kernel_rfl) (by kernel_rfl) ?_
 refine Ws.nil ?_
 show Code.wpS _ _ _ _ _ _
 refine wpS_of_wp ?_
 have hps : p < w.heap.size := World.lt_of_cell cp
 have hqs : q < w.heap.size := World.lt_of_cell cq
 obtain ⟨g, hg⟩ : ∃ g, w.heap.size = g := ⟨_, rfl⟩
 have V := two_cells w er n
 have uV := V.1
 obtain ⟨g0, g1⟩ := V.2
 clear V
 rw [hg] at g0 g1 uV ⊢
 obtain ⟨V, hV⟩ : ∃ V, (((w.alloc (.cells #[.int .i64 0, .int .i64 0] 59)).setCell ⟨g, 0, none⟩ (.int .i64 er)).setCell ⟨g, 1, none⟩ (.int .i64 n)) = V := ⟨_, rfl⟩
 rw [hV] at g0 g1 uV ⊢
 clear hV
 have hpg : p ≠ g := by omega
 have hqg : q ≠ g := by omega
 have cp1 := (Below.cell (p := ⟨p, 0, none⟩) uV hps).trans cp
 have fp1 := (Below.frozen (p := ⟨p, 0, none⟩) uV hps).trans fp
 have cq1 := (Below.cell (p := ⟨q, 0, none⟩) uV hqs).trans cq
 have fq1 := (Below.frozen (p := ⟨q, 0, none⟩) uV hqs).trans fq
 have U1 := U.trans uV
 clear cp fp cq fq U uV hta hg hps hqs
 have a1 : ∀ v, (V.drew.setCell ⟨p, 0, none⟩ v).cell? ⟨g, 0, none⟩ = some (.int .i64 er) := fun v => (other_cell _ hpg v).trans g0
 have a2 : ∀ v, (V.drew.setCell ⟨p, 0, none⟩ v).cell? ⟨q, 0, none⟩ = some y := fun v => (other_cell _ hne v).trans cq1
 have a3 : ∀ v, (V.drew.setCell ⟨q, 0, none⟩ v).cell? ⟨g, 1, none⟩ = some (.int .i64 n) := fun v => (other_cell _ hqg v).trans g1
 have a4 : ∀ v, (V.drew.setCell ⟨q, 0, none⟩ v).cell? ⟨p, 0, none⟩ = some x := fun v => (other_cell _ hne.symm v).trans cp1
 have a5 : ∀ v, (V.drew.setCell ⟨q, 0, none⟩ v).cell? ⟨g, 0, none⟩ = some (.int .i64 er) := fun v => (other_cell _ hqg v).trans g0
 have a6 : ∀ v, (V.drew.setCell ⟨p, 0, none⟩ v).cell? ⟨g, 1, none⟩ = some (.int .i64 n) := fun v => (other_cell _ hpg v).trans g1
 go_wp2_with fail
 go_region
 all_goals
  go_wp2_with fail
  refine ⟨rfl, _, rfl, .tuple #[], by simp [results, Tryz.results30, go_sem], rfl, rfl, ?_, ?_, ?_⟩
  ·first
    | exact (U1.drew.setCell (p := ⟨p, 0, none⟩) hp _).setCell (p := ⟨q, 0, none⟩) hq _
    | exact (U1.drew.setCell (p := ⟨q, 0, none⟩) hq _).setCell (p := ⟨p, 0, none⟩) hp _
  ·simp [go_sem, cp1, cq1, hne, hne.symm]
  ·simp [go_sem, cp1, cq1, hne, hne.symm]
def Pn (p : Int) (n : Nat) (e : Int) (w : World) (en : Ending) (w' : World) : Prop := en = .returned (.tuple #[.int .u64 p, .int .i64 (n : Int), .int .i64 e]) ∧ Up w w'
structure Cp (w V : World) (x : Int) : Prop where
 up : Up w V
 lt : w.heap.size + 1 < V.heap.size
 c0 : V.cell? ⟨w.heap.size, 0, none⟩ = some (.int .i64 0)
 f0 : V.frozen? ⟨w.heap.size, 0, none⟩ = false
 c1 : V.cell? ⟨w.heap.size + 1, 0, none⟩ = some (.int .i64 x)
 f1 : V.frozen? ⟨w.heap.size + 1, 0, none⟩ = false
theorem Cp.mk_ (w : World) (x : Int) (t t' : TypeId) : Cp w ((w.alloc (.cells #[.int .i64 0] t)).alloc (.cells #[.int .i64 x] t')) x where
 up := ((Up.refl w).alloc _).alloc _
 lt := by simp
 c0 := by simp [go_sem]
 f0 := by simp [go_sem]
 c1 := by simp [go_sem]
 f1 := by simp [go_sem]
set_option maxRecDepth 100000 in
theorem jparse_any (w : World) (L : Hid (Lp w)) (ii mode : Int) (s : ByteArray) (l : List UInt8) (hl : Hid (s.data.toList = l)) (hs : s.size ≤ 1000000) (p : Int) (n : Nat) (e : Int) (h : M.Jc ii mode l p n e) :
  Calls Tryz.prog 14 #[.int .i64 ii, .int .i64 mode, .string s] w (Pn p n e w) := by
 have CP := Lib.hid (fun W (U : Up w W) => patternOf_any W (Lib.hid (L.out.up U)) ii mode s l hl hs p n e h)
 have h0 : Hid (e = 0 → n = 0) := fun e0 => by
  rcases M.jc_fits h with ⟨a, _⟩ | ⟨_, a, _⟩
  ·exact absurd e0 a
  ·exact a
 have h1 : Hid (e ≠ 0 → p = 0) := fun e0 => by
  rcases M.jc_fits h with ⟨_, a, _⟩ | ⟨a, _⟩
  ·exact a
  ·exact absurd a e0
 clear h hl hs
 have hmf : ∀ (fn : Go.Fn) (first cap : Array Value) (w : World), (Instr.makeFunc fn first cap).run Tryz.prog w = .ok (.func fn first cap) w := fun _ _ _ _ => rfl
 go_enter_defers Tryz.func14, Tryz.ntmps14
 go_wp2_with fail
 obtain ⟨V, hV⟩ : ∃ V, (w.alloc (.cells #[.int .i64 0] 3)).alloc (.cells #[.int .i64 1] 24) = V := ⟨_, rfl⟩
 have cv : Cp w V 1 := by rw [← hV]; exact Cp.mk_ _ _ _ _
 rw [hV]
 clear hV
 refine (CP.out V cv.up).mono ?_
 clear CP
 rintro _ W1 (⟨e0, rfl, u1⟩ | ⟨e0, rfl, u1⟩)
 ·have U := cv.up.trans u1
  have c0 := (Below.cell (p := ⟨w.heap.size, 0, none⟩) u1 (Nat.lt_of_succ_lt cv.lt)).trans cv.c0
  have f0 := (Below.frozen (p := ⟨w.heap.size, 0, none⟩) u1 (Nat.lt_of_succ_lt cv.lt)).trans cv.f0
  have c1 := (Below.cell (p := ⟨w.heap.size + 1, 0, none⟩) u1 cv.lt).trans cv.c1
  have f1 := (Below.frozen (p := ⟨w.heap.size + 1, 0, none⟩) u1 cv.lt).trans cv.f1
  go_wp2_with fail
  have k1 : ((W1.setCell ⟨w.heap.size, 0, none⟩ (.int .i64 0)).setCell ⟨w.heap.size + 1, 0, none⟩ (.int .i64 0)).cell? ⟨w.heap.size, 0, none⟩ = some (.int .i64 0) := (other_cell _ (by omega) _).trans (by simp [go_sem, c0])
  have k2 : ((W1.setCell ⟨w.heap.size, 0, none⟩ (.int .i64 0)).setCell ⟨w.heap.size + 1, 0, none⟩ (.int .i64 0)).cell? ⟨w.heap.size + 1, 0, none⟩ = some (.int .i64 0) := by
   have : (W1.setCell ⟨w.heap.size, 0, none⟩ (.int .i64 0)).cell? ⟨w.heap.size + 1, 0, none⟩ = some (.int .i64 1) := (other_cell _ (by omega) _).trans c1
   simp [go_sem, this]
  have hz : w.heap.size + 1 < ((W1.setCell ⟨w.heap.size, 0, none⟩ (.int .i64 0)).setCell ⟨w.heap.size + 1, 0, none⟩ (.int .i64 0)).heap.size := World.lt_of_cell k2
  have U2 : Up w ((W1.setCell ⟨w.heap.size, 0, none⟩ (.int .i64 0)).setCell ⟨w.heap.size + 1, 0, none⟩ (.int .i64 0)) := (U.setCell (p := ⟨w.heap.size, 0, none⟩) (Nat.le_refl _) _).setCell (p := ⟨w.heap.size + 1, 0, none⟩) (Nat.le_succ _) _
  refine leaves_cons (f := 30) (args := #[.pointer (some ⟨w.heap.size, 0, none⟩), .pointer (some ⟨w.heap.size + 1, 0, none⟩)]) (by simp) (by simp [go_sem]) ?_
  refine (rec_idle _ _ _).mono ?_
  rintro en u' w2 ⟨rfl, rfl, u2⟩
  replace k1 := (Below.cell (p := ⟨w.heap.size, 0, none⟩) u2 (Nat.lt_of_succ_lt hz)).trans k1
  replace k2 := (Below.cell (p := ⟨w.heap.size + 1, 0, none⟩) u2 hz).trans k2
  have hn := h0.out e0
  subst hn e0
  simp [Leaves, settle, results, Tryz.results14, go_sem, k1, k2]
  exact ⟨rfl, U2.trans u2⟩
 ·have U := cv.up.trans u1
  have c0 := (Below.cell (p := ⟨w.heap.size, 0, none⟩) u1 (Nat.lt_of_succ_lt cv.lt)).trans cv.c0
  have f0 := (Below.frozen (p := ⟨w.heap.size, 0, none⟩) u1 (Nat.lt_of_succ_lt cv.lt)).trans cv.f0
  have c1 := (Below.cell (p := ⟨w.heap.size + 1, 0, none⟩) u1 cv.lt).trans cv.c1
  have f1 := (Below.frozen (p := ⟨w.heap.size + 1, 0, none⟩) u1 cv.lt).trans cv.f1
  go_wp2_with fail
  refine leaves_cons (f := 30) (args := #[.pointer (some ⟨w.heap.size, 0, none⟩), .pointer (some ⟨w.heap.size + 1, 0, none⟩)]) (by simp) (by simp [go_sem]) ?_
  refine (rec_fault _ _ _ _ e n w W1 U (Nat.le_refl _) (Nat.le_succ _) (by omega) c0 f0 c1 f1).mono ?_
  rintro en u' w2 ⟨rfl, rfl, u2, k1, k2⟩
  have hp := h1.out e0
  subst hp
  simp [Leaves, settle, results, Tryz.results14, go_sem, k1, k2]
  exact ⟨rfl, u2⟩
end Go.Proofs.YtcmlanfgafancaaGreatDoor
