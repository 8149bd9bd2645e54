/-
  Package parse: what is wrong is panicked with; where a word begins; the number of an item; what a form has for a word.
-/
import Derived.Test.YtbbjlcgfaigmdaaGreatDoorUJn
import Derived.Test.YtbbjlcgfaigmdaaGreatDoorUSva
namespace Go.Proofs.YtbbjlcgfaigmdaaGreatDoor
open Go.RowKit Go.Shelf
set_option linter.unusedSimpArgs false
set_option linter.unusedVariables false

/-- The tables of ten's powers, of lowest bits, of forms; the error. -/
structure Lp (W : World) : Prop where
  ten : TabW W
  er : ErrW W
  low : Tz W
  form : TabF W
theorem Lp.up {w w' : World} (h : Lp w) (U : Up w w') : Lp w' := ⟨h.ten.up U, h.er.up U, h.low.up U, h.form.up U⟩
/-- What is panicked with: an error and a place. -/
def Pnf (er n : Int) (w : World) (e : Ending) (w' : World) : Prop := e = .panicked [{ v := .iface 68 (.agg #[.int .i64 er, .int .i64 n]), recovered := false }] ∧ Up w w'
theorem must_ok (w : World) (n : Int) : Calls Tryz.prog 59 #[.int .i64 0, .int .i64 n] w (fun e w' => e = .returned (.tuple #[]) ∧ w = w') := by
  go_enter Tryz.func59, Tryz.ntmps59
  go_wp2_with fail
  go_end0
  exact ⟨rfl, rfl⟩
theorem must_bad (w : World) (er n : Int) (h : er ≠ 0) : Calls Tryz.prog 59 #[.int .i64 er, .int .i64 n] w (Pnf er n w) := by
  have d : (er != 0) = true := by simpa using h
  go_enter Tryz.func59, Tryz.ntmps59
  go_wp2_with fail
  exact ⟨rfl, rfl, Up.refl _⟩

set_option maxHeartbeats 1000000 in
theorem start_true (w : World) (K : Int) (v : Value) (k bg : Int) (ct : Bool) : Calls Tryz.prog 95 #[itv K true v k bg ct] w (fun e w' => e = .returned (.int .i64 1) ∧ Up w w') := by
  have U := Up.refl w
  go_enter Tryz.func95, Tryz.ntmps95
  go_upto_region 1 with fail
  obtain ⟨V1, hV1⟩ : ∃ V1, w.alloc (.cells #[.int .i64 K, .bool true, v, .int .i64 k, .int .i64 bg, .bool ct] 49) = V1 := ⟨_, rfl⟩
  have R : Ob V1 w.heap.size 49 #[.int .i64 K, .bool true, v, .int .i64 k, .int .i64 bg, .bool ct] := by rw [← hV1]; exact Ob.mk_ _ _ _
  replace U : Up w V1 := by rw [← hV1]; exact U.alloc _
  rw [hV1]
  clear hV1
  obtain ⟨i0, i1, i2, i3, i4, i5⟩ := R.six
  go_wp2_with fail
  go_ret
  exact ⟨rfl, U⟩
set_option maxHeartbeats 1000000 in
theorem start_false (w : World) (K : Int) (v : Value) (k bg : Int) (ct : Bool) : Calls Tryz.prog 95 #[itv K false v k bg ct] w (fun e w' => e = .returned (.int .i64 0) ∧ Up w w') := by
  have U := Up.refl w
  go_enter Tryz.func95, Tryz.ntmps95
  go_upto_region 1 with fail
  obtain ⟨V1, hV1⟩ : ∃ V1, w.alloc (.cells #[.int .i64 K, .bool false, v, .int .i64 k, .int .i64 bg, .bool ct] 49) = V1 := ⟨_, rfl⟩
  have R : Ob V1 w.heap.size 49 #[.int .i64 K, .bool false, v, .int .i64 k, .int .i64 bg, .bool ct] := by rw [← hV1]; exact Ob.mk_ _ _ _
  replace U : Up w V1 := by rw [← hV1]; exact U.alloc _
  rw [hV1]
  clear hV1
  obtain ⟨i0, i1, i2, i3, i4, i5⟩ := R.six
  go_wp2_with fail
  go_ret
  exact ⟨rfl, U⟩
/-- Where a word begins. -/
def M.so (neg : Bool) : Nat := if neg = true then 1 else 0
theorem start_any (w : World) (K : Int) (neg : Bool) (v : Value) (k bg : Int) (ct : Bool) : Calls Tryz.prog 95 #[itv K neg v k bg ct] w (fun e w' => e = .returned (.int .i64 (M.so neg : Int)) ∧ Up w w') := by
  cases neg
  · exact start_false w K v k bg ct
  · exact start_true w K v k bg ct
set_option maxHeartbeats 2000000 in
set_option maxRecDepth 100000 in
theorem number_in (w : World) (K : Int) (neg : Bool) (A : Option Addr) (n c : Nat) (k : Int) (ct : Bool) (lo d : Nat) (h : Nt w lo 2001 (.slice A n c) d) (hd : d < 18446744073709551616 ^ 128) (hk : -5000 ≤ k ∧ k ≤ 5000) : Calls Tryz.prog 61 #[itv K neg (.slice A n c) k 0 ct] w (Xr neg 2001 d k k w) := by
  have CD := Lib.hid (fun W (U : Up w W) => dec_yes W lo 2001 neg (.slice A n c) d k (h.up U).nw hd hk)
  clear h hd hk
  have U := Up.refl w
  go_enter Tryz.func61, Tryz.ntmps61
  go_upto_region 1 with fail
  obtain ⟨V1, hV1⟩ : ∃ V1, w.alloc (.cells #[.int .i64 K, .bool neg, .slice A n c, .int .i64 k, .int .i64 0, .bool ct] 49) = V1 := ⟨_, rfl⟩
  have R : Ob V1 w.heap.size 49 #[.int .i64 K, .bool neg, .slice A n c, .int .i64 k, .int .i64 0, .bool ct] := by rw [← hV1]; exact Ob.mk_ _ _ _
  have U1 : Up w V1 := by rw [← hV1]; exact U.alloc _
  have s1 : V1.heap.size = w.heap.size + 1 := by rw [← hV1]; exact Array.size_push _
  rw [hV1]
  clear hV1
  obtain ⟨V2, hV2⟩ : ∃ V2, V1.alloc (.cells #[.bool false, .slice none 0 0, .int .i64 0, .int .i64 0] 42) = V2 := ⟨_, rfl⟩
  have S : Ob V2 (w.heap.size + 1) 42 #[.bool false, .slice none 0 0, .int .i64 0, .int .i64 0] := by rw [← hV2, ← s1]; exact Ob.mk_ _ _ _
  have u2 : Up V1 V2 := by rw [← hV2]; exact (Up.refl _).alloc _
  replace U := U1.trans u2
  replace R := R.up u2
  have gS := S.lt
  rw [hV2]
  clear hV2 s1 U1 u2
  obtain ⟨i0, i1, i2, i3, i4, i5⟩ := R.six
  go_quiet (fail)
  go_wp2_with fail
  refine (CD.out _ (U.drewN _)).mono ?_
  rintro _ W2 ⟨v2, rfl, N2, u3⟩
  obtain ⟨A2, n2, c2, ys2, rfl, N2'⟩ := N2
  replace N2 : Nt W2 _ 2001 (.slice A2 n2 c2) d := ⟨_, _, _, _, rfl, N2'⟩
  clear N2'
  replace N2 := N2.lower (lo' := V2.heap.size) (by first | exact Nat.le_refl _ | exact Up.size (((Up.refl V2).drewN _).alloc _))
  replace u3 : Up V2 W2 := by first | exact ((Up.refl V2).drewN _).trans u3 | exact (((Up.refl V2).drewN _).alloc _).trans u3
  replace U := U.trans u3
  replace S := S.up u3
  have gS2 : w.heap.size + 1 < W2.heap.size := S.lt
  clear u3 i0 i1 i2 i3 i4 i5 R CD
  go_upto_region 5 with fail
  obtain ⟨V3, hV3⟩ : ∃ V3, W2.alloc (.cells #[.bool neg, .slice A2 n2 c2, .int .i64 k, .int .i64 k] 42) = V3 := ⟨_, rfl⟩
  have R : Ob V3 W2.heap.size 42 #[.bool neg, .slice A2 n2 c2, .int .i64 k, .int .i64 k] := by rw [← hV3]; exact Ob.mk_ _ _ _
  have u4 : Up W2 V3 := by rw [← hV3]; exact (Up.refl _).alloc _
  rw [hV3]
  clear hV3
  replace U := U.trans u4
  replace S := S.up u4
  replace N2 := N2.up u4
  clear u4
  have r0 := R.get 0
  have r1 := R.get 1
  have r2 := R.get 2
  have r3 := R.get 3
  simp only [List.getElem?_toArray, List.getElem?_cons_zero, List.getElem?_cons_succ] at r0 r1 r2 r3
  go_wp2_with (refine store_ob2 rfl 42 (.tmp 2) (.tmp 26) rfl _ #[.bool false, .slice none 0 0, .int .i64 0, .int .i64 0] #[.bool neg, .slice A2 n2 c2, .int .i64 k, .int .i64 k] rfl rfl 4 (by kernel_rfl) rfl rfl (by simp [Value.oneCell']) w U (Nat.le_succ _) 42 S ?_; clear U; intro V9 Z9 U ho)
  have z0 := Z9.get 0
  have z1 := Z9.get 1
  have z2 := Z9.get 2
  have z3 := Z9.get 3
  simp only [List.getElem?_toArray, List.getElem?_cons_zero, List.getElem?_cons_succ] at z0 z1 z2 z3
  refine bodyPost_ret (v := xv neg (.slice A2 n2 c2) k k) (by simp [results, Tryz.results61, go_sem, z0, z1, z2, z3]) rfl ?_
  exact ⟨_, rfl, (N2.other ho (by omega)).lower (by omega), U⟩
set_option maxHeartbeats 2000000 in
set_option maxRecDepth 100000 in
theorem number_up (w : World) (K : Int) (neg : Bool) (A : Option Addr) (n c : Nat) (k : Int) (ct : Bool) : Calls Tryz.prog 61 #[itv K neg (.slice A n c) k 1 ct] w (Xr neg 1 1 1000 1000 w) := by
  have CD := Lib.hid (fun W (l : Nat) (B : Value) (hB : Nw W l 1 B 1) => dec_yes W l 1 neg B 1 1000 hB (lt_w128 (by decide)) ⟨by decide, by decide⟩)
  have U := Up.refl w
  go_enter Tryz.func61, Tryz.ntmps61
  go_upto_region 1 with fail
  obtain ⟨V1, hV1⟩ : ∃ V1, w.alloc (.cells #[.int .i64 K, .bool neg, .slice A n c, .int .i64 k, .int .i64 1, .bool ct] 49) = V1 := ⟨_, rfl⟩
  have R : Ob V1 w.heap.size 49 #[.int .i64 K, .bool neg, .slice A n c, .int .i64 k, .int .i64 1, .bool ct] := by rw [← hV1]; exact Ob.mk_ _ _ _
  have U1 : Up w V1 := by rw [← hV1]; exact U.alloc _
  have s1 : V1.heap.size = w.heap.size + 1 := by rw [← hV1]; exact Array.size_push _
  rw [hV1]
  clear hV1
  obtain ⟨V2, hV2⟩ : ∃ V2, V1.alloc (.cells #[.bool false, .slice none 0 0, .int .i64 0, .int .i64 0] 42) = V2 := ⟨_, rfl⟩
  have S : Ob V2 (w.heap.size + 1) 42 #[.bool false, .slice none 0 0, .int .i64 0, .int .i64 0] := by rw [← hV2, ← s1]; exact Ob.mk_ _ _ _
  have u2 : Up V1 V2 := by rw [← hV2]; exact (Up.refl _).alloc _
  replace U := U1.trans u2
  replace R := R.up u2
  have gS := S.lt
  rw [hV2]
  clear hV2 s1 U1 u2
  obtain ⟨i0, i1, i2, i3, i4, i5⟩ := R.six
  go_quiet (fail)
  have h4 : ∀ (n : Nat) (o : Obj), ((V2.drewN n).alloc o).cell? ⟨w.heap.size, 4, none⟩ = some (.int .i64 1) := fun n o => (Below.cell (p := ⟨w.heap.size, 4, none⟩) (((Up.refl V2).drewN n).alloc o) R.lt).trans i4
  have h1 : ∀ (n : Nat) (o : Obj), ((V2.drewN n).alloc o).cell? ⟨w.heap.size, 1, none⟩ = some (.bool neg) := fun n o => (Below.cell (p := ⟨w.heap.size, 1, none⟩) (((Up.refl V2).drewN n).alloc o) R.lt).trans i1
  go_upto_region 3 with fail
  go_region
  all_goals
    go_wp2_with fail
  go_wp2_with fail
  refine (CD.out _ _ _ (lit1 _ 1 _ rfl (by decide))).mono ?_
  rintro _ W2 ⟨v2, rfl, N2, u3⟩
  obtain ⟨A2, n2, c2, ys2, rfl, N2'⟩ := N2
  replace N2 : Nt W2 _ 1 (.slice A2 n2 c2) 1 := ⟨_, _, _, _, rfl, N2'⟩
  clear N2'
  replace N2 := N2.lower (lo' := V2.heap.size) (by first | exact Nat.le_refl _ | exact Up.size (((Up.refl V2).drewN _).alloc _))
  replace u3 : Up V2 W2 := by first | exact ((Up.refl V2).drewN _).trans u3 | exact (((Up.refl V2).drewN _).alloc _).trans u3
  replace U := U.trans u3
  replace S := S.up u3
  have gS2 : w.heap.size + 1 < W2.heap.size := S.lt
  clear u3 i0 i1 i2 i3 i4 i5 R CD
  go_upto_region 5 with fail
  obtain ⟨V3, hV3⟩ : ∃ V3, W2.alloc (.cells #[.bool neg, .slice A2 n2 c2, .int .i64 1000, .int .i64 1000] 42) = V3 := ⟨_, rfl⟩
  have R : Ob V3 W2.heap.size 42 #[.bool neg, .slice A2 n2 c2, .int .i64 1000, .int .i64 1000] := by rw [← hV3]; exact Ob.mk_ _ _ _
  have u4 : Up W2 V3 := by rw [← hV3]; exact (Up.refl _).alloc _
  rw [hV3]
  clear hV3
  replace U := U.trans u4
  replace S := S.up u4
  replace N2 := N2.up u4
  clear u4
  have r0 := R.get 0
  have r1 := R.get 1
  have r2 := R.get 2
  have r3 := R.get 3
  simp only [List.getElem?_toArray, List.getElem?_cons_zero, List.getElem?_cons_succ] at r0 r1 r2 r3
  go_wp2_with (refine store_ob2 rfl 42 (.tmp 2) (.tmp 26) rfl _ #[.bool false, .slice none 0 0, .int .i64 0, .int .i64 0] #[.bool neg, .slice A2 n2 c2, .int .i64 1000, .int .i64 1000] rfl rfl 4 (by kernel_rfl) rfl rfl (by simp [Value.oneCell']) w U (Nat.le_succ _) 42 S ?_; clear U; intro V9 Z9 U ho)
  have z0 := Z9.get 0
  have z1 := Z9.get 1
  have z2 := Z9.get 2
  have z3 := Z9.get 3
  simp only [List.getElem?_toArray, List.getElem?_cons_zero, List.getElem?_cons_succ] at z0 z1 z2 z3
  refine bodyPost_ret (v := xv neg (.slice A2 n2 c2) 1000 1000) (by simp [results, Tryz.results61, go_sem, z0, z1, z2, z3]) rfl ?_
  exact ⟨_, rfl, (N2.other ho (by omega)).lower (by omega), U⟩
set_option maxHeartbeats 2000000 in
set_option maxRecDepth 100000 in
theorem number_low (w : World) (K : Int) (neg : Bool) (A : Option Addr) (n c : Nat) (k : Int) (ct : Bool) : Calls Tryz.prog 61 #[itv K neg (.slice A n c) k (-1) ct] w (Xr neg 1 1 (-1000) (-1000) w) := by
  have CD := Lib.hid (fun W (l : Nat) (B : Value) (hB : Nw W l 1 B 1) => dec_yes W l 1 neg B 1 (-1000) hB (lt_w128 (by decide)) ⟨by decide, by decide⟩)
  have U := Up.refl w
  go_enter Tryz.func61, Tryz.ntmps61
  go_upto_region 1 with fail
  obtain ⟨V1, hV1⟩ : ∃ V1, w.alloc (.cells #[.int .i64 K, .bool neg, .slice A n c, .int .i64 k, .int .i64 (-1), .bool ct] 49) = V1 := ⟨_, rfl⟩
  have R : Ob V1 w.heap.size 49 #[.int .i64 K, .bool neg, .slice A n c, .int .i64 k, .int .i64 (-1), .bool ct] := by rw [← hV1]; exact Ob.mk_ _ _ _
  have U1 : Up w V1 := by rw [← hV1]; exact U.alloc _
  have s1 : V1.heap.size = w.heap.size + 1 := by rw [← hV1]; exact Array.size_push _
  rw [hV1]
  clear hV1
  obtain ⟨V2, hV2⟩ : ∃ V2, V1.alloc (.cells #[.bool false, .slice none 0 0, .int .i64 0, .int .i64 0] 42) = V2 := ⟨_, rfl⟩
  have S : Ob V2 (w.heap.size + 1) 42 #[.bool false, .slice none 0 0, .int .i64 0, .int .i64 0] := by rw [← hV2, ← s1]; exact Ob.mk_ _ _ _
  have u2 : Up V1 V2 := by rw [← hV2]; exact (Up.refl _).alloc _
  replace U := U1.trans u2
  replace R := R.up u2
  have gS := S.lt
  rw [hV2]
  clear hV2 s1 U1 u2
  obtain ⟨i0, i1, i2, i3, i4, i5⟩ := R.six
  go_quiet (fail)
  have h4 : ∀ (n : Nat) (o : Obj), ((V2.drewN n).alloc o).cell? ⟨w.heap.size, 4, none⟩ = some (.int .i64 (-1)) := fun n o => (Below.cell (p := ⟨w.heap.size, 4, none⟩) (((Up.refl V2).drewN n).alloc o) R.lt).trans i4
  have h1 : ∀ (n : Nat) (o : Obj), ((V2.drewN n).alloc o).cell? ⟨w.heap.size, 1, none⟩ = some (.bool neg) := fun n o => (Below.cell (p := ⟨w.heap.size, 1, none⟩) (((Up.refl V2).drewN n).alloc o) R.lt).trans i1
  go_upto_region 3 with fail
  go_region
  all_goals
    go_wp2_with fail
  go_wp2_with fail
  refine (CD.out _ _ _ (lit1 _ 1 _ rfl (by decide))).mono ?_
  rintro _ W2 ⟨v2, rfl, N2, u3⟩
  obtain ⟨A2, n2, c2, ys2, rfl, N2'⟩ := N2
  replace N2 : Nt W2 _ 1 (.slice A2 n2 c2) 1 := ⟨_, _, _, _, rfl, N2'⟩
  clear N2'
  replace N2 := N2.lower (lo' := V2.heap.size) (by first | exact Nat.le_refl _ | exact Up.size (((Up.refl V2).drewN _).alloc _))
  replace u3 : Up V2 W2 := by first | exact ((Up.refl V2).drewN _).trans u3 | exact (((Up.refl V2).drewN _).alloc _).trans u3
  replace U := U.trans u3
  replace S := S.up u3
  have gS2 : w.heap.size + 1 < W2.heap.size := S.lt
  clear u3 i0 i1 i2 i3 i4 i5 R CD
  go_upto_region 5 with fail
  obtain ⟨V3, hV3⟩ : ∃ V3, W2.alloc (.cells #[.bool neg, .slice A2 n2 c2, .int .i64 (-1000), .int .i64 (-1000)] 42) = V3 := ⟨_, rfl⟩
  have R : Ob V3 W2.heap.size 42 #[.bool neg, .slice A2 n2 c2, .int .i64 (-1000), .int .i64 (-1000)] := by rw [← hV3]; exact Ob.mk_ _ _ _
  have u4 : Up W2 V3 := by rw [← hV3]; exact (Up.refl _).alloc _
  rw [hV3]
  clear hV3
  replace U := U.trans u4
  replace S := S.up u4
  replace N2 := N2.up u4
  clear u4
  have r0 := R.get 0
  have r1 := R.get 1
  have r2 := R.get 2
  have r3 := R.get 3
  simp only [List.getElem?_toArray, List.getElem?_cons_zero, List.getElem?_cons_succ] at r0 r1 r2 r3
  go_wp2_with (refine store_ob2 rfl 42 (.tmp 2) (.tmp 26) rfl _ #[.bool false, .slice none 0 0, .int .i64 0, .int .i64 0] #[.bool neg, .slice A2 n2 c2, .int .i64 (-1000), .int .i64 (-1000)] rfl rfl 4 (by kernel_rfl) rfl rfl (by simp [Value.oneCell']) w U (Nat.le_succ _) 42 S ?_; clear U; intro V9 Z9 U ho)
  have z0 := Z9.get 0
  have z1 := Z9.get 1
  have z2 := Z9.get 2
  have z3 := Z9.get 3
  simp only [List.getElem?_toArray, List.getElem?_cons_zero, List.getElem?_cons_succ] at z0 z1 z2 z3
  refine bodyPost_ret (v := xv neg (.slice A2 n2 c2) (-1000) (-1000)) (by simp [results, Tryz.results61, go_sem, z0, z1, z2, z3]) rfl ?_
  exact ⟨_, rfl, (N2.other ho (by omega)).lower (by omega), U⟩
set_option maxHeartbeats 2000000 in
set_option maxRecDepth 100000 in
theorem word_inf_neg (w : World) (f : M.Fm) (v : Value) (k bg : Int) (ct : Bool) (n1 : (f.n != 0) = true) (ok : M.Ok f) (S : Int) (hS : Hid (M.sgn f = S)) (p : Int) (e : Go.bits BinOp.or IntKind.u64 f.n S = p) : Calls Tryz.prog 60 #[fv f, itv 2 true v k bg ct] w (fun e w' => e = .returned (.int .u64 p) ∧ Up w w') := by
  have CS := Lib.hid (fun W => sign_any W f ok S hS)
  clear ok hS
  have U := Up.refl w
  go_enter Tryz.func60, Tryz.ntmps60
  go_upto_region 1 with fail
  obtain ⟨V0, hV0⟩ : ∃ V0, w.alloc (.cells #[.int .i64 f.k, .int .i64 f.W, .int .i64 f.m, .int .i64 f.b, .int .u64 f.t, .int .u64 f.n, .int .u64 f.x] 33) = V0 := ⟨_, rfl⟩
  have C : Bf V0 w.heap.size 33 f := by rw [← hV0]; exact Bf.mk_ w f 33
  have s0 : V0.heap.size = w.heap.size + 1 := by rw [← hV0]; exact Array.size_push _
  have U0 : Up w V0 := by rw [← hV0]; exact U.alloc _
  rw [hV0]
  clear hV0
  obtain ⟨V1, hV1⟩ : ∃ V1, V0.alloc (.cells #[.int .i64 2, .bool true, v, .int .i64 k, .int .i64 bg, .bool ct] 49) = V1 := ⟨_, rfl⟩
  have R : Ob V1 (w.heap.size + 1) 49 #[.int .i64 2, .bool true, v, .int .i64 k, .int .i64 bg, .bool ct] := by rw [← hV1, ← s0]; exact Ob.mk_ _ _ _
  have u1 : Up V0 V1 := by rw [← hV1]; exact (Up.refl _).alloc _
  rw [hV1]
  clear hV1 s0
  replace U := U0.trans u1
  replace C := C.up u1
  clear U0 u1
  obtain ⟨C0, C1, C2, C3, C4, C5, C6⟩ := Bf.cs C
  simp only [Nat.zero_add] at C0 C1 C2 C3 C4 C5 C6
  obtain ⟨i0, i1, i2, i3, i4, i5⟩ := R.six
  go_upto_region 3 with fail
  go_region_held3 (fun w' => w'.cell? ⟨w.heap.size, 0, none⟩ = some (.int .i64 f.k) ∧ w'.cell? ⟨w.heap.size, 1, none⟩ = some (.int .i64 f.W) ∧ w'.cell? ⟨w.heap.size, 2, none⟩ = some (.int .i64 f.m) ∧ w'.cell? ⟨w.heap.size, 3, none⟩ = some (.int .i64 f.b) ∧ w'.cell? ⟨w.heap.size, 4, none⟩ = some (.int .u64 f.t) ∧ w'.cell? ⟨w.heap.size, 5, none⟩ = some (.int .u64 f.n) ∧ w'.cell? ⟨w.heap.size, 6, none⟩ = some (.int .u64 f.x)) (go_keep) ((go_at_call 24; (with_reducible refine (CS.out _).mono ?_); rintro _ w30 ⟨rfl, h30⟩; have uw30 : Up V1 w30 := Up.trans (by first | with_reducible assumption | exact (Up.refl V1).drewN 1) h30; have cc0 := cell_up_ uw30 C0; have cc1 := cell_up_ uw30 C1; have cc2 := cell_up_ uw30 C2; have cc3 := cell_up_ uw30 C3; have cc4 := cell_up_ uw30 C4; have cc5 := cell_up_ uw30 C5; have cc6 := cell_up_ uw30 C6))
  clear C0 cc0 C1 cc1 C2 cc2 C3 cc3 C4 cc4 C5 cc5 C6 cc6
  go_wp2_with fail
  go_ret
  exact ⟨by first | rfl | exact ret_int e, U.trans uw30⟩
set_option maxHeartbeats 2000000 in
set_option maxRecDepth 100000 in
theorem word_inf_pos (w : World) (f : M.Fm) (v : Value) (k bg : Int) (ct : Bool) (n1 : (f.n != 0) = true) : Calls Tryz.prog 60 #[fv f, itv 2 false v k bg ct] w (fun e w' => e = .returned (.int .u64 f.n) ∧ Up w w') := by
  have U := Up.refl w
  go_enter Tryz.func60, Tryz.ntmps60
  go_upto_region 1 with fail
  obtain ⟨V0, hV0⟩ : ∃ V0, w.alloc (.cells #[.int .i64 f.k, .int .i64 f.W, .int .i64 f.m, .int .i64 f.b, .int .u64 f.t, .int .u64 f.n, .int .u64 f.x] 33) = V0 := ⟨_, rfl⟩
  have C : Bf V0 w.heap.size 33 f := by rw [← hV0]; exact Bf.mk_ w f 33
  have s0 : V0.heap.size = w.heap.size + 1 := by rw [← hV0]; exact Array.size_push _
  have U0 : Up w V0 := by rw [← hV0]; exact U.alloc _
  rw [hV0]
  clear hV0
  obtain ⟨V1, hV1⟩ : ∃ V1, V0.alloc (.cells #[.int .i64 2, .bool false, v, .int .i64 k, .int .i64 bg, .bool ct] 49) = V1 := ⟨_, rfl⟩
  have R : Ob V1 (w.heap.size + 1) 49 #[.int .i64 2, .bool false, v, .int .i64 k, .int .i64 bg, .bool ct] := by rw [← hV1, ← s0]; exact Ob.mk_ _ _ _
  have u1 : Up V0 V1 := by rw [← hV1]; exact (Up.refl _).alloc _
  rw [hV1]
  clear hV1 s0
  replace U := U0.trans u1
  replace C := C.up u1
  clear U0 u1
  obtain ⟨C0, C1, C2, C3, C4, C5, C6⟩ := Bf.cs C
  simp only [Nat.zero_add] at C0 C1 C2 C3 C4 C5 C6
  obtain ⟨i0, i1, i2, i3, i4, i5⟩ := R.six
  go_wp2_with fail
  go_ret
  exact ⟨rfl, U⟩
set_option maxHeartbeats 2000000 in
set_option maxRecDepth 100000 in
theorem word_nan (w : World) (f : M.Fm) (neg : Bool) (v : Value) (k bg : Int) (ct : Bool) (x1 : (f.x != 0) = true) (t0 : (f.k == 1) = false) : Calls Tryz.prog 60 #[fv f, itv 3 neg v k bg ct] w (fun e w' => e = .returned (.int .u64 f.x) ∧ Up w w') := by
  have U := Up.refl w
  go_enter Tryz.func60, Tryz.ntmps60
  go_upto_region 1 with fail
  obtain ⟨V0, hV0⟩ : ∃ V0, w.alloc (.cells #[.int .i64 f.k, .int .i64 f.W, .int .i64 f.m, .int .i64 f.b, .int .u64 f.t, .int .u64 f.n, .int .u64 f.x] 33) = V0 := ⟨_, rfl⟩
  have C : Bf V0 w.heap.size 33 f := by rw [← hV0]; exact Bf.mk_ w f 33
  have s0 : V0.heap.size = w.heap.size + 1 := by rw [← hV0]; exact Array.size_push _
  have U0 : Up w V0 := by rw [← hV0]; exact U.alloc _
  rw [hV0]
  clear hV0
  obtain ⟨V1, hV1⟩ : ∃ V1, V0.alloc (.cells #[.int .i64 3, .bool neg, v, .int .i64 k, .int .i64 bg, .bool ct] 49) = V1 := ⟨_, rfl⟩
  have R : Ob V1 (w.heap.size + 1) 49 #[.int .i64 3, .bool neg, v, .int .i64 k, .int .i64 bg, .bool ct] := by rw [← hV1, ← s0]; exact Ob.mk_ _ _ _
  have u1 : Up V0 V1 := by rw [← hV1]; exact (Up.refl _).alloc _
  rw [hV1]
  clear hV1 s0
  replace U := U0.trans u1
  replace C := C.up u1
  clear U0 u1
  obtain ⟨C0, C1, C2, C3, C4, C5, C6⟩ := Bf.cs C
  simp only [Nat.zero_add] at C0 C1 C2 C3 C4 C5 C6
  obtain ⟨i0, i1, i2, i3, i4, i5⟩ := R.six
  go_wp2_with fail
  go_ret
  exact ⟨rfl, U⟩
set_option maxHeartbeats 2000000 in
set_option maxRecDepth 100000 in
theorem word_nar (w : World) (f : M.Fm) (v : Value) (k bg : Int) (ct : Bool) (t1 : (f.k == 1) = true) : Calls Tryz.prog 60 #[fv f, itv 4 false v k bg ct] w (fun e w' => e = .returned (.int .u64 f.x) ∧ Up w w') := by
  have U := Up.refl w
  go_enter Tryz.func60, Tryz.ntmps60
  go_upto_region 1 with fail
  obtain ⟨V0, hV0⟩ : ∃ V0, w.alloc (.cells #[.int .i64 f.k, .int .i64 f.W, .int .i64 f.m, .int .i64 f.b, .int .u64 f.t, .int .u64 f.n, .int .u64 f.x] 33) = V0 := ⟨_, rfl⟩
  have C : Bf V0 w.heap.size 33 f := by rw [← hV0]; exact Bf.mk_ w f 33
  have s0 : V0.heap.size = w.heap.size + 1 := by rw [← hV0]; exact Array.size_push _
  have U0 : Up w V0 := by rw [← hV0]; exact U.alloc _
  rw [hV0]
  clear hV0
  obtain ⟨V1, hV1⟩ : ∃ V1, V0.alloc (.cells #[.int .i64 4, .bool false, v, .int .i64 k, .int .i64 bg, .bool ct] 49) = V1 := ⟨_, rfl⟩
  have R : Ob V1 (w.heap.size + 1) 49 #[.int .i64 4, .bool false, v, .int .i64 k, .int .i64 bg, .bool ct] := by rw [← hV1, ← s0]; exact Ob.mk_ _ _ _
  have u1 : Up V0 V1 := by rw [← hV1]; exact (Up.refl _).alloc _
  rw [hV1]
  clear hV1 s0
  replace U := U0.trans u1
  replace C := C.up u1
  clear U0 u1
  obtain ⟨C0, C1, C2, C3, C4, C5, C6⟩ := Bf.cs C
  simp only [Nat.zero_add] at C0 C1 C2 C3 C4 C5 C6
  obtain ⟨i0, i1, i2, i3, i4, i5⟩ := R.six
  go_wp2_with fail
  go_ret
  exact ⟨rfl, U⟩
set_option maxHeartbeats 2000000 in
set_option maxRecDepth 100000 in
theorem word_none2 (w : World) (f : M.Fm) (neg : Bool) (v : Value) (k bg : Int) (ct : Bool) (n0 : (f.n != 0) = false) : Calls Tryz.prog 60 #[fv f, itv 2 neg v k bg ct] w (Pnf 5 (M.so neg : Int) w) := by
  have U := Up.refl w
  go_enter Tryz.func60, Tryz.ntmps60
  go_upto_region 1 with fail
  obtain ⟨V0, hV0⟩ : ∃ V0, w.alloc (.cells #[.int .i64 f.k, .int .i64 f.W, .int .i64 f.m, .int .i64 f.b, .int .u64 f.t, .int .u64 f.n, .int .u64 f.x] 33) = V0 := ⟨_, rfl⟩
  have C : Bf V0 w.heap.size 33 f := by rw [← hV0]; exact Bf.mk_ w f 33
  have s0 : V0.heap.size = w.heap.size + 1 := by rw [← hV0]; exact Array.size_push _
  have U0 : Up w V0 := by rw [← hV0]; exact U.alloc _
  rw [hV0]
  clear hV0
  obtain ⟨V1, hV1⟩ : ∃ V1, V0.alloc (.cells #[.int .i64 2, .bool neg, v, .int .i64 k, .int .i64 bg, .bool ct] 49) = V1 := ⟨_, rfl⟩
  have R : Ob V1 (w.heap.size + 1) 49 #[.int .i64 2, .bool neg, v, .int .i64 k, .int .i64 bg, .bool ct] := by rw [← hV1, ← s0]; exact Ob.mk_ _ _ _
  have u1 : Up V0 V1 := by rw [← hV1]; exact (Up.refl _).alloc _
  rw [hV1]
  clear hV1 s0
  replace U := U0.trans u1
  replace C := C.up u1
  clear U0 u1
  obtain ⟨C0, C1, C2, C3, C4, C5, C6⟩ := Bf.cs C
  simp only [Nat.zero_add] at C0 C1 C2 C3 C4 C5 C6
  obtain ⟨i0, i1, i2, i3, i4, i5⟩ := R.six
  go_wp2_with fail
  refine (start_any _ 2 neg v k bg ct).mono ?_
  rintro _ W2 ⟨rfl, u2⟩
  replace U := U.trans u2
  clear u2 C0 C1 C2 C3 C4 C5 C6 i0 i1 i2 i3 i4 i5 C R
  go_wp2_with fail
  exact ⟨rfl, rfl, U⟩
set_option maxHeartbeats 2000000 in
set_option maxRecDepth 100000 in
theorem word_none3 (w : World) (f : M.Fm) (neg : Bool) (v : Value) (k bg : Int) (ct : Bool) (x0 : (f.x != 0) = false) : Calls Tryz.prog 60 #[fv f, itv 3 neg v k bg ct] w (Pnf 5 (M.so neg : Int) w) := by
  have U := Up.refl w
  go_enter Tryz.func60, Tryz.ntmps60
  go_upto_region 1 with fail
  obtain ⟨V0, hV0⟩ : ∃ V0, w.alloc (.cells #[.int .i64 f.k, .int .i64 f.W, .int .i64 f.m, .int .i64 f.b, .int .u64 f.t, .int .u64 f.n, .int .u64 f.x] 33) = V0 := ⟨_, rfl⟩
  have C : Bf V0 w.heap.size 33 f := by rw [← hV0]; exact Bf.mk_ w f 33
  have s0 : V0.heap.size = w.heap.size + 1 := by rw [← hV0]; exact Array.size_push _
  have U0 : Up w V0 := by rw [← hV0]; exact U.alloc _
  rw [hV0]
  clear hV0
  obtain ⟨V1, hV1⟩ : ∃ V1, V0.alloc (.cells #[.int .i64 3, .bool neg, v, .int .i64 k, .int .i64 bg, .bool ct] 49) = V1 := ⟨_, rfl⟩
  have R : Ob V1 (w.heap.size + 1) 49 #[.int .i64 3, .bool neg, v, .int .i64 k, .int .i64 bg, .bool ct] := by rw [← hV1, ← s0]; exact Ob.mk_ _ _ _
  have u1 : Up V0 V1 := by rw [← hV1]; exact (Up.refl _).alloc _
  rw [hV1]
  clear hV1 s0
  replace U := U0.trans u1
  replace C := C.up u1
  clear U0 u1
  obtain ⟨C0, C1, C2, C3, C4, C5, C6⟩ := Bf.cs C
  simp only [Nat.zero_add] at C0 C1 C2 C3 C4 C5 C6
  obtain ⟨i0, i1, i2, i3, i4, i5⟩ := R.six
  go_wp2_with fail
  refine (start_any _ 3 neg v k bg ct).mono ?_
  rintro _ W2 ⟨rfl, u2⟩
  replace U := U.trans u2
  clear u2 C0 C1 C2 C3 C4 C5 C6 i0 i1 i2 i3 i4 i5 C R
  go_wp2_with fail
  exact ⟨rfl, rfl, U⟩
set_option maxHeartbeats 2000000 in
set_option maxRecDepth 100000 in
theorem word_none3t (w : World) (f : M.Fm) (neg : Bool) (v : Value) (k bg : Int) (ct : Bool) (x1 : (f.x != 0) = true) (t1 : (f.k == 1) = true) : Calls Tryz.prog 60 #[fv f, itv 3 neg v k bg ct] w (Pnf 5 (M.so neg : Int) w) := by
  have U := Up.refl w
  go_enter Tryz.func60, Tryz.ntmps60
  go_upto_region 1 with fail
  obtain ⟨V0, hV0⟩ : ∃ V0, w.alloc (.cells #[.int .i64 f.k, .int .i64 f.W, .int .i64 f.m, .int .i64 f.b, .int .u64 f.t, .int .u64 f.n, .int .u64 f.x] 33) = V0 := ⟨_, rfl⟩
  have C : Bf V0 w.heap.size 33 f := by rw [← hV0]; exact Bf.mk_ w f 33
  have s0 : V0.heap.size = w.heap.size + 1 := by rw [← hV0]; exact Array.size_push _
  have U0 : Up w V0 := by rw [← hV0]; exact U.alloc _
  rw [hV0]
  clear hV0
  obtain ⟨V1, hV1⟩ : ∃ V1, V0.alloc (.cells #[.int .i64 3, .bool neg, v, .int .i64 k, .int .i64 bg, .bool ct] 49) = V1 := ⟨_, rfl⟩
  have R : Ob V1 (w.heap.size + 1) 49 #[.int .i64 3, .bool neg, v, .int .i64 k, .int .i64 bg, .bool ct] := by rw [← hV1, ← s0]; exact Ob.mk_ _ _ _
  have u1 : Up V0 V1 := by rw [← hV1]; exact (Up.refl _).alloc _
  rw [hV1]
  clear hV1 s0
  replace U := U0.trans u1
  replace C := C.up u1
  clear U0 u1
  obtain ⟨C0, C1, C2, C3, C4, C5, C6⟩ := Bf.cs C
  simp only [Nat.zero_add] at C0 C1 C2 C3 C4 C5 C6
  obtain ⟨i0, i1, i2, i3, i4, i5⟩ := R.six
  go_wp2_with fail
  refine (start_any _ 3 neg v k bg ct).mono ?_
  rintro _ W2 ⟨rfl, u2⟩
  replace U := U.trans u2
  clear u2 C0 C1 C2 C3 C4 C5 C6 i0 i1 i2 i3 i4 i5 C R
  go_wp2_with fail
  exact ⟨rfl, rfl, U⟩
set_option maxHeartbeats 2000000 in
set_option maxRecDepth 100000 in
theorem word_none4 (w : World) (f : M.Fm) (neg : Bool) (v : Value) (k bg : Int) (ct : Bool) (t0 : (f.k == 1) = false) : Calls Tryz.prog 60 #[fv f, itv 4 neg v k bg ct] w (Pnf 5 (M.so neg : Int) w) := by
  have U := Up.refl w
  go_enter Tryz.func60, Tryz.ntmps60
  go_upto_region 1 with fail
  obtain ⟨V0, hV0⟩ : ∃ V0, w.alloc (.cells #[.int .i64 f.k, .int .i64 f.W, .int .i64 f.m, .int .i64 f.b, .int .u64 f.t, .int .u64 f.n, .int .u64 f.x] 33) = V0 := ⟨_, rfl⟩
  have C : Bf V0 w.heap.size 33 f := by rw [← hV0]; exact Bf.mk_ w f 33
  have s0 : V0.heap.size = w.heap.size + 1 := by rw [← hV0]; exact Array.size_push _
  have U0 : Up w V0 := by rw [← hV0]; exact U.alloc _
  rw [hV0]
  clear hV0
  obtain ⟨V1, hV1⟩ : ∃ V1, V0.alloc (.cells #[.int .i64 4, .bool neg, v, .int .i64 k, .int .i64 bg, .bool ct] 49) = V1 := ⟨_, rfl⟩
  have R : Ob V1 (w.heap.size + 1) 49 #[.int .i64 4, .bool neg, v, .int .i64 k, .int .i64 bg, .bool ct] := by rw [← hV1, ← s0]; exact Ob.mk_ _ _ _
  have u1 : Up V0 V1 := by rw [← hV1]; exact (Up.refl _).alloc _
  rw [hV1]
  clear hV1 s0
  replace U := U0.trans u1
  replace C := C.up u1
  clear U0 u1
  obtain ⟨C0, C1, C2, C3, C4, C5, C6⟩ := Bf.cs C
  simp only [Nat.zero_add] at C0 C1 C2 C3 C4 C5 C6
  obtain ⟨i0, i1, i2, i3, i4, i5⟩ := R.six
  go_wp2_with fail
  refine (start_any _ 4 neg v k bg ct).mono ?_
  rintro _ W2 ⟨rfl, u2⟩
  replace U := U.trans u2
  clear u2 C0 C1 C2 C3 C4 C5 C6 i0 i1 i2 i3 i4 i5 C R
  go_wp2_with fail
  exact ⟨rfl, rfl, U⟩
set_option maxHeartbeats 2000000 in
set_option maxRecDepth 100000 in
theorem word_none4n (w : World) (f : M.Fm) (v : Value) (k bg : Int) (ct : Bool) (t1 : (f.k == 1) = true) : Calls Tryz.prog 60 #[fv f, itv 4 true v k bg ct] w (Pnf 5 (M.so true : Int) w) := by
  have U := Up.refl w
  go_enter Tryz.func60, Tryz.ntmps60
  go_upto_region 1 with fail
  obtain ⟨V0, hV0⟩ : ∃ V0, w.alloc (.cells #[.int .i64 f.k, .int .i64 f.W, .int .i64 f.m, .int .i64 f.b, .int .u64 f.t, .int .u64 f.n, .int .u64 f.x] 33) = V0 := ⟨_, rfl⟩
  have C : Bf V0 w.heap.size 33 f := by rw [← hV0]; exact Bf.mk_ w f 33
  have s0 : V0.heap.size = w.heap.size + 1 := by rw [← hV0]; exact Array.size_push _
  have U0 : Up w V0 := by rw [← hV0]; exact U.alloc _
  rw [hV0]
  clear hV0
  obtain ⟨V1, hV1⟩ : ∃ V1, V0.alloc (.cells #[.int .i64 4, .bool true, v, .int .i64 k, .int .i64 bg, .bool ct] 49) = V1 := ⟨_, rfl⟩
  have R : Ob V1 (w.heap.size + 1) 49 #[.int .i64 4, .bool true, v, .int .i64 k, .int .i64 bg, .bool ct] := by rw [← hV1, ← s0]; exact Ob.mk_ _ _ _
  have u1 : Up V0 V1 := by rw [← hV1]; exact (Up.refl _).alloc _
  rw [hV1]
  clear hV1 s0
  replace U := U0.trans u1
  replace C := C.up u1
  clear U0 u1
  obtain ⟨C0, C1, C2, C3, C4, C5, C6⟩ := Bf.cs C
  simp only [Nat.zero_add] at C0 C1 C2 C3 C4 C5 C6
  obtain ⟨i0, i1, i2, i3, i4, i5⟩ := R.six
  go_wp2_with fail
  refine (start_any _ 4 true v k bg ct).mono ?_
  rintro _ W2 ⟨rfl, u2⟩
  replace U := U.trans u2
  clear u2 C0 C1 C2 C3 C4 C5 C6 i0 i1 i2 i3 i4 i5 C R
  go_wp2_with fail
  exact ⟨rfl, rfl, U⟩
/-- What a word comes to: its pattern, or that there is none. -/
def Pto (p : Int) (n : Nat) (e : Int) (w : World) (en : Ending) (w' : World) : Prop := (e = 0 ∧ en = .returned (.int .u64 p) ∧ Up w w') ∨ (e ≠ 0 ∧ Pnf e (n : Int) w en w')
theorem word_any (w : World) (f : M.Fm) (ok : M.Ok f) (ok3 : M.Ok3 f) (K : Nat) (hK : 2 ≤ K ∧ K ≤ 4) (neg : Bool) (v : Value) (k bg : Int) (ct : Bool) (p : Int) (n : Nat) (e : Int) (h : M.Wq f K neg p n e) :
    Calls Tryz.prog 60 #[fv f, itv (K : Int) neg v k bg ct] w (Pto p n e w) := by
  have good : ∀ {q : Int} {en : Ending} {w' : World}, q = p → e = 0 → (en = .returned (.int .u64 q) ∧ Up w w') → Pto p n e w en w' := fun h1 h2 h3 => .inl ⟨h2, h1 ▸ h3.1, h3.2⟩
  have nb : ∀ {x : Int}, x ≠ 0 → (x != 0) = true := fun h => by simpa using h
  have ne : ∀ {x : Int}, ¬ x ≠ 0 → (x != 0) = false := fun h => by simpa using h
  have tb_ : f.k = 1 → (f.k == 1) = true := fun h => by simpa using h
  have te : f.k ≠ 1 → (f.k == 1) = false := fun h => by simpa using h
  rcases h with ⟨rfl, h, rfl, rfl, rfl⟩ | ⟨rfl, h, h2, rfl, rfl, rfl⟩ | ⟨rfl, h, rfl, rfl, rfl, rfl⟩ | ⟨h2, h3, h4, rfl, rfl, rfl⟩
  · cases neg with
    | false => exact (word_inf_pos w f v k bg ct (nb h)).mono fun _ _ g => good rfl rfl g
    | true =>
      have hs := ((M.sgn_ok ok).2 (by have := (ok3.most h).1; omega)).1
      exact (word_inf_neg w f v k bg ct (nb h) ok (M.half f) hs (f.n + M.half f) (M.or_inf ok ok3 h)).mono fun _ _ g => good rfl rfl g
  · exact (word_nan w f neg v k bg ct (nb h) (te h2)).mono fun _ _ g => good rfl rfl g
  · exact (word_nar w f v k bg ct (tb_ h)).mono fun _ _ g => good rfl rfl g
  · have hb : ∀ {en : Ending} {w' : World}, Pnf 5 (M.so neg : Int) w en w' → Pto 0 (if neg = true then 1 else 0) 5 w en w' := fun g => .inr ⟨by decide, g⟩
    rcases (show K = 2 ∨ K = 3 ∨ K = 4 by omega) with rfl | rfl | rfl
    · exact (word_none2 w f neg v k bg ct (ne (fun e => h2 ⟨rfl, e⟩))).mono fun _ _ g => hb g
    · by_cases x0 : f.x ≠ 0
      · by_cases k1 : f.k = 1
        · exact (word_none3t w f neg v k bg ct (nb x0) (tb_ k1)).mono fun _ _ g => hb g
        · exact absurd ⟨rfl, x0, k1⟩ h3
      · exact (word_none3 w f neg v k bg ct (ne x0)).mono fun _ _ g => hb g
    · by_cases k1 : f.k = 1
      · cases neg with
        | false => exact absurd ⟨rfl, k1, rfl⟩ h4
        | true => exact (word_none4n w f v k bg ct (tb_ k1)).mono fun _ _ g => hb g
      · exact (word_none4 w f neg v k bg ct (te k1)).mono fun _ _ g => hb g
/-- The number of an item. -/
theorem numberOf_any (w : World) (K : Int) (neg : Bool) (v : Value) (lo : Nat) (N : M.Nm) (ct : Bool) (h : Nt w lo 2001 v N.d) (hd : N.d < 18446744073709551616 ^ 128) (hk : -3000 ≤ N.k ∧ N.k ≤ 1000) (hb : N.big = 0 ∨ N.big = 1 ∨ N.big = -1) :
    ∃ (a : Nat) (T : Int), M.szn N = M.sz a T T ∧ a < 18446744073709551616 ^ 128 ∧ (-5000 ≤ T ∧ T ≤ 5000) ∧ Calls Tryz.prog 61 #[itv K neg v N.k N.big ct] w (Xr neg 2001 a T T w) := by
  obtain ⟨A, n, c, xs, rfl, h'⟩ := h
  have up1 : ∀ {T : Int} {e : Ending} {w' : World}, Xr neg 1 1 T T w e w' → Xr neg 2001 1 T T w e w' := fun ⟨v, h1, h2, h3⟩ => ⟨v, h1, h2.more (by decide), h3⟩
  rcases hb with e | e | e
  · refine ⟨N.d, N.k, by unfold M.szn; rw [if_pos e], hd, by omega, ?_⟩
    rw [e]
    exact number_in w K neg A n c N.k ct lo N.d ⟨A, n, c, xs, rfl, h'⟩ hd (by omega)
  · refine ⟨1, 1000, by unfold M.szn; rw [if_neg (by omega), e]; rfl, lt_w128 (by decide), by decide, ?_⟩
    rw [e]
    exact (number_up w K neg A n c N.k ct).mono fun _ _ => up1
  · refine ⟨1, -1000, by unfold M.szn; rw [if_neg (by omega), e]; rfl, lt_w128 (by decide), by decide, ?_⟩
    rw [e]
    exact (number_low w K neg A n c N.k ct).mono fun _ _ => up1
end Go.Proofs.YtbbjlcgfaigmdaaGreatDoor
