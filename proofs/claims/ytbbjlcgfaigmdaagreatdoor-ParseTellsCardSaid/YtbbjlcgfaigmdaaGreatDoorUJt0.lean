/-
  The reference of layer 10: Parse.
-/
import Derived.Test.YtbbjlcgfaigmdaaGreatDoorUJp
import Derived.Test.YtbbjlcgfaigmdaaGreatDoorUZda
import Derived.Test.YtbbjlcgfaigmdaaGreatDoorUSza
namespace Go.Proofs.YtbbjlcgfaigmdaaGreatDoor
open Go.RowKit Go.Shelf
set_option linter.unusedSimpArgs false
set_option linter.unusedVariables false

set_option maxHeartbeats 4000000 in
set_option maxRecDepth 100000 in
theorem rp_form (w : World) (ii mode : Int) (s : ByteArray) (h : ii < 1 ∨ 15 ≤ ii) : Calls Tryz.prog 12 #[.int .i64 ii, .int .i64 mode, .string s] w (Pn 0 0 3 w) := by
  have CO := Lib.hid (fun W => rof_out W ii h)
  clear h
  have U := Up.refl w
  go_enter Tryz.func12, Tryz.ntmps12
  go_wp2_with fail
  refine (CO.out _).mono ?_
  rintro _ w1 ⟨rfl, u_⟩
  replace U := U.trans u_
  clear u_
  go_upto_region 2 with fail
  obtain ⟨V1, hV1⟩ : ∃ V, w1.alloc (.cells #[.int .i64 0, .int .i64 0, .int .i64 0, .int .i64 0, .int .u64 0, .int .u64 0, .int .u64 0] 71) = V := ⟨_, rfl⟩
  have C : Bf V1 w1.heap.size 71 ⟨0, 0, 0, 0, 0, 0, 0⟩ := by rw [← hV1]; exact Bf.mk_ w1 ⟨0, 0, 0, 0, 0, 0, 0⟩ 71
  have u_ : Up w1 V1 := by rw [← hV1]; exact (Up.refl _).alloc _
  rw [hV1]
  clear hV1
  replace U := U.trans u_
  clear u_
  go_wp2_with fail
  refine bodyPost_ret (v := .tuple #[.int .u64 0, .int .i64 0, .int .i64 3]) (by simp [results, Tryz.results12, go_sem]) rfl ?_
  exact ⟨rfl, U⟩
set_option maxHeartbeats 4000000 in
set_option maxRecDepth 100000 in
theorem rp_mode (w : World) (i : Nat) (f : M.Fm) (hf : Hid (M.tb i = f)) (i1 : 1 ≤ i) (i2 : i ≤ 14) (mode : Int) (s : ByteArray) (m1 : (mode != 1) = true) (m2 : (mode != 2) = true) : Calls Tryz.prog 12 #[.int .i64 (i : Int), .int .i64 mode, .string s] w (Pn 0 0 1 w) := by
  have CO := Lib.hid (fun W => rof_in W i f hf i1 i2)
  have U := Up.refl w
  go_enter Tryz.func12, Tryz.ntmps12
  go_wp2_with fail
  refine (CO.out _).mono ?_
  rintro _ w1 ⟨rfl, u_⟩
  replace U := U.trans u_
  clear u_
  go_upto_region 2 with fail
  obtain ⟨V1, hV1⟩ : ∃ V, w1.alloc (.cells #[.int .i64 f.k, .int .i64 f.W, .int .i64 f.m, .int .i64 f.b, .int .u64 f.t, .int .u64 f.n, .int .u64 f.x] 71) = V := ⟨_, rfl⟩
  have C : Bf V1 w1.heap.size 71 f := by rw [← hV1]; exact Bf.mk_ w1 f 71
  have u_ : Up w1 V1 := by rw [← hV1]; exact (Up.refl _).alloc _
  rw [hV1]
  clear hV1
  replace U := U.trans u_
  clear u_
  go_wp2_with fail
  refine bodyPost_ret (v := .tuple #[.int .u64 0, .int .i64 0, .int .i64 1]) (by simp [results, Tryz.results12, go_sem]) rfl ?_
  exact ⟨rfl, U⟩
set_option maxHeartbeats 4000000 in
set_option maxRecDepth 100000 in
theorem rp_scan (w : World) (i : Nat) (f : M.Fm) (hf : Hid (M.tb i = f)) (i1 : 1 ≤ i) (i2 : i ≤ 14) (mode : Int) (s : ByteArray) (md : (mode != 1) = false ∨ ((mode != 1) = true ∧ (mode != 2) = false)) (neg : Bool) (K : Int) (j : Nat) (d : Nat) (k bg : Int) (ct : Bool) (CS : Hid (∀ W, Calls Tryz.prog 33 #[.string s] W (Scv K neg d k bg ct (j : Int) 2 W))) : Calls Tryz.prog 12 #[.int .i64 (i : Int), .int .i64 mode, .string s] w (Pn 0 j 2 w) := by
  have CO := Lib.hid (fun W => rof_in W i f hf i1 i2)
  clear i1 i2
  have U := Up.refl w
  go_enter Tryz.func12, Tryz.ntmps12
  go_wp2_with fail
  refine (CO.out _).mono ?_
  rintro _ w1 ⟨rfl, u_⟩
  replace U := U.trans u_
  clear u_
  go_upto_region 2 with fail
  obtain ⟨V1, hV1⟩ : ∃ V, w1.alloc (.cells #[.int .i64 f.k, .int .i64 f.W, .int .i64 f.m, .int .i64 f.b, .int .u64 f.t, .int .u64 f.n, .int .u64 f.x] 71) = V := ⟨_, rfl⟩
  have C : Bf V1 w1.heap.size 71 f := by rw [← hV1]; exact Bf.mk_ w1 f 71
  have u_ : Up w1 V1 := by rw [← hV1]; exact (Up.refl _).alloc _
  rw [hV1]
  clear hV1
  replace U := U.trans u_
  clear u_
  rcases md with m1 | ⟨m1, m2⟩
  all_goals
    go_wp2_with fail
    refine (CS.out _).mono ?_
    rintro _ w2 ⟨A2, n2, c2, xs2, rfl, N2, v2, l2, z2, u_⟩
    replace U := U.trans u_
    replace C := C.up u_
    clear u_ CS
    go_upto_region 7 with fail
    obtain ⟨V2, hV2⟩ : ∃ V, w2.alloc (.cells #[.int .i64 K, .bool neg, .slice A2 n2 c2, .int .i64 k, .int .i64 bg, .bool ct] 74) = V := ⟨_, rfl⟩
    have R : Ob V2 w2.heap.size 74 #[.int .i64 K, .bool neg, .slice A2 n2 c2, .int .i64 k, .int .i64 bg, .bool ct] := by rw [← hV2]; exact Ob.mk_ _ _ _
    have u_ : Up w2 V2 := by rw [← hV2]; exact (Up.refl _).alloc _
    rw [hV2]
    clear hV2
    replace U := U.trans u_
    replace C := C.up u_
    clear u_ N2 v2 l2 z2
    obtain ⟨i0, i1, i2, i3, i4, i5⟩ := R.six
    obtain ⟨C0, C1, C2, C3, C4, C5, C6⟩ := Bf.cs C
    simp only [Nat.zero_add] at C0 C1 C2 C3 C4 C5 C6
  all_goals
    go_wp2_with fail
    refine bodyPost_ret (v := .tuple #[.int .u64 0, .int .i64 (j : Int), .int .i64 2]) (by simp [results, Tryz.results12, go_sem]) rfl ?_
    exact ⟨rfl, U⟩
set_option maxHeartbeats 4000000 in
set_option maxRecDepth 100000 in
theorem rp_none2n (w : World) (i : Nat) (f : M.Fm) (hf : Hid (M.tb i = f)) (i1 : 1 ≤ i) (i2 : i ≤ 14) (mode : Int) (s : ByteArray) (md : (mode != 1) = false ∨ ((mode != 1) = true ∧ (mode != 2) = false)) (d : Nat) (k bg : Int) (ct : Bool) (CS : Hid (∀ W, Calls Tryz.prog 33 #[.string s] W (Scv 2 true d k bg ct 0 0 W))) (S : Int) (CG : Hid (∀ W, Calls Tryz.prog 34 #[fv f] W (Wz S W))) (n0 : (f.n == 0) = true) : Calls Tryz.prog 12 #[.int .i64 (i : Int), .int .i64 mode, .string s] w (Pn 0 1 5 w) := by
  have CO := Lib.hid (fun W => rof_in W i f hf i1 i2)
  clear i1 i2
  have U := Up.refl w
  go_enter Tryz.func12, Tryz.ntmps12
  go_wp2_with fail
  refine (CO.out _).mono ?_
  rintro _ w1 ⟨rfl, u_⟩
  replace U := U.trans u_
  clear u_
  go_upto_region 2 with fail
  obtain ⟨V1, hV1⟩ : ∃ V, w1.alloc (.cells #[.int .i64 f.k, .int .i64 f.W, .int .i64 f.m, .int .i64 f.b, .int .u64 f.t, .int .u64 f.n, .int .u64 f.x] 71) = V := ⟨_, rfl⟩
  have C : Bf V1 w1.heap.size 71 f := by rw [← hV1]; exact Bf.mk_ w1 f 71
  have u_ : Up w1 V1 := by rw [← hV1]; exact (Up.refl _).alloc _
  rw [hV1]
  clear hV1
  replace U := U.trans u_
  clear u_
  rcases md with m1 | ⟨m1, m2⟩
  all_goals
    go_wp2_with fail
    refine (CS.out _).mono ?_
    rintro _ w2 ⟨A2, n2, c2, xs2, rfl, N2, v2, l2, z2, u_⟩
    replace U := U.trans u_
    replace C := C.up u_
    clear u_ CS
    go_upto_region 7 with fail
    obtain ⟨V2, hV2⟩ : ∃ V, w2.alloc (.cells #[.int .i64 2, .bool true, .slice A2 n2 c2, .int .i64 k, .int .i64 bg, .bool ct] 74) = V := ⟨_, rfl⟩
    have R : Ob V2 w2.heap.size 74 #[.int .i64 2, .bool true, .slice A2 n2 c2, .int .i64 k, .int .i64 bg, .bool ct] := by rw [← hV2]; exact Ob.mk_ _ _ _
    have u_ : Up w2 V2 := by rw [← hV2]; exact (Up.refl _).alloc _
    rw [hV2]
    clear hV2
    replace U := U.trans u_
    replace C := C.up u_
    clear u_ N2 v2 l2 z2
    obtain ⟨i0, i1, i2, i3, i4, i5⟩ := R.six
    obtain ⟨C0, C1, C2, C3, C4, C5, C6⟩ := Bf.cs C
    simp only [Nat.zero_add] at C0 C1 C2 C3 C4 C5 C6
  all_goals
    go_wp2_with fail
    refine (CG.out _).mono ?_
    rintro _ w3 ⟨rfl, u_⟩
    replace U := U.trans u_
    replace C := C.up u_
    replace R := R.up u_
    clear u_ CG i0 i1 i2 i3 i4 i5 C0 C1 C2 C3 C4 C5 C6
    obtain ⟨i0, i1, i2, i3, i4, i5⟩ := R.six
    obtain ⟨C0, C1, C2, C3, C4, C5, C6⟩ := Bf.cs C
    simp only [Nat.zero_add] at C0 C1 C2 C3 C4 C5 C6
  all_goals
    go_wp2_with fail
    refine bodyPost_ret (v := .tuple #[.int .u64 0, .int .i64 1, .int .i64 5]) (by simp [results, Tryz.results12, go_sem]) rfl ?_
    exact ⟨rfl, U⟩
set_option maxHeartbeats 4000000 in
set_option maxRecDepth 100000 in
theorem rp_infn (w : World) (i : Nat) (f : M.Fm) (hf : Hid (M.tb i = f)) (i1 : 1 ≤ i) (i2 : i ≤ 14) (mode : Int) (s : ByteArray) (md : (mode != 1) = false ∨ ((mode != 1) = true ∧ (mode != 2) = false)) (d : Nat) (k bg : Int) (ct : Bool) (CS : Hid (∀ W, Calls Tryz.prog 33 #[.string s] W (Scv 2 true d k bg ct 0 0 W))) (S : Int) (CG : Hid (∀ W, Calls Tryz.prog 34 #[fv f] W (Wz S W))) (n1 : (f.n == 0) = false) (p : Int) (hp : Go.bits BinOp.or IntKind.u64 f.n S = p) : Calls Tryz.prog 12 #[.int .i64 (i : Int), .int .i64 mode, .string s] w (Pn p 0 0 w) := by
  have CO := Lib.hid (fun W => rof_in W i f hf i1 i2)
  clear i1 i2
  have U := Up.refl w
  go_enter Tryz.func12, Tryz.ntmps12
  go_wp2_with fail
  refine (CO.out _).mono ?_
  rintro _ w1 ⟨rfl, u_⟩
  replace U := U.trans u_
  clear u_
  go_upto_region 2 with fail
  obtain ⟨V1, hV1⟩ : ∃ V, w1.alloc (.cells #[.int .i64 f.k, .int .i64 f.W, .int .i64 f.m, .int .i64 f.b, .int .u64 f.t, .int .u64 f.n, .int .u64 f.x] 71) = V := ⟨_, rfl⟩
  have C : Bf V1 w1.heap.size 71 f := by rw [← hV1]; exact Bf.mk_ w1 f 71
  have u_ : Up w1 V1 := by rw [← hV1]; exact (Up.refl _).alloc _
  rw [hV1]
  clear hV1
  replace U := U.trans u_
  clear u_
  rcases md with m1 | ⟨m1, m2⟩
  all_goals
    go_wp2_with fail
    refine (CS.out _).mono ?_
    rintro _ w2 ⟨A2, n2, c2, xs2, rfl, N2, v2, l2, z2, u_⟩
    replace U := U.trans u_
    replace C := C.up u_
    clear u_ CS
    go_upto_region 7 with fail
    obtain ⟨V2, hV2⟩ : ∃ V, w2.alloc (.cells #[.int .i64 2, .bool true, .slice A2 n2 c2, .int .i64 k, .int .i64 bg, .bool ct] 74) = V := ⟨_, rfl⟩
    have R : Ob V2 w2.heap.size 74 #[.int .i64 2, .bool true, .slice A2 n2 c2, .int .i64 k, .int .i64 bg, .bool ct] := by rw [← hV2]; exact Ob.mk_ _ _ _
    have u_ : Up w2 V2 := by rw [← hV2]; exact (Up.refl _).alloc _
    rw [hV2]
    clear hV2
    replace U := U.trans u_
    replace C := C.up u_
    clear u_ N2 v2 l2 z2
    obtain ⟨i0, i1, i2, i3, i4, i5⟩ := R.six
    obtain ⟨C0, C1, C2, C3, C4, C5, C6⟩ := Bf.cs C
    simp only [Nat.zero_add] at C0 C1 C2 C3 C4 C5 C6
  all_goals
    go_wp2_with fail
    refine (CG.out _).mono ?_
    rintro _ w3 ⟨rfl, u_⟩
    replace U := U.trans u_
    replace C := C.up u_
    replace R := R.up u_
    clear u_ CG i0 i1 i2 i3 i4 i5 C0 C1 C2 C3 C4 C5 C6
    obtain ⟨i0, i1, i2, i3, i4, i5⟩ := R.six
    obtain ⟨C0, C1, C2, C3, C4, C5, C6⟩ := Bf.cs C
    simp only [Nat.zero_add] at C0 C1 C2 C3 C4 C5 C6
  all_goals
    go_wp2_with fail
    refine bodyPost_ret (v := .tuple #[.int .u64 p, .int .i64 0, .int .i64 0]) (by simp [results, Tryz.results12, go_sem]) rfl ?_
    exact ⟨rfl, U⟩
set_option maxHeartbeats 4000000 in
set_option maxRecDepth 100000 in
theorem rp_none3n (w : World) (i : Nat) (f : M.Fm) (hf : Hid (M.tb i = f)) (i1 : 1 ≤ i) (i2 : i ≤ 14) (mode : Int) (s : ByteArray) (md : (mode != 1) = false ∨ ((mode != 1) = true ∧ (mode != 2) = false)) (d : Nat) (k bg : Int) (ct : Bool) (CS : Hid (∀ W, Calls Tryz.prog 33 #[.string s] W (Scv 3 true d k bg ct 0 0 W))) (S : Int) (CG : Hid (∀ W, Calls Tryz.prog 34 #[fv f] W (Wz S W))) (t0 : (f.k == 1) = false) (x0 : (f.x == 0) = true) : Calls Tryz.prog 12 #[.int .i64 (i : Int), .int .i64 mode, .string s] w (Pn 0 1 5 w) := by
  have CO := Lib.hid (fun W => rof_in W i f hf i1 i2)
  clear i1 i2
  have U := Up.refl w
  go_enter Tryz.func12, Tryz.ntmps12
  go_wp2_with fail
  refine (CO.out _).mono ?_
  rintro _ w1 ⟨rfl, u_⟩
  replace U := U.trans u_
  clear u_
  go_upto_region 2 with fail
  obtain ⟨V1, hV1⟩ : ∃ V, w1.alloc (.cells #[.int .i64 f.k, .int .i64 f.W, .int .i64 f.m, .int .i64 f.b, .int .u64 f.t, .int .u64 f.n, .int .u64 f.x] 71) = V := ⟨_, rfl⟩
  have C : Bf V1 w1.heap.size 71 f := by rw [← hV1]; exact Bf.mk_ w1 f 71
  have u_ : Up w1 V1 := by rw [← hV1]; exact (Up.refl _).alloc _
  rw [hV1]
  clear hV1
  replace U := U.trans u_
  clear u_
  rcases md with m1 | ⟨m1, m2⟩
  all_goals
    go_wp2_with fail
    refine (CS.out _).mono ?_
    rintro _ w2 ⟨A2, n2, c2, xs2, rfl, N2, v2, l2, z2, u_⟩
    replace U := U.trans u_
    replace C := C.up u_
    clear u_ CS
    go_upto_region 7 with fail
    obtain ⟨V2, hV2⟩ : ∃ V, w2.alloc (.cells #[.int .i64 3, .bool true, .slice A2 n2 c2, .int .i64 k, .int .i64 bg, .bool ct] 74) = V := ⟨_, rfl⟩
    have R : Ob V2 w2.heap.size 74 #[.int .i64 3, .bool true, .slice A2 n2 c2, .int .i64 k, .int .i64 bg, .bool ct] := by rw [← hV2]; exact Ob.mk_ _ _ _
    have u_ : Up w2 V2 := by rw [← hV2]; exact (Up.refl _).alloc _
    rw [hV2]
    clear hV2
    replace U := U.trans u_
    replace C := C.up u_
    clear u_ N2 v2 l2 z2
    obtain ⟨i0, i1, i2, i3, i4, i5⟩ := R.six
    obtain ⟨C0, C1, C2, C3, C4, C5, C6⟩ := Bf.cs C
    simp only [Nat.zero_add] at C0 C1 C2 C3 C4 C5 C6
  all_goals
    go_wp2_with fail
    refine (CG.out _).mono ?_
    rintro _ w3 ⟨rfl, u_⟩
    replace U := U.trans u_
    replace C := C.up u_
    replace R := R.up u_
    clear u_ CG i0 i1 i2 i3 i4 i5 C0 C1 C2 C3 C4 C5 C6
    obtain ⟨i0, i1, i2, i3, i4, i5⟩ := R.six
    obtain ⟨C0, C1, C2, C3, C4, C5, C6⟩ := Bf.cs C
    simp only [Nat.zero_add] at C0 C1 C2 C3 C4 C5 C6
  all_goals
    go_wp2_with fail
    refine bodyPost_ret (v := .tuple #[.int .u64 0, .int .i64 1, .int .i64 5]) (by simp [results, Tryz.results12, go_sem]) rfl ?_
    exact ⟨rfl, U⟩
set_option maxHeartbeats 4000000 in
set_option maxRecDepth 100000 in
theorem rp_none3tn (w : World) (i : Nat) (f : M.Fm) (hf : Hid (M.tb i = f)) (i1 : 1 ≤ i) (i2 : i ≤ 14) (mode : Int) (s : ByteArray) (md : (mode != 1) = false ∨ ((mode != 1) = true ∧ (mode != 2) = false)) (d : Nat) (k bg : Int) (ct : Bool) (CS : Hid (∀ W, Calls Tryz.prog 33 #[.string s] W (Scv 3 true d k bg ct 0 0 W))) (S : Int) (CG : Hid (∀ W, Calls Tryz.prog 34 #[fv f] W (Wz S W))) (t1 : (f.k == 1) = true) : Calls Tryz.prog 12 #[.int .i64 (i : Int), .int .i64 mode, .string s] w (Pn 0 1 5 w) := by
  have CO := Lib.hid (fun W => rof_in W i f hf i1 i2)
  clear i1 i2
  have U := Up.refl w
  go_enter Tryz.func12, Tryz.ntmps12
  go_wp2_with fail
  refine (CO.out _).mono ?_
  rintro _ w1 ⟨rfl, u_⟩
  replace U := U.trans u_
  clear u_
  go_upto_region 2 with fail
  obtain ⟨V1, hV1⟩ : ∃ V, w1.alloc (.cells #[.int .i64 f.k, .int .i64 f.W, .int .i64 f.m, .int .i64 f.b, .int .u64 f.t, .int .u64 f.n, .int .u64 f.x] 71) = V := ⟨_, rfl⟩
  have C : Bf V1 w1.heap.size 71 f := by rw [← hV1]; exact Bf.mk_ w1 f 71
  have u_ : Up w1 V1 := by rw [← hV1]; exact (Up.refl _).alloc _
  rw [hV1]
  clear hV1
  replace U := U.trans u_
  clear u_
  rcases md with m1 | ⟨m1, m2⟩
  all_goals
    go_wp2_with fail
    refine (CS.out _).mono ?_
    rintro _ w2 ⟨A2, n2, c2, xs2, rfl, N2, v2, l2, z2, u_⟩
    replace U := U.trans u_
    replace C := C.up u_
    clear u_ CS
    go_upto_region 7 with fail
    obtain ⟨V2, hV2⟩ : ∃ V, w2.alloc (.cells #[.int .i64 3, .bool true, .slice A2 n2 c2, .int .i64 k, .int .i64 bg, .bool ct] 74) = V := ⟨_, rfl⟩
    have R : Ob V2 w2.heap.size 74 #[.int .i64 3, .bool true, .slice A2 n2 c2, .int .i64 k, .int .i64 bg, .bool ct] := by rw [← hV2]; exact Ob.mk_ _ _ _
    have u_ : Up w2 V2 := by rw [← hV2]; exact (Up.refl _).alloc _
    rw [hV2]
    clear hV2
    replace U := U.trans u_
    replace C := C.up u_
    clear u_ N2 v2 l2 z2
    obtain ⟨i0, i1, i2, i3, i4, i5⟩ := R.six
    obtain ⟨C0, C1, C2, C3, C4, C5, C6⟩ := Bf.cs C
    simp only [Nat.zero_add] at C0 C1 C2 C3 C4 C5 C6
  all_goals
    go_wp2_with fail
    refine (CG.out _).mono ?_
    rintro _ w3 ⟨rfl, u_⟩
    replace U := U.trans u_
    replace C := C.up u_
    replace R := R.up u_
    clear u_ CG i0 i1 i2 i3 i4 i5 C0 C1 C2 C3 C4 C5 C6
    obtain ⟨i0, i1, i2, i3, i4, i5⟩ := R.six
    obtain ⟨C0, C1, C2, C3, C4, C5, C6⟩ := Bf.cs C
    simp only [Nat.zero_add] at C0 C1 C2 C3 C4 C5 C6
  all_goals
    go_wp2_with fail
    refine bodyPost_ret (v := .tuple #[.int .u64 0, .int .i64 1, .int .i64 5]) (by simp [results, Tryz.results12, go_sem]) rfl ?_
    exact ⟨rfl, U⟩
set_option maxHeartbeats 4000000 in
set_option maxRecDepth 100000 in
theorem rp_nann (w : World) (i : Nat) (f : M.Fm) (hf : Hid (M.tb i = f)) (i1 : 1 ≤ i) (i2 : i ≤ 14) (mode : Int) (s : ByteArray) (md : (mode != 1) = false ∨ ((mode != 1) = true ∧ (mode != 2) = false)) (d : Nat) (k bg : Int) (ct : Bool) (CS : Hid (∀ W, Calls Tryz.prog 33 #[.string s] W (Scv 3 true d k bg ct 0 0 W))) (S : Int) (CG : Hid (∀ W, Calls Tryz.prog 34 #[fv f] W (Wz S W))) (t0 : (f.k == 1) = false) (x1 : (f.x == 0) = false) : Calls Tryz.prog 12 #[.int .i64 (i : Int), .int .i64 mode, .string s] w (Pn f.x 0 0 w) := by
  have CO := Lib.hid (fun W => rof_in W i f hf i1 i2)
  clear i1 i2
  have U := Up.refl w
  go_enter Tryz.func12, Tryz.ntmps12
  go_wp2_with fail
  refine (CO.out _).mono ?_
  rintro _ w1 ⟨rfl, u_⟩
  replace U := U.trans u_
  clear u_
  go_upto_region 2 with fail
  obtain ⟨V1, hV1⟩ : ∃ V, w1.alloc (.cells #[.int .i64 f.k, .int .i64 f.W, .int .i64 f.m, .int .i64 f.b, .int .u64 f.t, .int .u64 f.n, .int .u64 f.x] 71) = V := ⟨_, rfl⟩
  have C : Bf V1 w1.heap.size 71 f := by rw [← hV1]; exact Bf.mk_ w1 f 71
  have u_ : Up w1 V1 := by rw [← hV1]; exact (Up.refl _).alloc _
  rw [hV1]
  clear hV1
  replace U := U.trans u_
  clear u_
  rcases md with m1 | ⟨m1, m2⟩
  all_goals
    go_wp2_with fail
    refine (CS.out _).mono ?_
    rintro _ w2 ⟨A2, n2, c2, xs2, rfl, N2, v2, l2, z2, u_⟩
    replace U := U.trans u_
    replace C := C.up u_
    clear u_ CS
    go_upto_region 7 with fail
    obtain ⟨V2, hV2⟩ : ∃ V, w2.alloc (.cells #[.int .i64 3, .bool true, .slice A2 n2 c2, .int .i64 k, .int .i64 bg, .bool ct] 74) = V := ⟨_, rfl⟩
    have R : Ob V2 w2.heap.size 74 #[.int .i64 3, .bool true, .slice A2 n2 c2, .int .i64 k, .int .i64 bg, .bool ct] := by rw [← hV2]; exact Ob.mk_ _ _ _
    have u_ : Up w2 V2 := by rw [← hV2]; exact (Up.refl _).alloc _
    rw [hV2]
    clear hV2
    replace U := U.trans u_
    replace C := C.up u_
    clear u_ N2 v2 l2 z2
    obtain ⟨i0, i1, i2, i3, i4, i5⟩ := R.six
    obtain ⟨C0, C1, C2, C3, C4, C5, C6⟩ := Bf.cs C
    simp only [Nat.zero_add] at C0 C1 C2 C3 C4 C5 C6
  all_goals
    go_wp2_with fail
    refine (CG.out _).mono ?_
    rintro _ w3 ⟨rfl, u_⟩
    replace U := U.trans u_
    replace C := C.up u_
    replace R := R.up u_
    clear u_ CG i0 i1 i2 i3 i4 i5 C0 C1 C2 C3 C4 C5 C6
    obtain ⟨i0, i1, i2, i3, i4, i5⟩ := R.six
    obtain ⟨C0, C1, C2, C3, C4, C5, C6⟩ := Bf.cs C
    simp only [Nat.zero_add] at C0 C1 C2 C3 C4 C5 C6
  all_goals
    go_wp2_with fail
    refine bodyPost_ret (v := .tuple #[.int .u64 f.x, .int .i64 0, .int .i64 0]) (by simp [results, Tryz.results12, go_sem]) rfl ?_
    exact ⟨rfl, U⟩
set_option maxHeartbeats 4000000 in
set_option maxRecDepth 100000 in
theorem rp_none4n (w : World) (i : Nat) (f : M.Fm) (hf : Hid (M.tb i = f)) (i1 : 1 ≤ i) (i2 : i ≤ 14) (mode : Int) (s : ByteArray) (md : (mode != 1) = false ∨ ((mode != 1) = true ∧ (mode != 2) = false)) (d : Nat) (k bg : Int) (ct : Bool) (CS : Hid (∀ W, Calls Tryz.prog 33 #[.string s] W (Scv 4 true d k bg ct 0 0 W))) (S : Int) (CG : Hid (∀ W, Calls Tryz.prog 34 #[fv f] W (Wz S W))) (t0 : (f.k == 1) = false) : Calls Tryz.prog 12 #[.int .i64 (i : Int), .int .i64 mode, .string s] w (Pn 0 1 5 w) := by
  have CO := Lib.hid (fun W => rof_in W i f hf i1 i2)
  clear i1 i2
  have U := Up.refl w
  go_enter Tryz.func12, Tryz.ntmps12
  go_wp2_with fail
  refine (CO.out _).mono ?_
  rintro _ w1 ⟨rfl, u_⟩
  replace U := U.trans u_
  clear u_
  go_upto_region 2 with fail
  obtain ⟨V1, hV1⟩ : ∃ V, w1.alloc (.cells #[.int .i64 f.k, .int .i64 f.W, .int .i64 f.m, .int .i64 f.b, .int .u64 f.t, .int .u64 f.n, .int .u64 f.x] 71) = V := ⟨_, rfl⟩
  have C : Bf V1 w1.heap.size 71 f := by rw [← hV1]; exact Bf.mk_ w1 f 71
  have u_ : Up w1 V1 := by rw [← hV1]; exact (Up.refl _).alloc _
  rw [hV1]
  clear hV1
  replace U := U.trans u_
  clear u_
  rcases md with m1 | ⟨m1, m2⟩
  all_goals
    go_wp2_with fail
    refine (CS.out _).mono ?_
    rintro _ w2 ⟨A2, n2, c2, xs2, rfl, N2, v2, l2, z2, u_⟩
    replace U := U.trans u_
    replace C := C.up u_
    clear u_ CS
    go_upto_region 7 with fail
    obtain ⟨V2, hV2⟩ : ∃ V, w2.alloc (.cells #[.int .i64 4, .bool true, .slice A2 n2 c2, .int .i64 k, .int .i64 bg, .bool ct] 74) = V := ⟨_, rfl⟩
    have R : Ob V2 w2.heap.size 74 #[.int .i64 4, .bool true, .slice A2 n2 c2, .int .i64 k, .int .i64 bg, .bool ct] := by rw [← hV2]; exact Ob.mk_ _ _ _
    have u_ : Up w2 V2 := by rw [← hV2]; exact (Up.refl _).alloc _
    rw [hV2]
    clear hV2
    replace U := U.trans u_
    replace C := C.up u_
    clear u_ N2 v2 l2 z2
    obtain ⟨i0, i1, i2, i3, i4, i5⟩ := R.six
    obtain ⟨C0, C1, C2, C3, C4, C5, C6⟩ := Bf.cs C
    simp only [Nat.zero_add] at C0 C1 C2 C3 C4 C5 C6
  all_goals
    go_wp2_with fail
    refine (CG.out _).mono ?_
    rintro _ w3 ⟨rfl, u_⟩
    replace U := U.trans u_
    replace C := C.up u_
    replace R := R.up u_
    clear u_ CG i0 i1 i2 i3 i4 i5 C0 C1 C2 C3 C4 C5 C6
    obtain ⟨i0, i1, i2, i3, i4, i5⟩ := R.six
    obtain ⟨C0, C1, C2, C3, C4, C5, C6⟩ := Bf.cs C
    simp only [Nat.zero_add] at C0 C1 C2 C3 C4 C5 C6
  all_goals
    go_wp2_with fail
    refine bodyPost_ret (v := .tuple #[.int .u64 0, .int .i64 1, .int .i64 5]) (by simp [results, Tryz.results12, go_sem]) rfl ?_
    exact ⟨rfl, U⟩
set_option maxHeartbeats 4000000 in
set_option maxRecDepth 100000 in
theorem rp_none4tn (w : World) (i : Nat) (f : M.Fm) (hf : Hid (M.tb i = f)) (i1 : 1 ≤ i) (i2 : i ≤ 14) (mode : Int) (s : ByteArray) (md : (mode != 1) = false ∨ ((mode != 1) = true ∧ (mode != 2) = false)) (d : Nat) (k bg : Int) (ct : Bool) (CS : Hid (∀ W, Calls Tryz.prog 33 #[.string s] W (Scv 4 true d k bg ct 0 0 W))) (S : Int) (CG : Hid (∀ W, Calls Tryz.prog 34 #[fv f] W (Wz S W))) (t1 : (f.k == 1) = true) : Calls Tryz.prog 12 #[.int .i64 (i : Int), .int .i64 mode, .string s] w (Pn 0 1 5 w) := by
  have CO := Lib.hid (fun W => rof_in W i f hf i1 i2)
  clear i1 i2
  have U := Up.refl w
  go_enter Tryz.func12, Tryz.ntmps12
  go_wp2_with fail
  refine (CO.out _).mono ?_
  rintro _ w1 ⟨rfl, u_⟩
  replace U := U.trans u_
  clear u_
  go_upto_region 2 with fail
  obtain ⟨V1, hV1⟩ : ∃ V, w1.alloc (.cells #[.int .i64 f.k, .int .i64 f.W, .int .i64 f.m, .int .i64 f.b, .int .u64 f.t, .int .u64 f.n, .int .u64 f.x] 71) = V := ⟨_, rfl⟩
  have C : Bf V1 w1.heap.size 71 f := by rw [← hV1]; exact Bf.mk_ w1 f 71
  have u_ : Up w1 V1 := by rw [← hV1]; exact (Up.refl _).alloc _
  rw [hV1]
  clear hV1
  replace U := U.trans u_
  clear u_
  rcases md with m1 | ⟨m1, m2⟩
  all_goals
    go_wp2_with fail
    refine (CS.out _).mono ?_
    rintro _ w2 ⟨A2, n2, c2, xs2, rfl, N2, v2, l2, z2, u_⟩
    replace U := U.trans u_
    replace C := C.up u_
    clear u_ CS
    go_upto_region 7 with fail
    obtain ⟨V2, hV2⟩ : ∃ V, w2.alloc (.cells #[.int .i64 4, .bool true, .slice A2 n2 c2, .int .i64 k, .int .i64 bg, .bool ct] 74) = V := ⟨_, rfl⟩
    have R : Ob V2 w2.heap.size 74 #[.int .i64 4, .bool true, .slice A2 n2 c2, .int .i64 k, .int .i64 bg, .bool ct] := by rw [← hV2]; exact Ob.mk_ _ _ _
    have u_ : Up w2 V2 := by rw [← hV2]; exact (Up.refl _).alloc _
    rw [hV2]
    clear hV2
    replace U := U.trans u_
    replace C := C.up u_
    clear u_ N2 v2 l2 z2
    obtain ⟨i0, i1, i2, i3, i4, i5⟩ := R.six
    obtain ⟨C0, C1, C2, C3, C4, C5, C6⟩ := Bf.cs C
    simp only [Nat.zero_add] at C0 C1 C2 C3 C4 C5 C6
  all_goals
    go_wp2_with fail
    refine (CG.out _).mono ?_
    rintro _ w3 ⟨rfl, u_⟩
    replace U := U.trans u_
    replace C := C.up u_
    replace R := R.up u_
    clear u_ CG i0 i1 i2 i3 i4 i5 C0 C1 C2 C3 C4 C5 C6
    obtain ⟨i0, i1, i2, i3, i4, i5⟩ := R.six
    obtain ⟨C0, C1, C2, C3, C4, C5, C6⟩ := Bf.cs C
    simp only [Nat.zero_add] at C0 C1 C2 C3 C4 C5 C6
  all_goals
    go_wp2_with fail
    refine bodyPost_ret (v := .tuple #[.int .u64 0, .int .i64 1, .int .i64 5]) (by simp [results, Tryz.results12, go_sem]) rfl ?_
    exact ⟨rfl, U⟩
set_option maxHeartbeats 4000000 in
set_option maxRecDepth 100000 in
theorem rp_none2p (w : World) (i : Nat) (f : M.Fm) (hf : Hid (M.tb i = f)) (i1 : 1 ≤ i) (i2 : i ≤ 14) (mode : Int) (s : ByteArray) (md : (mode != 1) = false ∨ ((mode != 1) = true ∧ (mode != 2) = false)) (d : Nat) (k bg : Int) (ct : Bool) (CS : Hid (∀ W, Calls Tryz.prog 33 #[.string s] W (Scv 2 false d k bg ct 0 0 W))) (n0 : (f.n == 0) = true) : Calls Tryz.prog 12 #[.int .i64 (i : Int), .int .i64 mode, .string s] w (Pn 0 0 5 w) := by
  have CO := Lib.hid (fun W => rof_in W i f hf i1 i2)
  clear i1 i2
  have U := Up.refl w
  go_enter Tryz.func12, Tryz.ntmps12
  go_wp2_with fail
  refine (CO.out _).mono ?_
  rintro _ w1 ⟨rfl, u_⟩
  replace U := U.trans u_
  clear u_
  go_upto_region 2 with fail
  obtain ⟨V1, hV1⟩ : ∃ V, w1.alloc (.cells #[.int .i64 f.k, .int .i64 f.W, .int .i64 f.m, .int .i64 f.b, .int .u64 f.t, .int .u64 f.n, .int .u64 f.x] 71) = V := ⟨_, rfl⟩
  have C : Bf V1 w1.heap.size 71 f := by rw [← hV1]; exact Bf.mk_ w1 f 71
  have u_ : Up w1 V1 := by rw [← hV1]; exact (Up.refl _).alloc _
  rw [hV1]
  clear hV1
  replace U := U.trans u_
  clear u_
  rcases md with m1 | ⟨m1, m2⟩
  all_goals
    go_wp2_with fail
    refine (CS.out _).mono ?_
    rintro _ w2 ⟨A2, n2, c2, xs2, rfl, N2, v2, l2, z2, u_⟩
    replace U := U.trans u_
    replace C := C.up u_
    clear u_ CS
    go_upto_region 7 with fail
    obtain ⟨V2, hV2⟩ : ∃ V, w2.alloc (.cells #[.int .i64 2, .bool false, .slice A2 n2 c2, .int .i64 k, .int .i64 bg, .bool ct] 74) = V := ⟨_, rfl⟩
    have R : Ob V2 w2.heap.size 74 #[.int .i64 2, .bool false, .slice A2 n2 c2, .int .i64 k, .int .i64 bg, .bool ct] := by rw [← hV2]; exact Ob.mk_ _ _ _
    have u_ : Up w2 V2 := by rw [← hV2]; exact (Up.refl _).alloc _
    rw [hV2]
    clear hV2
    replace U := U.trans u_
    replace C := C.up u_
    clear u_ N2 v2 l2 z2
    obtain ⟨i0, i1, i2, i3, i4, i5⟩ := R.six
    obtain ⟨C0, C1, C2, C3, C4, C5, C6⟩ := Bf.cs C
    simp only [Nat.zero_add] at C0 C1 C2 C3 C4 C5 C6
  all_goals
    go_wp2_with fail
    refine bodyPost_ret (v := .tuple #[.int .u64 0, .int .i64 0, .int .i64 5]) (by simp [results, Tryz.results12, go_sem]) rfl ?_
    exact ⟨rfl, U⟩
set_option maxHeartbeats 4000000 in
set_option maxRecDepth 100000 in
theorem rp_infp (w : World) (i : Nat) (f : M.Fm) (hf : Hid (M.tb i = f)) (i1 : 1 ≤ i) (i2 : i ≤ 14) (mode : Int) (s : ByteArray) (md : (mode != 1) = false ∨ ((mode != 1) = true ∧ (mode != 2) = false)) (d : Nat) (k bg : Int) (ct : Bool) (CS : Hid (∀ W, Calls Tryz.prog 33 #[.string s] W (Scv 2 false d k bg ct 0 0 W))) (n1 : (f.n == 0) = false) (p : Int) (hp : Go.bits BinOp.or IntKind.u64 f.n 0 = p) : Calls Tryz.prog 12 #[.int .i64 (i : Int), .int .i64 mode, .string s] w (Pn p 0 0 w) := by
  have CO := Lib.hid (fun W => rof_in W i f hf i1 i2)
  clear i1 i2
  have U := Up.refl w
  go_enter Tryz.func12, Tryz.ntmps12
  go_wp2_with fail
  refine (CO.out _).mono ?_
  rintro _ w1 ⟨rfl, u_⟩
  replace U := U.trans u_
  clear u_
  go_upto_region 2 with fail
  obtain ⟨V1, hV1⟩ : ∃ V, w1.alloc (.cells #[.int .i64 f.k, .int .i64 f.W, .int .i64 f.m, .int .i64 f.b, .int .u64 f.t, .int .u64 f.n, .int .u64 f.x] 71) = V := ⟨_, rfl⟩
  have C : Bf V1 w1.heap.size 71 f := by rw [← hV1]; exact Bf.mk_ w1 f 71
  have u_ : Up w1 V1 := by rw [← hV1]; exact (Up.refl _).alloc _
  rw [hV1]
  clear hV1
  replace U := U.trans u_
  clear u_
  rcases md with m1 | ⟨m1, m2⟩
  all_goals
    go_wp2_with fail
    refine (CS.out _).mono ?_
    rintro _ w2 ⟨A2, n2, c2, xs2, rfl, N2, v2, l2, z2, u_⟩
    replace U := U.trans u_
    replace C := C.up u_
    clear u_ CS
    go_upto_region 7 with fail
    obtain ⟨V2, hV2⟩ : ∃ V, w2.alloc (.cells #[.int .i64 2, .bool false, .slice A2 n2 c2, .int .i64 k, .int .i64 bg, .bool ct] 74) = V := ⟨_, rfl⟩
    have R : Ob V2 w2.heap.size 74 #[.int .i64 2, .bool false, .slice A2 n2 c2, .int .i64 k, .int .i64 bg, .bool ct] := by rw [← hV2]; exact Ob.mk_ _ _ _
    have u_ : Up w2 V2 := by rw [← hV2]; exact (Up.refl _).alloc _
    rw [hV2]
    clear hV2
    replace U := U.trans u_
    replace C := C.up u_
    clear u_ N2 v2 l2 z2
    obtain ⟨i0, i1, i2, i3, i4, i5⟩ := R.six
    obtain ⟨C0, C1, C2, C3, C4, C5, C6⟩ := Bf.cs C
    simp only [Nat.zero_add] at C0 C1 C2 C3 C4 C5 C6
  all_goals
    go_wp2_with fail
    refine bodyPost_ret (v := .tuple #[.int .u64 p, .int .i64 0, .int .i64 0]) (by simp [results, Tryz.results12, go_sem]) rfl ?_
    exact ⟨rfl, U⟩
set_option maxHeartbeats 4000000 in
set_option maxRecDepth 100000 in
theorem rp_none3p (w : World) (i : Nat) (f : M.Fm) (hf : Hid (M.tb i = f)) (i1 : 1 ≤ i) (i2 : i ≤ 14) (mode : Int) (s : ByteArray) (md : (mode != 1) = false ∨ ((mode != 1) = true ∧ (mode != 2) = false)) (d : Nat) (k bg : Int) (ct : Bool) (CS : Hid (∀ W, Calls Tryz.prog 33 #[.string s] W (Scv 3 false d k bg ct 0 0 W))) (t0 : (f.k == 1) = false) (x0 : (f.x == 0) = true) : Calls Tryz.prog 12 #[.int .i64 (i : Int), .int .i64 mode, .string s] w (Pn 0 0 5 w) := by
  have CO := Lib.hid (fun W => rof_in W i f hf i1 i2)
  clear i1 i2
  have U := Up.refl w
  go_enter Tryz.func12, Tryz.ntmps12
  go_wp2_with fail
  refine (CO.out _).mono ?_
  rintro _ w1 ⟨rfl, u_⟩
  replace U := U.trans u_
  clear u_
  go_upto_region 2 with fail
  obtain ⟨V1, hV1⟩ : ∃ V, w1.alloc (.cells #[.int .i64 f.k, .int .i64 f.W, .int .i64 f.m, .int .i64 f.b, .int .u64 f.t, .int .u64 f.n, .int .u64 f.x] 71) = V := ⟨_, rfl⟩
  have C : Bf V1 w1.heap.size 71 f := by rw [← hV1]; exact Bf.mk_ w1 f 71
  have u_ : Up w1 V1 := by rw [← hV1]; exact (Up.refl _).alloc _
  rw [hV1]
  clear hV1
  replace U := U.trans u_
  clear u_
  rcases md with m1 | ⟨m1, m2⟩
  all_goals
    go_wp2_with fail
    refine (CS.out _).mono ?_
    rintro _ w2 ⟨A2, n2, c2, xs2, rfl, N2, v2, l2, z2, u_⟩
    replace U := U.trans u_
    replace C := C.up u_
    clear u_ CS
    go_upto_region 7 with fail
    obtain ⟨V2, hV2⟩ : ∃ V, w2.alloc (.cells #[.int .i64 3, .bool false, .slice A2 n2 c2, .int .i64 k, .int .i64 bg, .bool ct] 74) = V := ⟨_, rfl⟩
    have R : Ob V2 w2.heap.size 74 #[.int .i64 3, .bool false, .slice A2 n2 c2, .int .i64 k, .int .i64 bg, .bool ct] := by rw [← hV2]; exact Ob.mk_ _ _ _
    have u_ : Up w2 V2 := by rw [← hV2]; exact (Up.refl _).alloc _
    rw [hV2]
    clear hV2
    replace U := U.trans u_
    replace C := C.up u_
    clear u_ N2 v2 l2 z2
    obtain ⟨i0, i1, i2, i3, i4, i5⟩ := R.six
    obtain ⟨C0, C1, C2, C3, C4, C5, C6⟩ := Bf.cs C
    simp only [Nat.zero_add] at C0 C1 C2 C3 C4 C5 C6
  all_goals
    go_wp2_with fail
    refine bodyPost_ret (v := .tuple #[.int .u64 0, .int .i64 0, .int .i64 5]) (by simp [results, Tryz.results12, go_sem]) rfl ?_
    exact ⟨rfl, U⟩
set_option maxHeartbeats 4000000 in
set_option maxRecDepth 100000 in
theorem rp_none3tp (w : World) (i : Nat) (f : M.Fm) (hf : Hid (M.tb i = f)) (i1 : 1 ≤ i) (i2 : i ≤ 14) (mode : Int) (s : ByteArray) (md : (mode != 1) = false ∨ ((mode != 1) = true ∧ (mode != 2) = false)) (d : Nat) (k bg : Int) (ct : Bool) (CS : Hid (∀ W, Calls Tryz.prog 33 #[.string s] W (Scv 3 false d k bg ct 0 0 W))) (t1 : (f.k == 1) = true) : Calls Tryz.prog 12 #[.int .i64 (i : Int), .int .i64 mode, .string s] w (Pn 0 0 5 w) := by
  have CO := Lib.hid (fun W => rof_in W i f hf i1 i2)
  clear i1 i2
  have U := Up.refl w
  go_enter Tryz.func12, Tryz.ntmps12
  go_wp2_with fail
  refine (CO.out _).mono ?_
  rintro _ w1 ⟨rfl, u_⟩
  replace U := U.trans u_
  clear u_
  go_upto_region 2 with fail
  obtain ⟨V1, hV1⟩ : ∃ V, w1.alloc (.cells #[.int .i64 f.k, .int .i64 f.W, .int .i64 f.m, .int .i64 f.b, .int .u64 f.t, .int .u64 f.n, .int .u64 f.x] 71) = V := ⟨_, rfl⟩
  have C : Bf V1 w1.heap.size 71 f := by rw [← hV1]; exact Bf.mk_ w1 f 71
  have u_ : Up w1 V1 := by rw [← hV1]; exact (Up.refl _).alloc _
  rw [hV1]
  clear hV1
  replace U := U.trans u_
  clear u_
  rcases md with m1 | ⟨m1, m2⟩
  all_goals
    go_wp2_with fail
    refine (CS.out _).mono ?_
    rintro _ w2 ⟨A2, n2, c2, xs2, rfl, N2, v2, l2, z2, u_⟩
    replace U := U.trans u_
    replace C := C.up u_
    clear u_ CS
    go_upto_region 7 with fail
    obtain ⟨V2, hV2⟩ : ∃ V, w2.alloc (.cells #[.int .i64 3, .bool false, .slice A2 n2 c2, .int .i64 k, .int .i64 bg, .bool ct] 74) = V := ⟨_, rfl⟩
    have R : Ob V2 w2.heap.size 74 #[.int .i64 3, .bool false, .slice A2 n2 c2, .int .i64 k, .int .i64 bg, .bool ct] := by rw [← hV2]; exact Ob.mk_ _ _ _
    have u_ : Up w2 V2 := by rw [← hV2]; exact (Up.refl _).alloc _
    rw [hV2]
    clear hV2
    replace U := U.trans u_
    replace C := C.up u_
    clear u_ N2 v2 l2 z2
    obtain ⟨i0, i1, i2, i3, i4, i5⟩ := R.six
    obtain ⟨C0, C1, C2, C3, C4, C5, C6⟩ := Bf.cs C
    simp only [Nat.zero_add] at C0 C1 C2 C3 C4 C5 C6
  all_goals
    go_wp2_with fail
    refine bodyPost_ret (v := .tuple #[.int .u64 0, .int .i64 0, .int .i64 5]) (by simp [results, Tryz.results12, go_sem]) rfl ?_
    exact ⟨rfl, U⟩
set_option maxHeartbeats 4000000 in
set_option maxRecDepth 100000 in
theorem rp_nanp (w : World) (i : Nat) (f : M.Fm) (hf : Hid (M.tb i = f)) (i1 : 1 ≤ i) (i2 : i ≤ 14) (mode : Int) (s : ByteArray) (md : (mode != 1) = false ∨ ((mode != 1) = true ∧ (mode != 2) = false)) (d : Nat) (k bg : Int) (ct : Bool) (CS : Hid (∀ W, Calls Tryz.prog 33 #[.string s] W (Scv 3 false d k bg ct 0 0 W))) (t0 : (f.k == 1) = false) (x1 : (f.x == 0) = false) : Calls Tryz.prog 12 #[.int .i64 (i : Int), .int .i64 mode, .string s] w (Pn f.x 0 0 w) := by
  have CO := Lib.hid (fun W => rof_in W i f hf i1 i2)
  clear i1 i2
  have U := Up.refl w
  go_enter Tryz.func12, Tryz.ntmps12
  go_wp2_with fail
  refine (CO.out _).mono ?_
  rintro _ w1 ⟨rfl, u_⟩
  replace U := U.trans u_
  clear u_
  go_upto_region 2 with fail
  obtain ⟨V1, hV1⟩ : ∃ V, w1.alloc (.cells #[.int .i64 f.k, .int .i64 f.W, .int .i64 f.m, .int .i64 f.b, .int .u64 f.t, .int .u64 f.n, .int .u64 f.x] 71) = V := ⟨_, rfl⟩
  have C : Bf V1 w1.heap.size 71 f := by rw [← hV1]; exact Bf.mk_ w1 f 71
  have u_ : Up w1 V1 := by rw [← hV1]; exact (Up.refl _).alloc _
  rw [hV1]
  clear hV1
  replace U := U.trans u_
  clear u_
  rcases md with m1 | ⟨m1, m2⟩
  all_goals
    go_wp2_with fail
    refine (CS.out _).mono ?_
    rintro _ w2 ⟨A2, n2, c2, xs2, rfl, N2, v2, l2, z2, u_⟩
    replace U := U.trans u_
    replace C := C.up u_
    clear u_ CS
    go_upto_region 7 with fail
    obtain ⟨V2, hV2⟩ : ∃ V, w2.alloc (.cells #[.int .i64 3, .bool false, .slice A2 n2 c2, .int .i64 k, .int .i64 bg, .bool ct] 74) = V := ⟨_, rfl⟩
    have R : Ob V2 w2.heap.size 74 #[.int .i64 3, .bool false, .slice A2 n2 c2, .int .i64 k, .int .i64 bg, .bool ct] := by rw [← hV2]; exact Ob.mk_ _ _ _
    have u_ : Up w2 V2 := by rw [← hV2]; exact (Up.refl _).alloc _
    rw [hV2]
    clear hV2
    replace U := U.trans u_
    replace C := C.up u_
    clear u_ N2 v2 l2 z2
    obtain ⟨i0, i1, i2, i3, i4, i5⟩ := R.six
    obtain ⟨C0, C1, C2, C3, C4, C5, C6⟩ := Bf.cs C
    simp only [Nat.zero_add] at C0 C1 C2 C3 C4 C5 C6
  all_goals
    go_wp2_with fail
    refine bodyPost_ret (v := .tuple #[.int .u64 f.x, .int .i64 0, .int .i64 0]) (by simp [results, Tryz.results12, go_sem]) rfl ?_
    exact ⟨rfl, U⟩
set_option maxHeartbeats 4000000 in
set_option maxRecDepth 100000 in
theorem rp_none4p (w : World) (i : Nat) (f : M.Fm) (hf : Hid (M.tb i = f)) (i1 : 1 ≤ i) (i2 : i ≤ 14) (mode : Int) (s : ByteArray) (md : (mode != 1) = false ∨ ((mode != 1) = true ∧ (mode != 2) = false)) (d : Nat) (k bg : Int) (ct : Bool) (CS : Hid (∀ W, Calls Tryz.prog 33 #[.string s] W (Scv 4 false d k bg ct 0 0 W))) (t0 : (f.k == 1) = false) : Calls Tryz.prog 12 #[.int .i64 (i : Int), .int .i64 mode, .string s] w (Pn 0 0 5 w) := by
  have CO := Lib.hid (fun W => rof_in W i f hf i1 i2)
  clear i1 i2
  have U := Up.refl w
  go_enter Tryz.func12, Tryz.ntmps12
  go_wp2_with fail
  refine (CO.out _).mono ?_
  rintro _ w1 ⟨rfl, u_⟩
  replace U := U.trans u_
  clear u_
  go_upto_region 2 with fail
  obtain ⟨V1, hV1⟩ : ∃ V, w1.alloc (.cells #[.int .i64 f.k, .int .i64 f.W, .int .i64 f.m, .int .i64 f.b, .int .u64 f.t, .int .u64 f.n, .int .u64 f.x] 71) = V := ⟨_, rfl⟩
  have C : Bf V1 w1.heap.size 71 f := by rw [← hV1]; exact Bf.mk_ w1 f 71
  have u_ : Up w1 V1 := by rw [← hV1]; exact (Up.refl _).alloc _
  rw [hV1]
  clear hV1
  replace U := U.trans u_
  clear u_
  rcases md with m1 | ⟨m1, m2⟩
  all_goals
    go_wp2_with fail
    refine (CS.out _).mono ?_
    rintro _ w2 ⟨A2, n2, c2, xs2, rfl, N2, v2, l2, z2, u_⟩
    replace U := U.trans u_
    replace C := C.up u_
    clear u_ CS
    go_upto_region 7 with fail
    obtain ⟨V2, hV2⟩ : ∃ V, w2.alloc (.cells #[.int .i64 4, .bool false, .slice A2 n2 c2, .int .i64 k, .int .i64 bg, .bool ct] 74) = V := ⟨_, rfl⟩
    have R : Ob V2 w2.heap.size 74 #[.int .i64 4, .bool false, .slice A2 n2 c2, .int .i64 k, .int .i64 bg, .bool ct] := by rw [← hV2]; exact Ob.mk_ _ _ _
    have u_ : Up w2 V2 := by rw [← hV2]; exact (Up.refl _).alloc _
    rw [hV2]
    clear hV2
    replace U := U.trans u_
    replace C := C.up u_
    clear u_ N2 v2 l2 z2
    obtain ⟨i0, i1, i2, i3, i4, i5⟩ := R.six
    obtain ⟨C0, C1, C2, C3, C4, C5, C6⟩ := Bf.cs C
    simp only [Nat.zero_add] at C0 C1 C2 C3 C4 C5 C6
  all_goals
    go_wp2_with fail
    refine bodyPost_ret (v := .tuple #[.int .u64 0, .int .i64 0, .int .i64 5]) (by simp [results, Tryz.results12, go_sem]) rfl ?_
    exact ⟨rfl, U⟩
set_option maxHeartbeats 4000000 in
set_option maxRecDepth 100000 in
theorem rp_narp (w : World) (i : Nat) (f : M.Fm) (hf : Hid (M.tb i = f)) (i1 : 1 ≤ i) (i2 : i ≤ 14) (mode : Int) (s : ByteArray) (md : (mode != 1) = false ∨ ((mode != 1) = true ∧ (mode != 2) = false)) (d : Nat) (k bg : Int) (ct : Bool) (CS : Hid (∀ W, Calls Tryz.prog 33 #[.string s] W (Scv 4 false d k bg ct 0 0 W))) (t1 : (f.k == 1) = true) : Calls Tryz.prog 12 #[.int .i64 (i : Int), .int .i64 mode, .string s] w (Pn f.x 0 0 w) := by
  have CO := Lib.hid (fun W => rof_in W i f hf i1 i2)
  clear i1 i2
  have U := Up.refl w
  go_enter Tryz.func12, Tryz.ntmps12
  go_wp2_with fail
  refine (CO.out _).mono ?_
  rintro _ w1 ⟨rfl, u_⟩
  replace U := U.trans u_
  clear u_
  go_upto_region 2 with fail
  obtain ⟨V1, hV1⟩ : ∃ V, w1.alloc (.cells #[.int .i64 f.k, .int .i64 f.W, .int .i64 f.m, .int .i64 f.b, .int .u64 f.t, .int .u64 f.n, .int .u64 f.x] 71) = V := ⟨_, rfl⟩
  have C : Bf V1 w1.heap.size 71 f := by rw [← hV1]; exact Bf.mk_ w1 f 71
  have u_ : Up w1 V1 := by rw [← hV1]; exact (Up.refl _).alloc _
  rw [hV1]
  clear hV1
  replace U := U.trans u_
  clear u_
  rcases md with m1 | ⟨m1, m2⟩
  all_goals
    go_wp2_with fail
    refine (CS.out _).mono ?_
    rintro _ w2 ⟨A2, n2, c2, xs2, rfl, N2, v2, l2, z2, u_⟩
    replace U := U.trans u_
    replace C := C.up u_
    clear u_ CS
    go_upto_region 7 with fail
    obtain ⟨V2, hV2⟩ : ∃ V, w2.alloc (.cells #[.int .i64 4, .bool false, .slice A2 n2 c2, .int .i64 k, .int .i64 bg, .bool ct] 74) = V := ⟨_, rfl⟩
    have R : Ob V2 w2.heap.size 74 #[.int .i64 4, .bool false, .slice A2 n2 c2, .int .i64 k, .int .i64 bg, .bool ct] := by rw [← hV2]; exact Ob.mk_ _ _ _
    have u_ : Up w2 V2 := by rw [← hV2]; exact (Up.refl _).alloc _
    rw [hV2]
    clear hV2
    replace U := U.trans u_
    replace C := C.up u_
    clear u_ N2 v2 l2 z2
    obtain ⟨i0, i1, i2, i3, i4, i5⟩ := R.six
    obtain ⟨C0, C1, C2, C3, C4, C5, C6⟩ := Bf.cs C
    simp only [Nat.zero_add] at C0 C1 C2 C3 C4 C5 C6
  all_goals
    go_wp2_with fail
    refine bodyPost_ret (v := .tuple #[.int .u64 f.x, .int .i64 0, .int .i64 0]) (by simp [results, Tryz.results12, go_sem]) rfl ?_
    exact ⟨rfl, U⟩
set_option maxHeartbeats 4000000 in
set_option maxRecDepth 100000 in
theorem rp_numn0 (w : World) (i : Nat) (f : M.Fm) (hf : Hid (M.tb i = f)) (i1 : 1 ≤ i) (i2 : i ≤ 14) (mode : Int) (s : ByteArray) (md : (mode != 1) = false ∨ ((mode != 1) = true ∧ (mode != 2) = false)) (d : Nat) (k : Int) (ct : Bool) (CS : Hid (∀ W, Calls Tryz.prog 33 #[.string s] W (Scv 1 true d k 0 ct 0 0 W))) (S : Int) (CG : Hid (∀ W, Calls Tryz.prog 34 #[fv f] W (Wz S W))) (p : Int) (CR : Hid (∀ W lo v, Nt W lo 2001 v d → Calls Tryz.prog 35 #[.int .i64 (i : Int), .int .i64 mode, xv true v k k] W (Wz p W))) : Calls Tryz.prog 12 #[.int .i64 (i : Int), .int .i64 mode, .string s] w (Pn p 0 0 w) := by
  have CO := Lib.hid (fun W => rof_in W i f hf i1 i2)
  clear i1 i2
  have U := Up.refl w
  go_enter Tryz.func12, Tryz.ntmps12
  go_wp2_with fail
  refine (CO.out _).mono ?_
  rintro _ w1 ⟨rfl, u_⟩
  replace U := U.trans u_
  clear u_
  go_upto_region 2 with fail
  obtain ⟨V1, hV1⟩ : ∃ V, w1.alloc (.cells #[.int .i64 f.k, .int .i64 f.W, .int .i64 f.m, .int .i64 f.b, .int .u64 f.t, .int .u64 f.n, .int .u64 f.x] 71) = V := ⟨_, rfl⟩
  have C : Bf V1 w1.heap.size 71 f := by rw [← hV1]; exact Bf.mk_ w1 f 71
  have u_ : Up w1 V1 := by rw [← hV1]; exact (Up.refl _).alloc _
  rw [hV1]
  clear hV1
  replace U := U.trans u_
  clear u_
  rcases md with m1 | ⟨m1, m2⟩
  all_goals
    go_wp2_with fail
    refine (CS.out _).mono ?_
    rintro _ w2 ⟨A2, n2, c2, xs2, rfl, N2, v2, l2, z2, u_⟩
    replace U := U.trans u_
    replace C := C.up u_
    clear u_ CS
    go_upto_region 7 with fail
    obtain ⟨V2, hV2⟩ : ∃ V, w2.alloc (.cells #[.int .i64 1, .bool true, .slice A2 n2 c2, .int .i64 k, .int .i64 0, .bool ct] 74) = V := ⟨_, rfl⟩
    have R : Ob V2 w2.heap.size 74 #[.int .i64 1, .bool true, .slice A2 n2 c2, .int .i64 k, .int .i64 0, .bool ct] := by rw [← hV2]; exact Ob.mk_ _ _ _
    have u_ : Up w2 V2 := by rw [← hV2]; exact (Up.refl _).alloc _
    rw [hV2]
    clear hV2
    replace U := U.trans u_
    replace C := C.up u_
    have T2 := Lib.hid ((wd_nt N2 v2 l2 z2).up u_)
    clear u_ N2 v2 l2 z2
    obtain ⟨i0, i1, i2, i3, i4, i5⟩ := R.six
    obtain ⟨C0, C1, C2, C3, C4, C5, C6⟩ := Bf.cs C
    simp only [Nat.zero_add] at C0 C1 C2 C3 C4 C5 C6
  all_goals
    go_wp2_with fail
    refine (CG.out _).mono ?_
    rintro _ w3 ⟨rfl, u_⟩
    replace U := U.trans u_
    replace C := C.up u_
    replace R := R.up u_
    replace T2 := Lib.hid (T2.out.up u_)
    clear u_ CG i0 i1 i2 i3 i4 i5 C0 C1 C2 C3 C4 C5 C6
    obtain ⟨i0, i1, i2, i3, i4, i5⟩ := R.six
    obtain ⟨C0, C1, C2, C3, C4, C5, C6⟩ := Bf.cs C
    simp only [Nat.zero_add] at C0 C1 C2 C3 C4 C5 C6
  all_goals
    go_upto_region 28 with fail
    obtain ⟨V3, hV3⟩ : ∃ V, w3.alloc (.cells #[.bool true, .slice A2 n2 c2, .int .i64 k, .int .i64 k] 42) = V := ⟨_, rfl⟩
    have X : Ob V3 w3.heap.size 42 #[.bool true, .slice A2 n2 c2, .int .i64 k, .int .i64 k] := by rw [← hV3]; exact Ob.mk_ _ _ _
    have u_ : Up w3 V3 := by rw [← hV3]; exact (Up.refl _).alloc _
    rw [hV3]
    clear hV3
    have bX : w.heap.size ≤ w3.heap.size := U.size
    replace U := U.trans u_
    replace R := R.up u_
    replace T2 := Lib.hid (T2.out.up u_)
    clear u_ i0 i1 i2 i3 i4 i5 C0 C1 C2 C3 C4 C5 C6 C
    obtain ⟨i0, i1, i2, i3, i4, i5⟩ := R.six
  all_goals
    have b0 := X.get 0
    have b1 := X.get 1
    have b2 := X.get 2
    have b3 := X.get 3
    simp only [List.getElem?_toArray, List.getElem?_cons_zero, List.getElem?_cons_succ] at b0 b1 b2 b3
    go_wp2_with fail
    refine (CR.out _ _ _ T2.out).mono ?_
    rintro _ w4 ⟨rfl, u_⟩
    replace U := U.trans u_
    clear u_ CR
    go_wp2_with fail
    refine bodyPost_ret (v := .tuple #[.int .u64 p, .int .i64 0, .int .i64 0]) (by simp [results, Tryz.results12, go_sem]) rfl ?_
    exact ⟨rfl, U⟩
set_option maxHeartbeats 4000000 in
set_option maxRecDepth 100000 in
theorem rp_numn1 (w : World) (i : Nat) (f : M.Fm) (hf : Hid (M.tb i = f)) (i1 : 1 ≤ i) (i2 : i ≤ 14) (mode : Int) (s : ByteArray) (md : (mode != 1) = false ∨ ((mode != 1) = true ∧ (mode != 2) = false)) (d : Nat) (k : Int) (ct : Bool) (CS : Hid (∀ W, Calls Tryz.prog 33 #[.string s] W (Scv 1 true d k 1 ct 0 0 W))) (S : Int) (CG : Hid (∀ W, Calls Tryz.prog 34 #[fv f] W (Wz S W))) (p : Int) (CR : Hid (∀ W lo v, Nt W lo 1 v 1 → Calls Tryz.prog 35 #[.int .i64 (i : Int), .int .i64 mode, xv true v 1000 1000] W (Wz p W))) : Calls Tryz.prog 12 #[.int .i64 (i : Int), .int .i64 mode, .string s] w (Pn p 0 0 w) := by
  have CO := Lib.hid (fun W => rof_in W i f hf i1 i2)
  clear i1 i2
  have U := Up.refl w
  go_enter Tryz.func12, Tryz.ntmps12
  go_wp2_with fail
  refine (CO.out _).mono ?_
  rintro _ w1 ⟨rfl, u_⟩
  replace U := U.trans u_
  clear u_
  go_upto_region 2 with fail
  obtain ⟨V1, hV1⟩ : ∃ V, w1.alloc (.cells #[.int .i64 f.k, .int .i64 f.W, .int .i64 f.m, .int .i64 f.b, .int .u64 f.t, .int .u64 f.n, .int .u64 f.x] 71) = V := ⟨_, rfl⟩
  have C : Bf V1 w1.heap.size 71 f := by rw [← hV1]; exact Bf.mk_ w1 f 71
  have u_ : Up w1 V1 := by rw [← hV1]; exact (Up.refl _).alloc _
  rw [hV1]
  clear hV1
  replace U := U.trans u_
  clear u_
  rcases md with m1 | ⟨m1, m2⟩
  all_goals
    go_wp2_with fail
    refine (CS.out _).mono ?_
    rintro _ w2 ⟨A2, n2, c2, xs2, rfl, N2, v2, l2, z2, u_⟩
    replace U := U.trans u_
    replace C := C.up u_
    clear u_ CS
    go_upto_region 7 with fail
    obtain ⟨V2, hV2⟩ : ∃ V, w2.alloc (.cells #[.int .i64 1, .bool true, .slice A2 n2 c2, .int .i64 k, .int .i64 1, .bool ct] 74) = V := ⟨_, rfl⟩
    have R : Ob V2 w2.heap.size 74 #[.int .i64 1, .bool true, .slice A2 n2 c2, .int .i64 k, .int .i64 1, .bool ct] := by rw [← hV2]; exact Ob.mk_ _ _ _
    have u_ : Up w2 V2 := by rw [← hV2]; exact (Up.refl _).alloc _
    rw [hV2]
    clear hV2
    replace U := U.trans u_
    replace C := C.up u_
    have T2 := Lib.hid ((wd_nt N2 v2 l2 z2).up u_)
    clear u_ N2 v2 l2 z2
    obtain ⟨i0, i1, i2, i3, i4, i5⟩ := R.six
    obtain ⟨C0, C1, C2, C3, C4, C5, C6⟩ := Bf.cs C
    simp only [Nat.zero_add] at C0 C1 C2 C3 C4 C5 C6
  all_goals
    go_wp2_with fail
    refine (CG.out _).mono ?_
    rintro _ w3 ⟨rfl, u_⟩
    replace U := U.trans u_
    replace C := C.up u_
    replace R := R.up u_
    replace T2 := Lib.hid (T2.out.up u_)
    clear u_ CG i0 i1 i2 i3 i4 i5 C0 C1 C2 C3 C4 C5 C6
    obtain ⟨i0, i1, i2, i3, i4, i5⟩ := R.six
    obtain ⟨C0, C1, C2, C3, C4, C5, C6⟩ := Bf.cs C
    simp only [Nat.zero_add] at C0 C1 C2 C3 C4 C5 C6
  all_goals
    go_upto_region 28 with fail
    obtain ⟨V3, hV3⟩ : ∃ V, w3.alloc (.cells #[.bool true, .slice A2 n2 c2, .int .i64 k, .int .i64 k] 42) = V := ⟨_, rfl⟩
    have X : Ob V3 w3.heap.size 42 #[.bool true, .slice A2 n2 c2, .int .i64 k, .int .i64 k] := by rw [← hV3]; exact Ob.mk_ _ _ _
    have u_ : Up w3 V3 := by rw [← hV3]; exact (Up.refl _).alloc _
    rw [hV3]
    clear hV3
    have bX : w.heap.size ≤ w3.heap.size := U.size
    replace U := U.trans u_
    replace R := R.up u_
    replace T2 := Lib.hid (T2.out.up u_)
    clear u_ i0 i1 i2 i3 i4 i5 C0 C1 C2 C3 C4 C5 C6 C
    obtain ⟨i0, i1, i2, i3, i4, i5⟩ := R.six
  all_goals
    have hb : ∀ o : Obj, (V3.alloc o).cell? ⟨w2.heap.size, 4, none⟩ = some (.int .i64 1) := fun o => (Below.cell (p := ⟨w2.heap.size, 4, none⟩) ((Up.refl V3).alloc o) R.lt).trans i4
    have NL : Nt (V3.alloc (.cells #[.int .u64 1] 23)) V3.heap.size 1 (.slice (some ⟨V3.heap.size, 0, none⟩) 1 1) 1 := lit1n V3 1 1 rfl (by decide) (by decide)
    have gX : w3.heap.size < V3.heap.size := X.lt
    go_wp2_with (refine store_ob2 rfl 42 (.tmp 16) (.tmp 102) rfl _ #[.bool true, .slice A2 n2 c2, .int .i64 k, .int .i64 k] #[.bool true, .slice (some ⟨V3.heap.size, 0, none⟩) 1 1, .int .i64 1000, .int .i64 1000] rfl rfl 4 (by kernel_rfl) rfl rfl (by simp [Value.oneCell']) w (U.alloc _) bX 42 (X.up ((Up.refl _).alloc _)) ?_; intro V9 Z9 U9 ho; have N9 := Lib.hid (NL.other ho gX); have b0 := Z9.get 0; have b1 := Z9.get 1; have b2 := Z9.get 2; have b3 := Z9.get 3; simp only [List.getElem?_toArray, List.getElem?_cons_zero, List.getElem?_cons_succ] at b0 b1 b2 b3; clear NL ho)
    refine (CR.out _ _ _ N9.out).mono ?_
    rintro _ w4 ⟨rfl, u_⟩
    replace U := U9.trans u_
    clear u_ CR
    go_wp2_with fail
    refine bodyPost_ret (v := .tuple #[.int .u64 p, .int .i64 0, .int .i64 0]) (by simp [results, Tryz.results12, go_sem]) rfl ?_
    exact ⟨rfl, U⟩
set_option maxHeartbeats 4000000 in
set_option maxRecDepth 100000 in
theorem rp_numnm (w : World) (i : Nat) (f : M.Fm) (hf : Hid (M.tb i = f)) (i1 : 1 ≤ i) (i2 : i ≤ 14) (mode : Int) (s : ByteArray) (md : (mode != 1) = false ∨ ((mode != 1) = true ∧ (mode != 2) = false)) (d : Nat) (k : Int) (ct : Bool) (CS : Hid (∀ W, Calls Tryz.prog 33 #[.string s] W (Scv 1 true d k (-1) ct 0 0 W))) (S : Int) (CG : Hid (∀ W, Calls Tryz.prog 34 #[fv f] W (Wz S W))) (p : Int) (CR : Hid (∀ W lo v, Nt W lo 1 v 1 → Calls Tryz.prog 35 #[.int .i64 (i : Int), .int .i64 mode, xv true v (-1000) (-1000)] W (Wz p W))) : Calls Tryz.prog 12 #[.int .i64 (i : Int), .int .i64 mode, .string s] w (Pn p 0 0 w) := by
  have CO := Lib.hid (fun W => rof_in W i f hf i1 i2)
  clear i1 i2
  have U := Up.refl w
  go_enter Tryz.func12, Tryz.ntmps12
  go_wp2_with fail
  refine (CO.out _).mono ?_
  rintro _ w1 ⟨rfl, u_⟩
  replace U := U.trans u_
  clear u_
  go_upto_region 2 with fail
  obtain ⟨V1, hV1⟩ : ∃ V, w1.alloc (.cells #[.int .i64 f.k, .int .i64 f.W, .int .i64 f.m, .int .i64 f.b, .int .u64 f.t, .int .u64 f.n, .int .u64 f.x] 71) = V := ⟨_, rfl⟩
  have C : Bf V1 w1.heap.size 71 f := by rw [← hV1]; exact Bf.mk_ w1 f 71
  have u_ : Up w1 V1 := by rw [← hV1]; exact (Up.refl _).alloc _
  rw [hV1]
  clear hV1
  replace U := U.trans u_
  clear u_
  rcases md with m1 | ⟨m1, m2⟩
  all_goals
    go_wp2_with fail
    refine (CS.out _).mono ?_
    rintro _ w2 ⟨A2, n2, c2, xs2, rfl, N2, v2, l2, z2, u_⟩
    replace U := U.trans u_
    replace C := C.up u_
    clear u_ CS
    go_upto_region 7 with fail
    obtain ⟨V2, hV2⟩ : ∃ V, w2.alloc (.cells #[.int .i64 1, .bool true, .slice A2 n2 c2, .int .i64 k, .int .i64 (-1), .bool ct] 74) = V := ⟨_, rfl⟩
    have R : Ob V2 w2.heap.size 74 #[.int .i64 1, .bool true, .slice A2 n2 c2, .int .i64 k, .int .i64 (-1), .bool ct] := by rw [← hV2]; exact Ob.mk_ _ _ _
    have u_ : Up w2 V2 := by rw [← hV2]; exact (Up.refl _).alloc _
    rw [hV2]
    clear hV2
    replace U := U.trans u_
    replace C := C.up u_
    have T2 := Lib.hid ((wd_nt N2 v2 l2 z2).up u_)
    clear u_ N2 v2 l2 z2
    obtain ⟨i0, i1, i2, i3, i4, i5⟩ := R.six
    obtain ⟨C0, C1, C2, C3, C4, C5, C6⟩ := Bf.cs C
    simp only [Nat.zero_add] at C0 C1 C2 C3 C4 C5 C6
  all_goals
    go_wp2_with fail
    refine (CG.out _).mono ?_
    rintro _ w3 ⟨rfl, u_⟩
    replace U := U.trans u_
    replace C := C.up u_
    replace R := R.up u_
    replace T2 := Lib.hid (T2.out.up u_)
    clear u_ CG i0 i1 i2 i3 i4 i5 C0 C1 C2 C3 C4 C5 C6
    obtain ⟨i0, i1, i2, i3, i4, i5⟩ := R.six
    obtain ⟨C0, C1, C2, C3, C4, C5, C6⟩ := Bf.cs C
    simp only [Nat.zero_add] at C0 C1 C2 C3 C4 C5 C6
  all_goals
    go_upto_region 28 with fail
    obtain ⟨V3, hV3⟩ : ∃ V, w3.alloc (.cells #[.bool true, .slice A2 n2 c2, .int .i64 k, .int .i64 k] 42) = V := ⟨_, rfl⟩
    have X : Ob V3 w3.heap.size 42 #[.bool true, .slice A2 n2 c2, .int .i64 k, .int .i64 k] := by rw [← hV3]; exact Ob.mk_ _ _ _
    have u_ : Up w3 V3 := by rw [← hV3]; exact (Up.refl _).alloc _
    rw [hV3]
    clear hV3
    have bX : w.heap.size ≤ w3.heap.size := U.size
    replace U := U.trans u_
    replace R := R.up u_
    replace T2 := Lib.hid (T2.out.up u_)
    clear u_ i0 i1 i2 i3 i4 i5 C0 C1 C2 C3 C4 C5 C6 C
    obtain ⟨i0, i1, i2, i3, i4, i5⟩ := R.six
  all_goals
    have hb : ∀ o : Obj, (V3.alloc o).cell? ⟨w2.heap.size, 4, none⟩ = some (.int .i64 (-1)) := fun o => (Below.cell (p := ⟨w2.heap.size, 4, none⟩) ((Up.refl V3).alloc o) R.lt).trans i4
    have NL : Nt (V3.alloc (.cells #[.int .u64 1] 23)) V3.heap.size 1 (.slice (some ⟨V3.heap.size, 0, none⟩) 1 1) 1 := lit1n V3 1 1 rfl (by decide) (by decide)
    have gX : w3.heap.size < V3.heap.size := X.lt
    go_wp2_with (refine store_ob2 rfl 42 (.tmp 16) (.tmp 102) rfl _ #[.bool true, .slice A2 n2 c2, .int .i64 k, .int .i64 k] #[.bool true, .slice (some ⟨V3.heap.size, 0, none⟩) 1 1, .int .i64 (-1000), .int .i64 (-1000)] rfl rfl 4 (by kernel_rfl) rfl rfl (by simp [Value.oneCell']) w (U.alloc _) bX 42 (X.up ((Up.refl _).alloc _)) ?_; intro V9 Z9 U9 ho; have N9 := Lib.hid (NL.other ho gX); have b0 := Z9.get 0; have b1 := Z9.get 1; have b2 := Z9.get 2; have b3 := Z9.get 3; simp only [List.getElem?_toArray, List.getElem?_cons_zero, List.getElem?_cons_succ] at b0 b1 b2 b3; clear NL ho)
    refine (CR.out _ _ _ N9.out).mono ?_
    rintro _ w4 ⟨rfl, u_⟩
    replace U := U9.trans u_
    clear u_ CR
    go_wp2_with fail
    refine bodyPost_ret (v := .tuple #[.int .u64 p, .int .i64 0, .int .i64 0]) (by simp [results, Tryz.results12, go_sem]) rfl ?_
    exact ⟨rfl, U⟩
set_option maxHeartbeats 4000000 in
set_option maxRecDepth 100000 in
theorem rp_nump0 (w : World) (i : Nat) (f : M.Fm) (hf : Hid (M.tb i = f)) (i1 : 1 ≤ i) (i2 : i ≤ 14) (mode : Int) (s : ByteArray) (md : (mode != 1) = false ∨ ((mode != 1) = true ∧ (mode != 2) = false)) (d : Nat) (k : Int) (ct : Bool) (CS : Hid (∀ W, Calls Tryz.prog 33 #[.string s] W (Scv 1 false d k 0 ct 0 0 W))) (p : Int) (CR : Hid (∀ W lo v, Nt W lo 2001 v d → Calls Tryz.prog 35 #[.int .i64 (i : Int), .int .i64 mode, xv false v k k] W (Wz p W))) : Calls Tryz.prog 12 #[.int .i64 (i : Int), .int .i64 mode, .string s] w (Pn p 0 0 w) := by
  have CO := Lib.hid (fun W => rof_in W i f hf i1 i2)
  clear i1 i2
  have U := Up.refl w
  go_enter Tryz.func12, Tryz.ntmps12
  go_wp2_with fail
  refine (CO.out _).mono ?_
  rintro _ w1 ⟨rfl, u_⟩
  replace U := U.trans u_
  clear u_
  go_upto_region 2 with fail
  obtain ⟨V1, hV1⟩ : ∃ V, w1.alloc (.cells #[.int .i64 f.k, .int .i64 f.W, .int .i64 f.m, .int .i64 f.b, .int .u64 f.t, .int .u64 f.n, .int .u64 f.x] 71) = V := ⟨_, rfl⟩
  have C : Bf V1 w1.heap.size 71 f := by rw [← hV1]; exact Bf.mk_ w1 f 71
  have u_ : Up w1 V1 := by rw [← hV1]; exact (Up.refl _).alloc _
  rw [hV1]
  clear hV1
  replace U := U.trans u_
  clear u_
  rcases md with m1 | ⟨m1, m2⟩
  all_goals
    go_wp2_with fail
    refine (CS.out _).mono ?_
    rintro _ w2 ⟨A2, n2, c2, xs2, rfl, N2, v2, l2, z2, u_⟩
    replace U := U.trans u_
    replace C := C.up u_
    clear u_ CS
    go_upto_region 7 with fail
    obtain ⟨V2, hV2⟩ : ∃ V, w2.alloc (.cells #[.int .i64 1, .bool false, .slice A2 n2 c2, .int .i64 k, .int .i64 0, .bool ct] 74) = V := ⟨_, rfl⟩
    have R : Ob V2 w2.heap.size 74 #[.int .i64 1, .bool false, .slice A2 n2 c2, .int .i64 k, .int .i64 0, .bool ct] := by rw [← hV2]; exact Ob.mk_ _ _ _
    have u_ : Up w2 V2 := by rw [← hV2]; exact (Up.refl _).alloc _
    rw [hV2]
    clear hV2
    replace U := U.trans u_
    replace C := C.up u_
    have T2 := Lib.hid ((wd_nt N2 v2 l2 z2).up u_)
    clear u_ N2 v2 l2 z2
    obtain ⟨i0, i1, i2, i3, i4, i5⟩ := R.six
    obtain ⟨C0, C1, C2, C3, C4, C5, C6⟩ := Bf.cs C
    simp only [Nat.zero_add] at C0 C1 C2 C3 C4 C5 C6
  all_goals
    go_upto_region 28 with fail
    obtain ⟨V3, hV3⟩ : ∃ V, V2.alloc (.cells #[.bool false, .slice A2 n2 c2, .int .i64 k, .int .i64 k] 42) = V := ⟨_, rfl⟩
    have X : Ob V3 V2.heap.size 42 #[.bool false, .slice A2 n2 c2, .int .i64 k, .int .i64 k] := by rw [← hV3]; exact Ob.mk_ _ _ _
    have u_ : Up V2 V3 := by rw [← hV3]; exact (Up.refl _).alloc _
    rw [hV3]
    clear hV3
    have bX : w.heap.size ≤ V2.heap.size := U.size
    replace U := U.trans u_
    replace R := R.up u_
    replace T2 := Lib.hid (T2.out.up u_)
    clear u_ i0 i1 i2 i3 i4 i5 C0 C1 C2 C3 C4 C5 C6 C
    obtain ⟨i0, i1, i2, i3, i4, i5⟩ := R.six
  all_goals
    have b0 := X.get 0
    have b1 := X.get 1
    have b2 := X.get 2
    have b3 := X.get 3
    simp only [List.getElem?_toArray, List.getElem?_cons_zero, List.getElem?_cons_succ] at b0 b1 b2 b3
    go_wp2_with fail
    refine (CR.out _ _ _ T2.out).mono ?_
    rintro _ w4 ⟨rfl, u_⟩
    replace U := U.trans u_
    clear u_ CR
    go_wp2_with fail
    refine bodyPost_ret (v := .tuple #[.int .u64 p, .int .i64 0, .int .i64 0]) (by simp [results, Tryz.results12, go_sem]) rfl ?_
    exact ⟨rfl, U⟩
set_option maxHeartbeats 4000000 in
set_option maxRecDepth 100000 in
theorem rp_nump1 (w : World) (i : Nat) (f : M.Fm) (hf : Hid (M.tb i = f)) (i1 : 1 ≤ i) (i2 : i ≤ 14) (mode : Int) (s : ByteArray) (md : (mode != 1) = false ∨ ((mode != 1) = true ∧ (mode != 2) = false)) (d : Nat) (k : Int) (ct : Bool) (CS : Hid (∀ W, Calls Tryz.prog 33 #[.string s] W (Scv 1 false d k 1 ct 0 0 W))) (p : Int) (CR : Hid (∀ W lo v, Nt W lo 1 v 1 → Calls Tryz.prog 35 #[.int .i64 (i : Int), .int .i64 mode, xv false v 1000 1000] W (Wz p W))) : Calls Tryz.prog 12 #[.int .i64 (i : Int), .int .i64 mode, .string s] w (Pn p 0 0 w) := by
  have CO := Lib.hid (fun W => rof_in W i f hf i1 i2)
  clear i1 i2
  have U := Up.refl w
  go_enter Tryz.func12, Tryz.ntmps12
  go_wp2_with fail
  refine (CO.out _).mono ?_
  rintro _ w1 ⟨rfl, u_⟩
  replace U := U.trans u_
  clear u_
  go_upto_region 2 with fail
  obtain ⟨V1, hV1⟩ : ∃ V, w1.alloc (.cells #[.int .i64 f.k, .int .i64 f.W, .int .i64 f.m, .int .i64 f.b, .int .u64 f.t, .int .u64 f.n, .int .u64 f.x] 71) = V := ⟨_, rfl⟩
  have C : Bf V1 w1.heap.size 71 f := by rw [← hV1]; exact Bf.mk_ w1 f 71
  have u_ : Up w1 V1 := by rw [← hV1]; exact (Up.refl _).alloc _
  rw [hV1]
  clear hV1
  replace U := U.trans u_
  clear u_
  rcases md with m1 | ⟨m1, m2⟩
  all_goals
    go_wp2_with fail
    refine (CS.out _).mono ?_
    rintro _ w2 ⟨A2, n2, c2, xs2, rfl, N2, v2, l2, z2, u_⟩
    replace U := U.trans u_
    replace C := C.up u_
    clear u_ CS
    go_upto_region 7 with fail
    obtain ⟨V2, hV2⟩ : ∃ V, w2.alloc (.cells #[.int .i64 1, .bool false, .slice A2 n2 c2, .int .i64 k, .int .i64 1, .bool ct] 74) = V := ⟨_, rfl⟩
    have R : Ob V2 w2.heap.size 74 #[.int .i64 1, .bool false, .slice A2 n2 c2, .int .i64 k, .int .i64 1, .bool ct] := by rw [← hV2]; exact Ob.mk_ _ _ _
    have u_ : Up w2 V2 := by rw [← hV2]; exact (Up.refl _).alloc _
    rw [hV2]
    clear hV2
    replace U := U.trans u_
    replace C := C.up u_
    have T2 := Lib.hid ((wd_nt N2 v2 l2 z2).up u_)
    clear u_ N2 v2 l2 z2
    obtain ⟨i0, i1, i2, i3, i4, i5⟩ := R.six
    obtain ⟨C0, C1, C2, C3, C4, C5, C6⟩ := Bf.cs C
    simp only [Nat.zero_add] at C0 C1 C2 C3 C4 C5 C6
  all_goals
    go_upto_region 28 with fail
    obtain ⟨V3, hV3⟩ : ∃ V, V2.alloc (.cells #[.bool false, .slice A2 n2 c2, .int .i64 k, .int .i64 k] 42) = V := ⟨_, rfl⟩
    have X : Ob V3 V2.heap.size 42 #[.bool false, .slice A2 n2 c2, .int .i64 k, .int .i64 k] := by rw [← hV3]; exact Ob.mk_ _ _ _
    have u_ : Up V2 V3 := by rw [← hV3]; exact (Up.refl _).alloc _
    rw [hV3]
    clear hV3
    have bX : w.heap.size ≤ V2.heap.size := U.size
    replace U := U.trans u_
    replace R := R.up u_
    replace T2 := Lib.hid (T2.out.up u_)
    clear u_ i0 i1 i2 i3 i4 i5 C0 C1 C2 C3 C4 C5 C6 C
    obtain ⟨i0, i1, i2, i3, i4, i5⟩ := R.six
  all_goals
    have hb : ∀ o : Obj, (V3.alloc o).cell? ⟨w2.heap.size, 4, none⟩ = some (.int .i64 1) := fun o => (Below.cell (p := ⟨w2.heap.size, 4, none⟩) ((Up.refl V3).alloc o) R.lt).trans i4
    have NL : Nt (V3.alloc (.cells #[.int .u64 1] 23)) V3.heap.size 1 (.slice (some ⟨V3.heap.size, 0, none⟩) 1 1) 1 := lit1n V3 1 1 rfl (by decide) (by decide)
    have gX : V2.heap.size < V3.heap.size := X.lt
    go_wp2_with (refine store_ob2 rfl 42 (.tmp 16) (.tmp 102) rfl _ #[.bool false, .slice A2 n2 c2, .int .i64 k, .int .i64 k] #[.bool false, .slice (some ⟨V3.heap.size, 0, none⟩) 1 1, .int .i64 1000, .int .i64 1000] rfl rfl 4 (by kernel_rfl) rfl rfl (by simp [Value.oneCell']) w (U.alloc _) bX 42 (X.up ((Up.refl _).alloc _)) ?_; intro V9 Z9 U9 ho; have N9 := Lib.hid (NL.other ho gX); have b0 := Z9.get 0; have b1 := Z9.get 1; have b2 := Z9.get 2; have b3 := Z9.get 3; simp only [List.getElem?_toArray, List.getElem?_cons_zero, List.getElem?_cons_succ] at b0 b1 b2 b3; clear NL ho)
    refine (CR.out _ _ _ N9.out).mono ?_
    rintro _ w4 ⟨rfl, u_⟩
    replace U := U9.trans u_
    clear u_ CR
    go_wp2_with fail
    refine bodyPost_ret (v := .tuple #[.int .u64 p, .int .i64 0, .int .i64 0]) (by simp [results, Tryz.results12, go_sem]) rfl ?_
    exact ⟨rfl, U⟩
set_option maxHeartbeats 4000000 in
set_option maxRecDepth 100000 in
theorem rp_numpm (w : World) (i : Nat) (f : M.Fm) (hf : Hid (M.tb i = f)) (i1 : 1 ≤ i) (i2 : i ≤ 14) (mode : Int) (s : ByteArray) (md : (mode != 1) = false ∨ ((mode != 1) = true ∧ (mode != 2) = false)) (d : Nat) (k : Int) (ct : Bool) (CS : Hid (∀ W, Calls Tryz.prog 33 #[.string s] W (Scv 1 false d k (-1) ct 0 0 W))) (p : Int) (CR : Hid (∀ W lo v, Nt W lo 1 v 1 → Calls Tryz.prog 35 #[.int .i64 (i : Int), .int .i64 mode, xv false v (-1000) (-1000)] W (Wz p W))) : Calls Tryz.prog 12 #[.int .i64 (i : Int), .int .i64 mode, .string s] w (Pn p 0 0 w) := by
  have CO := Lib.hid (fun W => rof_in W i f hf i1 i2)
  clear i1 i2
  have U := Up.refl w
  go_enter Tryz.func12, Tryz.ntmps12
  go_wp2_with fail
  refine (CO.out _).mono ?_
  rintro _ w1 ⟨rfl, u_⟩
  replace U := U.trans u_
  clear u_
  go_upto_region 2 with fail
  obtain ⟨V1, hV1⟩ : ∃ V, w1.alloc (.cells #[.int .i64 f.k, .int .i64 f.W, .int .i64 f.m, .int .i64 f.b, .int .u64 f.t, .int .u64 f.n, .int .u64 f.x] 71) = V := ⟨_, rfl⟩
  have C : Bf V1 w1.heap.size 71 f := by rw [← hV1]; exact Bf.mk_ w1 f 71
  have u_ : Up w1 V1 := by rw [← hV1]; exact (Up.refl _).alloc _
  rw [hV1]
  clear hV1
  replace U := U.trans u_
  clear u_
  rcases md with m1 | ⟨m1, m2⟩
  all_goals
    go_wp2_with fail
    refine (CS.out _).mono ?_
    rintro _ w2 ⟨A2, n2, c2, xs2, rfl, N2, v2, l2, z2, u_⟩
    replace U := U.trans u_
    replace C := C.up u_
    clear u_ CS
    go_upto_region 7 with fail
    obtain ⟨V2, hV2⟩ : ∃ V, w2.alloc (.cells #[.int .i64 1, .bool false, .slice A2 n2 c2, .int .i64 k, .int .i64 (-1), .bool ct] 74) = V := ⟨_, rfl⟩
    have R : Ob V2 w2.heap.size 74 #[.int .i64 1, .bool false, .slice A2 n2 c2, .int .i64 k, .int .i64 (-1), .bool ct] := by rw [← hV2]; exact Ob.mk_ _ _ _
    have u_ : Up w2 V2 := by rw [← hV2]; exact (Up.refl _).alloc _
    rw [hV2]
    clear hV2
    replace U := U.trans u_
    replace C := C.up u_
    have T2 := Lib.hid ((wd_nt N2 v2 l2 z2).up u_)
    clear u_ N2 v2 l2 z2
    obtain ⟨i0, i1, i2, i3, i4, i5⟩ := R.six
    obtain ⟨C0, C1, C2, C3, C4, C5, C6⟩ := Bf.cs C
    simp only [Nat.zero_add] at C0 C1 C2 C3 C4 C5 C6
  all_goals
    go_upto_region 28 with fail
    obtain ⟨V3, hV3⟩ : ∃ V, V2.alloc (.cells #[.bool false, .slice A2 n2 c2, .int .i64 k, .int .i64 k] 42) = V := ⟨_, rfl⟩
    have X : Ob V3 V2.heap.size 42 #[.bool false, .slice A2 n2 c2, .int .i64 k, .int .i64 k] := by rw [← hV3]; exact Ob.mk_ _ _ _
    have u_ : Up V2 V3 := by rw [← hV3]; exact (Up.refl _).alloc _
    rw [hV3]
    clear hV3
    have bX : w.heap.size ≤ V2.heap.size := U.size
    replace U := U.trans u_
    replace R := R.up u_
    replace T2 := Lib.hid (T2.out.up u_)
    clear u_ i0 i1 i2 i3 i4 i5 C0 C1 C2 C3 C4 C5 C6 C
    obtain ⟨i0, i1, i2, i3, i4, i5⟩ := R.six
  all_goals
    have hb : ∀ o : Obj, (V3.alloc o).cell? ⟨w2.heap.size, 4, none⟩ = some (.int .i64 (-1)) := fun o => (Below.cell (p := ⟨w2.heap.size, 4, none⟩) ((Up.refl V3).alloc o) R.lt).trans i4
    have NL : Nt (V3.alloc (.cells #[.int .u64 1] 23)) V3.heap.size 1 (.slice (some ⟨V3.heap.size, 0, none⟩) 1 1) 1 := lit1n V3 1 1 rfl (by decide) (by decide)
    have gX : V2.heap.size < V3.heap.size := X.lt
    go_wp2_with (refine store_ob2 rfl 42 (.tmp 16) (.tmp 102) rfl _ #[.bool false, .slice A2 n2 c2, .int .i64 k, .int .i64 k] #[.bool false, .slice (some ⟨V3.heap.size, 0, none⟩) 1 1, .int .i64 (-1000), .int .i64 (-1000)] rfl rfl 4 (by kernel_rfl) rfl rfl (by simp [Value.oneCell']) w (U.alloc _) bX 42 (X.up ((Up.refl _).alloc _)) ?_; intro V9 Z9 U9 ho; have N9 := Lib.hid (NL.other ho gX); have b0 := Z9.get 0; have b1 := Z9.get 1; have b2 := Z9.get 2; have b3 := Z9.get 3; simp only [List.getElem?_toArray, List.getElem?_cons_zero, List.getElem?_cons_succ] at b0 b1 b2 b3; clear NL ho)
    refine (CR.out _ _ _ N9.out).mono ?_
    rintro _ w4 ⟨rfl, u_⟩
    replace U := U9.trans u_
    clear u_ CR
    go_wp2_with fail
    refine bodyPost_ret (v := .tuple #[.int .u64 p, .int .i64 0, .int .i64 0]) (by simp [results, Tryz.results12, go_sem]) rfl ?_
    exact ⟨rfl, U⟩
end Go.Proofs.YtbbjlcgfaigmdaaGreatDoor
