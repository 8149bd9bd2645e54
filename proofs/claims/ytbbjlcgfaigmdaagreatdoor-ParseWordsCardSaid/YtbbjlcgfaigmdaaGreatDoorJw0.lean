/-
  The walk of ParseWords, of one word.
-/
import Derived.Test.YtbbjlcgfaigmdaaGreatDoorJd
namespace Go.Proofs.YtbbjlcgfaigmdaaGreatDoor
open Go.RowKit Go.Shelf
set_option linter.unusedSimpArgs false
set_option linter.unusedVariables false

set_option maxHeartbeats 4000000 in
set_option maxRecDepth 100000 in
theorem pw_out0n (w : World) (L : Hid (Lp w)) (x0 : Int) (h : x0 < 1 ∨ 15 ≤ x0) (x1 x2 : Int) (m : Nat) (hm : Go.bits BinOp.and IntKind.i64 x2 65535 = (m : Int)) (hr : (m : Int).tmod 3 = 0) (hr2 : (m : Int) % 3 = 0) (hcat : (⟨#[45]⟩ : ByteArray) ++ ⟨#[105, 110, 102]⟩ = ⟨#[45, 105, 110, 102]⟩) (CP : Hid (∀ W, Up w W → Calls Tryz.prog 11 #[.int .i64 x0, .int .i64 x1, .string ⟨#[45, 105, 110, 102]⟩] W (Pn 0 0 3 W))) : Calls Tryz.prog 6 #[.int .i64 x0, .int .i64 x1, .int .i64 x2, .bool true] w (True10 w) := by
  have CO := Lib.hid (fun W => of_out W x0 h)
  clear h
  have U := Up.refl w
  go_enter Tryz.func6, Tryz.ntmps6
  go_wp2_with fail
  refine (shown10_any _ L).mono ?_
  rintro _ w1 ⟨rfl, u_⟩
  replace U := U.trans u_
  clear u_
  go_wp2_with fail
  refine (CP.out _ (by first | exact U | exact U.alloc _)).mono ?_
  rintro _ w2 ⟨rfl, u_⟩
  replace U := Up.trans (by first | exact U | exact U.alloc _) u_
  clear u_ CP
  go_wp2_with fail
  refine (CO.out _).mono ?_
  rintro _ w3 ⟨rfl, u_⟩
  replace U := U.trans u_
  clear u_
  go_upto_region 10 with fail
  obtain ⟨V1, hV1⟩ : ∃ V, w3.alloc (.cells #[.int .i64 0, .int .i64 0, .int .i64 0, .int .i64 0, .int .u64 0, .int .u64 0, .int .u64 0] 33) = V := ⟨_, rfl⟩
  have C : Bf V1 w3.heap.size 33 ⟨0, 0, 0, 0, 0, 0, 0⟩ := by rw [← hV1]; exact Bf.mk_ w3 ⟨0, 0, 0, 0, 0, 0, 0⟩ 33
  have u_ : Up w3 V1 := by rw [← hV1]; exact (Up.refl _).alloc _
  rw [hV1]
  clear hV1
  replace U := U.trans u_
  clear u_
  obtain ⟨C0, C1, C2, C3, C4, C5, C6⟩ := Bf.cs C
  simp only [Nat.zero_add] at C0 C1 C2 C3 C4 C5 C6
  go_wp2_with fail
  go_ret
  exact ⟨rfl, U⟩
set_option maxHeartbeats 4000000 in
set_option maxRecDepth 100000 in
theorem pw_mode0n (w : World) (L : Hid (Lp w)) (i : Nat) (f : M.Fm) (hf : Hid (M.tb i = f)) (i1 : 1 ≤ i) (i2 : i ≤ 14) (x1 x2 : Int) (m : Nat) (hm : Go.bits BinOp.and IntKind.i64 x2 65535 = (m : Int)) (hr : (m : Int).tmod 3 = 0) (hr2 : (m : Int) % 3 = 0) (hcat : (⟨#[45]⟩ : ByteArray) ++ ⟨#[105, 110, 102]⟩ = ⟨#[45, 105, 110, 102]⟩) (CP : Hid (∀ W, Up w W → Calls Tryz.prog 11 #[.int .i64 (i : Int), .int .i64 x1, .string ⟨#[45, 105, 110, 102]⟩] W (Pn 0 0 1 W))) (m1 : (x1 != 1) = true) (m2 : (x1 != 2) = true) : Calls Tryz.prog 6 #[.int .i64 (i : Int), .int .i64 x1, .int .i64 x2, .bool true] w (True10 w) := by
  have CO := Lib.hid (fun W (F : TabF W) => of_in W F i f hf i1 i2)
  have U := Up.refl w
  go_enter Tryz.func6, Tryz.ntmps6
  go_wp2_with fail
  refine (shown10_any _ L).mono ?_
  rintro _ w1 ⟨rfl, u_⟩
  replace U := U.trans u_
  clear u_
  go_wp2_with fail
  refine (CP.out _ (by first | exact U | exact U.alloc _)).mono ?_
  rintro _ w2 ⟨rfl, u_⟩
  replace U := Up.trans (by first | exact U | exact U.alloc _) u_
  clear u_ CP
  go_wp2_with fail
  refine (CO.out _ (L.out.up U).form).mono ?_
  rintro _ w3 ⟨rfl, u_⟩
  replace U := U.trans u_
  clear u_
  go_upto_region 10 with fail
  obtain ⟨V1, hV1⟩ : ∃ V, w3.alloc (.cells #[.int .i64 f.k, .int .i64 f.W, .int .i64 f.m, .int .i64 f.b, .int .u64 f.t, .int .u64 f.n, .int .u64 f.x] 33) = V := ⟨_, rfl⟩
  have C : Bf V1 w3.heap.size 33 f := by rw [← hV1]; exact Bf.mk_ w3 f 33
  have u_ : Up w3 V1 := by rw [← hV1]; exact (Up.refl _).alloc _
  rw [hV1]
  clear hV1
  replace U := U.trans u_
  clear u_
  obtain ⟨C0, C1, C2, C3, C4, C5, C6⟩ := Bf.cs C
  simp only [Nat.zero_add] at C0 C1 C2 C3 C4 C5 C6
  go_wp2_with fail
  go_ret
  exact ⟨rfl, U⟩
set_option maxHeartbeats 4000000 in
set_option maxRecDepth 100000 in
theorem pw_none0na (w : World) (L : Hid (Lp w)) (i : Nat) (f : M.Fm) (hf : Hid (M.tb i = f)) (i1 : 1 ≤ i) (i2 : i ≤ 14) (x1 x2 : Int) (m : Nat) (hm : Go.bits BinOp.and IntKind.i64 x2 65535 = (m : Int)) (hr : (m : Int).tmod 3 = 0) (hr2 : (m : Int) % 3 = 0) (hcat : (⟨#[45]⟩ : ByteArray) ++ ⟨#[105, 110, 102]⟩ = ⟨#[45, 105, 110, 102]⟩) (CP : Hid (∀ W, Up w W → Calls Tryz.prog 11 #[.int .i64 (i : Int), .int .i64 x1, .string ⟨#[45, 105, 110, 102]⟩] W (Pn 0 1 5 W))) (md : (x1 != 1) = false ∨ ((x1 != 1) = true ∧ (x1 != 2) = false)) (n0 : (f.n != 0) = false) : Calls Tryz.prog 6 #[.int .i64 (i : Int), .int .i64 x1, .int .i64 x2, .bool true] w (True10 w) := by
  have CO := Lib.hid (fun W (F : TabF W) => of_in W F i f hf i1 i2)
  have U := Up.refl w
  go_enter Tryz.func6, Tryz.ntmps6
  go_wp2_with fail
  refine (shown10_any _ L).mono ?_
  rintro _ w1 ⟨rfl, u_⟩
  replace U := U.trans u_
  clear u_
  go_wp2_with fail
  refine (CP.out _ (by first | exact U | exact U.alloc _)).mono ?_
  rintro _ w2 ⟨rfl, u_⟩
  replace U := Up.trans (by first | exact U | exact U.alloc _) u_
  clear u_ CP
  go_wp2_with fail
  refine (CO.out _ (L.out.up U).form).mono ?_
  rintro _ w3 ⟨rfl, u_⟩
  replace U := U.trans u_
  clear u_
  go_upto_region 10 with fail
  obtain ⟨V1, hV1⟩ : ∃ V, w3.alloc (.cells #[.int .i64 f.k, .int .i64 f.W, .int .i64 f.m, .int .i64 f.b, .int .u64 f.t, .int .u64 f.n, .int .u64 f.x] 33) = V := ⟨_, rfl⟩
  have C : Bf V1 w3.heap.size 33 f := by rw [← hV1]; exact Bf.mk_ w3 f 33
  have u_ : Up w3 V1 := by rw [← hV1]; exact (Up.refl _).alloc _
  rw [hV1]
  clear hV1
  replace U := U.trans u_
  clear u_
  obtain ⟨C0, C1, C2, C3, C4, C5, C6⟩ := Bf.cs C
  simp only [Nat.zero_add] at C0 C1 C2 C3 C4 C5 C6
  rcases md with m1 | ⟨m1, m2⟩
  all_goals
    go_wp2_with fail
  all_goals
    go_ret
    exact ⟨rfl, by first | exact U | exact U.alloc _⟩
set_option maxHeartbeats 4000000 in
set_option maxRecDepth 100000 in
theorem pw_has0n (w : World) (L : Hid (Lp w)) (i : Nat) (f : M.Fm) (hf : Hid (M.tb i = f)) (i1 : 1 ≤ i) (i2 : i ≤ 14) (p : Int) (x1 x2 : Int) (m : Nat) (hm : Go.bits BinOp.and IntKind.i64 x2 65535 = (m : Int)) (hr : (m : Int).tmod 3 = 0) (hr2 : (m : Int) % 3 = 0) (hcat : (⟨#[45]⟩ : ByteArray) ++ ⟨#[105, 110, 102]⟩ = ⟨#[45, 105, 110, 102]⟩) (CP : Hid (∀ W, Up w W → Calls Tryz.prog 11 #[.int .i64 (i : Int), .int .i64 x1, .string ⟨#[45, 105, 110, 102]⟩] W (Pn p 0 0 W))) (md : (x1 != 1) = false ∨ ((x1 != 1) = true ∧ (x1 != 2) = false)) (n0 : (f.n != 0) = true) (x0 : (f.x != 0) = true) (k1 : (f.k != 1) = true) (k0 : (f.k == 1) = false) (S : Int) (CS : Hid (∀ W, Calls Tryz.prog 24 #[fv f] W (Wz S W))) (hp : IntKind.u64.wrap (f.n + S) = p) (CC : Hid (∀ W, TabF W → Calls Tryz.prog 25 #[.int .i64 (i : Int), .int .u64 p] W (Wn p 0 W))) : Calls Tryz.prog 6 #[.int .i64 (i : Int), .int .i64 x1, .int .i64 x2, .bool true] w (True10 w) := by
  have CO := Lib.hid (fun W (F : TabF W) => of_in W F i f hf i1 i2)
  have U := Up.refl w
  go_enter Tryz.func6, Tryz.ntmps6
  go_wp2_with fail
  refine (shown10_any _ L).mono ?_
  rintro _ w1 ⟨rfl, u_⟩
  replace U := U.trans u_
  clear u_
  go_wp2_with fail
  refine (CP.out _ (by first | exact U | exact U.alloc _)).mono ?_
  rintro _ w2 ⟨rfl, u_⟩
  replace U := Up.trans (by first | exact U | exact U.alloc _) u_
  clear u_ CP
  go_wp2_with fail
  refine (CO.out _ (L.out.up U).form).mono ?_
  rintro _ w3 ⟨rfl, u_⟩
  replace U := U.trans u_
  clear u_
  go_upto_region 10 with fail
  obtain ⟨V1, hV1⟩ : ∃ V, w3.alloc (.cells #[.int .i64 f.k, .int .i64 f.W, .int .i64 f.m, .int .i64 f.b, .int .u64 f.t, .int .u64 f.n, .int .u64 f.x] 33) = V := ⟨_, rfl⟩
  have C : Bf V1 w3.heap.size 33 f := by rw [← hV1]; exact Bf.mk_ w3 f 33
  have u_ : Up w3 V1 := by rw [← hV1]; exact (Up.refl _).alloc _
  rw [hV1]
  clear hV1
  replace U := U.trans u_
  clear u_
  obtain ⟨C0, C1, C2, C3, C4, C5, C6⟩ := Bf.cs C
  simp only [Nat.zero_add] at C0 C1 C2 C3 C4 C5 C6
  rcases md with m1 | ⟨m1, m2⟩
  all_goals
    go_upto_region 15 with fail
    (obtain ⟨V2, hV2⟩ : ∃ V, V1.alloc (.cells #[.bool true, .bool true, .bool false] 4) = V := ⟨_, rfl⟩; have u_ : Up V1 V2 := (by rw [← hV2]; exact (Up.refl V1).alloc _); rw [hV2]; clear hV2)
    replace U := U.trans u_
    replace C := C.up u_
    clear u_ C0 C1 C2 C3 C4 C5 C6
    obtain ⟨C0, C1, C2, C3, C4, C5, C6⟩ := Bf.cs C
    simp only [Nat.zero_add] at C0 C1 C2 C3 C4 C5 C6
    go_upto_region 21 with fail
    go_region_held3 (fun w' => w'.cell? ⟨w3.heap.size, 0, none⟩ = some (.int .i64 f.k) ∧ w'.cell? ⟨w3.heap.size, 1, none⟩ = some (.int .i64 f.W) ∧ w'.cell? ⟨w3.heap.size, 2, none⟩ = some (.int .i64 f.m) ∧ w'.cell? ⟨w3.heap.size, 3, none⟩ = some (.int .i64 f.b) ∧ w'.cell? ⟨w3.heap.size, 4, none⟩ = some (.int .u64 f.t) ∧ w'.cell? ⟨w3.heap.size, 5, none⟩ = some (.int .u64 f.n) ∧ w'.cell? ⟨w3.heap.size, 6, none⟩ = some (.int .u64 f.x)) (go_keep) ((go_at_call 24; (with_reducible refine (CS.out _).mono ?_); rintro _ w30 ⟨rfl, h30⟩; have uw30 : Up V2 w30 := Up.trans (by first | with_reducible assumption | exact (Up.refl V2).drewN 1) h30; have cc0 := cell_up_ uw30 C0; have cc1 := cell_up_ uw30 C1; have cc2 := cell_up_ uw30 C2; have cc3 := cell_up_ uw30 C3; have cc4 := cell_up_ uw30 C4; have cc5 := cell_up_ uw30 C5; have cc6 := cell_up_ uw30 C6))
    clear C0 cc0 C1 cc1 C2 cc2 C3 cc3 C4 cc4 C5 cc5 C6 cc6
    replace U := U.trans uw30
    go_wp2_with fail
    refine (CC.out _ (L.out.up U).form).mono ?_
    rintro _ w9 ⟨rfl, u_⟩
    replace U := U.trans u_
    clear u_
    go_wp2_with fail
    go_ret
    exact ⟨rfl, U⟩
set_option maxHeartbeats 4000000 in
set_option maxRecDepth 100000 in
theorem pw_out0p (w : World) (L : Hid (Lp w)) (x0 : Int) (h : x0 < 1 ∨ 15 ≤ x0) (x1 x2 : Int) (m : Nat) (hm : Go.bits BinOp.and IntKind.i64 x2 65535 = (m : Int)) (hr : (m : Int).tmod 3 = 0) (hr2 : (m : Int) % 3 = 0) (CP : Hid (∀ W, Up w W → Calls Tryz.prog 11 #[.int .i64 x0, .int .i64 x1, .string ⟨#[105, 110, 102]⟩] W (Pn 0 0 3 W))) : Calls Tryz.prog 6 #[.int .i64 x0, .int .i64 x1, .int .i64 x2, .bool false] w (True10 w) := by
  have CO := Lib.hid (fun W => of_out W x0 h)
  clear h
  have U := Up.refl w
  go_enter Tryz.func6, Tryz.ntmps6
  go_wp2_with fail
  refine (shown10_any _ L).mono ?_
  rintro _ w1 ⟨rfl, u_⟩
  replace U := U.trans u_
  clear u_
  go_wp2_with fail
  refine (CP.out _ (by first | exact U | exact U.alloc _)).mono ?_
  rintro _ w2 ⟨rfl, u_⟩
  replace U := Up.trans (by first | exact U | exact U.alloc _) u_
  clear u_ CP
  go_wp2_with fail
  refine (CO.out _).mono ?_
  rintro _ w3 ⟨rfl, u_⟩
  replace U := U.trans u_
  clear u_
  go_upto_region 10 with fail
  obtain ⟨V1, hV1⟩ : ∃ V, w3.alloc (.cells #[.int .i64 0, .int .i64 0, .int .i64 0, .int .i64 0, .int .u64 0, .int .u64 0, .int .u64 0] 33) = V := ⟨_, rfl⟩
  have C : Bf V1 w3.heap.size 33 ⟨0, 0, 0, 0, 0, 0, 0⟩ := by rw [← hV1]; exact Bf.mk_ w3 ⟨0, 0, 0, 0, 0, 0, 0⟩ 33
  have u_ : Up w3 V1 := by rw [← hV1]; exact (Up.refl _).alloc _
  rw [hV1]
  clear hV1
  replace U := U.trans u_
  clear u_
  obtain ⟨C0, C1, C2, C3, C4, C5, C6⟩ := Bf.cs C
  simp only [Nat.zero_add] at C0 C1 C2 C3 C4 C5 C6
  go_wp2_with fail
  go_ret
  exact ⟨rfl, U⟩
set_option maxHeartbeats 4000000 in
set_option maxRecDepth 100000 in
theorem pw_mode0p (w : World) (L : Hid (Lp w)) (i : Nat) (f : M.Fm) (hf : Hid (M.tb i = f)) (i1 : 1 ≤ i) (i2 : i ≤ 14) (x1 x2 : Int) (m : Nat) (hm : Go.bits BinOp.and IntKind.i64 x2 65535 = (m : Int)) (hr : (m : Int).tmod 3 = 0) (hr2 : (m : Int) % 3 = 0) (CP : Hid (∀ W, Up w W → Calls Tryz.prog 11 #[.int .i64 (i : Int), .int .i64 x1, .string ⟨#[105, 110, 102]⟩] W (Pn 0 0 1 W))) (m1 : (x1 != 1) = true) (m2 : (x1 != 2) = true) : Calls Tryz.prog 6 #[.int .i64 (i : Int), .int .i64 x1, .int .i64 x2, .bool false] w (True10 w) := by
  have CO := Lib.hid (fun W (F : TabF W) => of_in W F i f hf i1 i2)
  have U := Up.refl w
  go_enter Tryz.func6, Tryz.ntmps6
  go_wp2_with fail
  refine (shown10_any _ L).mono ?_
  rintro _ w1 ⟨rfl, u_⟩
  replace U := U.trans u_
  clear u_
  go_wp2_with fail
  refine (CP.out _ (by first | exact U | exact U.alloc _)).mono ?_
  rintro _ w2 ⟨rfl, u_⟩
  replace U := Up.trans (by first | exact U | exact U.alloc _) u_
  clear u_ CP
  go_wp2_with fail
  refine (CO.out _ (L.out.up U).form).mono ?_
  rintro _ w3 ⟨rfl, u_⟩
  replace U := U.trans u_
  clear u_
  go_upto_region 10 with fail
  obtain ⟨V1, hV1⟩ : ∃ V, w3.alloc (.cells #[.int .i64 f.k, .int .i64 f.W, .int .i64 f.m, .int .i64 f.b, .int .u64 f.t, .int .u64 f.n, .int .u64 f.x] 33) = V := ⟨_, rfl⟩
  have C : Bf V1 w3.heap.size 33 f := by rw [← hV1]; exact Bf.mk_ w3 f 33
  have u_ : Up w3 V1 := by rw [← hV1]; exact (Up.refl _).alloc _
  rw [hV1]
  clear hV1
  replace U := U.trans u_
  clear u_
  obtain ⟨C0, C1, C2, C3, C4, C5, C6⟩ := Bf.cs C
  simp only [Nat.zero_add] at C0 C1 C2 C3 C4 C5 C6
  go_wp2_with fail
  go_ret
  exact ⟨rfl, U⟩
set_option maxHeartbeats 4000000 in
set_option maxRecDepth 100000 in
theorem pw_none0pa (w : World) (L : Hid (Lp w)) (i : Nat) (f : M.Fm) (hf : Hid (M.tb i = f)) (i1 : 1 ≤ i) (i2 : i ≤ 14) (x1 x2 : Int) (m : Nat) (hm : Go.bits BinOp.and IntKind.i64 x2 65535 = (m : Int)) (hr : (m : Int).tmod 3 = 0) (hr2 : (m : Int) % 3 = 0) (CP : Hid (∀ W, Up w W → Calls Tryz.prog 11 #[.int .i64 (i : Int), .int .i64 x1, .string ⟨#[105, 110, 102]⟩] W (Pn 0 0 5 W))) (md : (x1 != 1) = false ∨ ((x1 != 1) = true ∧ (x1 != 2) = false)) (n0 : (f.n != 0) = false) : Calls Tryz.prog 6 #[.int .i64 (i : Int), .int .i64 x1, .int .i64 x2, .bool false] w (True10 w) := by
  have CO := Lib.hid (fun W (F : TabF W) => of_in W F i f hf i1 i2)
  have U := Up.refl w
  go_enter Tryz.func6, Tryz.ntmps6
  go_wp2_with fail
  refine (shown10_any _ L).mono ?_
  rintro _ w1 ⟨rfl, u_⟩
  replace U := U.trans u_
  clear u_
  go_wp2_with fail
  refine (CP.out _ (by first | exact U | exact U.alloc _)).mono ?_
  rintro _ w2 ⟨rfl, u_⟩
  replace U := Up.trans (by first | exact U | exact U.alloc _) u_
  clear u_ CP
  go_wp2_with fail
  refine (CO.out _ (L.out.up U).form).mono ?_
  rintro _ w3 ⟨rfl, u_⟩
  replace U := U.trans u_
  clear u_
  go_upto_region 10 with fail
  obtain ⟨V1, hV1⟩ : ∃ V, w3.alloc (.cells #[.int .i64 f.k, .int .i64 f.W, .int .i64 f.m, .int .i64 f.b, .int .u64 f.t, .int .u64 f.n, .int .u64 f.x] 33) = V := ⟨_, rfl⟩
  have C : Bf V1 w3.heap.size 33 f := by rw [← hV1]; exact Bf.mk_ w3 f 33
  have u_ : Up w3 V1 := by rw [← hV1]; exact (Up.refl _).alloc _
  rw [hV1]
  clear hV1
  replace U := U.trans u_
  clear u_
  obtain ⟨C0, C1, C2, C3, C4, C5, C6⟩ := Bf.cs C
  simp only [Nat.zero_add] at C0 C1 C2 C3 C4 C5 C6
  rcases md with m1 | ⟨m1, m2⟩
  all_goals
    go_wp2_with fail
  all_goals
    go_ret
    exact ⟨rfl, by first | exact U | exact U.alloc _⟩
set_option maxHeartbeats 4000000 in
set_option maxRecDepth 100000 in
theorem pw_has0p (w : World) (L : Hid (Lp w)) (i : Nat) (f : M.Fm) (hf : Hid (M.tb i = f)) (i1 : 1 ≤ i) (i2 : i ≤ 14) (x1 x2 : Int) (m : Nat) (hm : Go.bits BinOp.and IntKind.i64 x2 65535 = (m : Int)) (hr : (m : Int).tmod 3 = 0) (hr2 : (m : Int) % 3 = 0) (CP : Hid (∀ W, Up w W → Calls Tryz.prog 11 #[.int .i64 (i : Int), .int .i64 x1, .string ⟨#[105, 110, 102]⟩] W (Pn f.n 0 0 W))) (md : (x1 != 1) = false ∨ ((x1 != 1) = true ∧ (x1 != 2) = false)) (n0 : (f.n != 0) = true) (x0 : (f.x != 0) = true) (k1 : (f.k != 1) = true) (k0 : (f.k == 1) = false) (CC : Hid (∀ W, TabF W → Calls Tryz.prog 25 #[.int .i64 (i : Int), .int .u64 f.n] W (Wn f.n 0 W))) : Calls Tryz.prog 6 #[.int .i64 (i : Int), .int .i64 x1, .int .i64 x2, .bool false] w (True10 w) := by
  have CO := Lib.hid (fun W (F : TabF W) => of_in W F i f hf i1 i2)
  have U := Up.refl w
  go_enter Tryz.func6, Tryz.ntmps6
  go_wp2_with fail
  refine (shown10_any _ L).mono ?_
  rintro _ w1 ⟨rfl, u_⟩
  replace U := U.trans u_
  clear u_
  go_wp2_with fail
  refine (CP.out _ (by first | exact U | exact U.alloc _)).mono ?_
  rintro _ w2 ⟨rfl, u_⟩
  replace U := Up.trans (by first | exact U | exact U.alloc _) u_
  clear u_ CP
  go_wp2_with fail
  refine (CO.out _ (L.out.up U).form).mono ?_
  rintro _ w3 ⟨rfl, u_⟩
  replace U := U.trans u_
  clear u_
  go_upto_region 10 with fail
  obtain ⟨V1, hV1⟩ : ∃ V, w3.alloc (.cells #[.int .i64 f.k, .int .i64 f.W, .int .i64 f.m, .int .i64 f.b, .int .u64 f.t, .int .u64 f.n, .int .u64 f.x] 33) = V := ⟨_, rfl⟩
  have C : Bf V1 w3.heap.size 33 f := by rw [← hV1]; exact Bf.mk_ w3 f 33
  have u_ : Up w3 V1 := by rw [← hV1]; exact (Up.refl _).alloc _
  rw [hV1]
  clear hV1
  replace U := U.trans u_
  clear u_
  obtain ⟨C0, C1, C2, C3, C4, C5, C6⟩ := Bf.cs C
  simp only [Nat.zero_add] at C0 C1 C2 C3 C4 C5 C6
  rcases md with m1 | ⟨m1, m2⟩
  all_goals
    go_upto_region 15 with fail
    (obtain ⟨V2, hV2⟩ : ∃ V, V1.alloc (.cells #[.bool true, .bool true, .bool false] 4) = V := ⟨_, rfl⟩; have u_ : Up V1 V2 := (by rw [← hV2]; exact (Up.refl V1).alloc _); rw [hV2]; clear hV2)
    replace U := U.trans u_
    replace C := C.up u_
    clear u_ C0 C1 C2 C3 C4 C5 C6
    obtain ⟨C0, C1, C2, C3, C4, C5, C6⟩ := Bf.cs C
    simp only [Nat.zero_add] at C0 C1 C2 C3 C4 C5 C6
    go_wp2_with fail
    refine (CC.out _ (L.out.up U).form).mono ?_
    rintro _ w9 ⟨rfl, u_⟩
    replace U := U.trans u_
    clear u_
    go_wp2_with fail
    go_ret
    exact ⟨rfl, U⟩
end Go.Proofs.YtbbjlcgfaigmdaaGreatDoor
