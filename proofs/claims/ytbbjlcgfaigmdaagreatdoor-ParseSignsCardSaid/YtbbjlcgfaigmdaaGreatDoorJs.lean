/-
  The walk of ParseSigns: true, and nothing that was there has turned.
-/
import Derived.Test.YtbbjlcgfaigmdaaGreatDoorJd
namespace Go.Proofs.YtbbjlcgfaigmdaaGreatDoor
open Go.RowKit Go.Shelf
set_option linter.unusedSimpArgs false
set_option linter.unusedVariables false

set_option maxHeartbeats 4000000 in
set_option maxRecDepth 100000 in
theorem psigns_out (w : World) (L : Hid (Lp w)) (x0 : Int) (x1 : Int) (s T : ByteArray) (k : Nat) (hk : min (s.size : Int) 300 = (k : Int)) (hk1 : k ≤ s.size) (hk2 : k ≤ 300) (hT : s.extract 0 k = T) (h : x0 < 1 ∨ 15 ≤ x0) : Calls Tryz.prog 9 #[.int .i64 x0, .int .i64 x1, .string s] w (True10 w) := by
  have CO := Lib.hid (fun W => of_out W x0 h)
  clear h
  have U := Up.refl w
  go_enter Tryz.func9, Tryz.ntmps9
  go_wp2_with fail
  refine (shown10_any _ L).mono ?_
  rintro _ w1 ⟨rfl, u_⟩
  replace U := U.trans u_
  clear u_
  go_wp2_with fail
  refine (CO.out _).mono ?_
  rintro _ w2 ⟨rfl, u_⟩
  replace U := U.trans u_
  clear u_
  go_upto_region 4 with fail
  obtain ⟨V1, hV1⟩ : ∃ V, w2.alloc (.cells #[.int .i64 0, .int .i64 0, .int .i64 0, .int .i64 0, .int .u64 0, .int .u64 0, .int .u64 0] 33) = V := ⟨_, rfl⟩
  have C : Bf V1 w2.heap.size 33 ⟨0, 0, 0, 0, 0, 0, 0⟩ := by rw [← hV1]; exact Bf.mk_ w2 ⟨0, 0, 0, 0, 0, 0, 0⟩ 33
  have u_ : Up w2 V1 := by rw [← hV1]; exact (Up.refl _).alloc _
  rw [hV1]
  clear hV1
  replace U := U.trans u_
  clear u_
  obtain ⟨C0, C1, C2, C3, C4, C5, C6⟩ := Bf.cs C
  simp only [Nat.zero_add] at C0 C1 C2 C3 C4 C5 C6
  go_wp2_with fail
  go_ret
  exact ⟨rfl, U⟩
set_option maxHeartbeats 4000000 in
set_option maxRecDepth 100000 in
theorem psigns_kind (w : World) (L : Hid (Lp w)) (i : Nat) (f : M.Fm) (hf : Hid (M.tb i = f)) (i1 : 1 ≤ i) (i2 : i ≤ 14) (x1 : Int) (s T : ByteArray) (k : Nat) (hk : min (s.size : Int) 300 = (k : Int)) (hk1 : k ≤ s.size) (hk2 : k ≤ 300) (hT : s.extract 0 k = T) (k2 : (f.k != 2) = true) (k1 : (f.k != 1) = true) : Calls Tryz.prog 9 #[.int .i64 (i : Int), .int .i64 x1, .string s] w (True10 w) := by
  have CO := Lib.hid (fun W (F : TabF W) => of_in W F i f hf i1 i2)
  have U := Up.refl w
  go_enter Tryz.func9, Tryz.ntmps9
  go_wp2_with fail
  refine (shown10_any _ L).mono ?_
  rintro _ w1 ⟨rfl, u_⟩
  replace U := U.trans u_
  clear u_
  go_wp2_with fail
  refine (CO.out _ (L.out.up U).form).mono ?_
  rintro _ w2 ⟨rfl, u_⟩
  replace U := U.trans u_
  clear u_
  go_upto_region 4 with fail
  obtain ⟨V1, hV1⟩ : ∃ V, w2.alloc (.cells #[.int .i64 f.k, .int .i64 f.W, .int .i64 f.m, .int .i64 f.b, .int .u64 f.t, .int .u64 f.n, .int .u64 f.x] 33) = V := ⟨_, rfl⟩
  have C : Bf V1 w2.heap.size 33 f := by rw [← hV1]; exact Bf.mk_ w2 f 33
  have u_ : Up w2 V1 := by rw [← hV1]; exact (Up.refl _).alloc _
  rw [hV1]
  clear hV1
  replace U := U.trans u_
  clear u_
  obtain ⟨C0, C1, C2, C3, C4, C5, C6⟩ := Bf.cs C
  simp only [Nat.zero_add] at C0 C1 C2 C3 C4 C5 C6
  go_wp2_with fail
  go_ret
  exact ⟨rfl, U⟩
set_option maxHeartbeats 4000000 in
set_option maxRecDepth 100000 in
theorem psigns_empty1 (w : World) (L : Hid (Lp w)) (i : Nat) (f : M.Fm) (hf : Hid (M.tb i = f)) (i1 : 1 ≤ i) (i2 : i ≤ 14) (x1 : Int) (s T : ByteArray) (k : Nat) (hk : min (s.size : Int) 300 = (k : Int)) (hk1 : k ≤ s.size) (hk2 : k ≤ 300) (hT : s.extract 0 k = T) (k2 : (f.k != 2) = true) (k1 : (f.k != 1) = false) (k1e : (f.k == 1) = true) (t0 : T.toList = []) : Calls Tryz.prog 9 #[.int .i64 (i : Int), .int .i64 x1, .string s] w (True10 w) := by
  have CO := Lib.hid (fun W (F : TabF W) => of_in W F i f hf i1 i2)
  have t1 : (T.toList == []) = true := by rw [t0]; rfl
  have t2 : T.toList.isEmpty = true := by rw [t0]; rfl
  have U := Up.refl w
  go_enter Tryz.func9, Tryz.ntmps9
  go_wp2_with fail
  refine (shown10_any _ L).mono ?_
  rintro _ w1 ⟨rfl, u_⟩
  replace U := U.trans u_
  clear u_
  go_wp2_with fail
  refine (CO.out _ (L.out.up U).form).mono ?_
  rintro _ w2 ⟨rfl, u_⟩
  replace U := U.trans u_
  clear u_
  go_upto_region 4 with fail
  obtain ⟨V1, hV1⟩ : ∃ V, w2.alloc (.cells #[.int .i64 f.k, .int .i64 f.W, .int .i64 f.m, .int .i64 f.b, .int .u64 f.t, .int .u64 f.n, .int .u64 f.x] 33) = V := ⟨_, rfl⟩
  have C : Bf V1 w2.heap.size 33 f := by rw [← hV1]; exact Bf.mk_ w2 f 33
  have u_ : Up w2 V1 := by rw [← hV1]; exact (Up.refl _).alloc _
  rw [hV1]
  clear hV1
  replace U := U.trans u_
  clear u_
  obtain ⟨C0, C1, C2, C3, C4, C5, C6⟩ := Bf.cs C
  simp only [Nat.zero_add] at C0 C1 C2 C3 C4 C5 C6
  go_wp2_with fail
  go_ret
  exact ⟨rfl, U⟩
set_option maxHeartbeats 4000000 in
set_option maxRecDepth 100000 in
theorem psigns_low1 (w : World) (L : Hid (Lp w)) (i : Nat) (f : M.Fm) (hf : Hid (M.tb i = f)) (i1 : 1 ≤ i) (i2 : i ≤ 14) (x1 : Int) (s T : ByteArray) (k : Nat) (hk : min (s.size : Int) 300 = (k : Int)) (hk1 : k ≤ s.size) (hk2 : k ≤ 300) (hT : s.extract 0 k = T) (k2 : (f.k != 2) = true) (k1 : (f.k != 1) = false) (k1e : (f.k == 1) = true) (b : Nat) (t0 : ¬ T.toList = []) (t1 : (T.toList == []) = false) (t2 : T.toList.isEmpty = false) (tz : 0 < T.size) (tb : ∀ W : World, (Instr.index 9 (.string T) (.int .i64 0)).run Tryz.prog W = .ok (.int .u8 (b : Int)) W) (b1 : ((b : Int) != 46) = true) (b2 : decide ((b : Int) < 48) = true) : Calls Tryz.prog 9 #[.int .i64 (i : Int), .int .i64 x1, .string s] w (True10 w) := by
  have CO := Lib.hid (fun W (F : TabF W) => of_in W F i f hf i1 i2)
  have U := Up.refl w
  go_enter Tryz.func9, Tryz.ntmps9
  go_wp2_with fail
  refine (shown10_any _ L).mono ?_
  rintro _ w1 ⟨rfl, u_⟩
  replace U := U.trans u_
  clear u_
  go_wp2_with fail
  refine (CO.out _ (L.out.up U).form).mono ?_
  rintro _ w2 ⟨rfl, u_⟩
  replace U := U.trans u_
  clear u_
  go_upto_region 4 with fail
  obtain ⟨V1, hV1⟩ : ∃ V, w2.alloc (.cells #[.int .i64 f.k, .int .i64 f.W, .int .i64 f.m, .int .i64 f.b, .int .u64 f.t, .int .u64 f.n, .int .u64 f.x] 33) = V := ⟨_, rfl⟩
  have C : Bf V1 w2.heap.size 33 f := by rw [← hV1]; exact Bf.mk_ w2 f 33
  have u_ : Up w2 V1 := by rw [← hV1]; exact (Up.refl _).alloc _
  rw [hV1]
  clear hV1
  replace U := U.trans u_
  clear u_
  obtain ⟨C0, C1, C2, C3, C4, C5, C6⟩ := Bf.cs C
  simp only [Nat.zero_add] at C0 C1 C2 C3 C4 C5 C6
  go_wp2_with fail
  go_ret
  exact ⟨rfl, U⟩
set_option maxHeartbeats 4000000 in
set_option maxRecDepth 100000 in
theorem psigns_high1 (w : World) (L : Hid (Lp w)) (i : Nat) (f : M.Fm) (hf : Hid (M.tb i = f)) (i1 : 1 ≤ i) (i2 : i ≤ 14) (x1 : Int) (s T : ByteArray) (k : Nat) (hk : min (s.size : Int) 300 = (k : Int)) (hk1 : k ≤ s.size) (hk2 : k ≤ 300) (hT : s.extract 0 k = T) (k2 : (f.k != 2) = true) (k1 : (f.k != 1) = false) (k1e : (f.k == 1) = true) (b : Nat) (t0 : ¬ T.toList = []) (t1 : (T.toList == []) = false) (t2 : T.toList.isEmpty = false) (tz : 0 < T.size) (tb : ∀ W : World, (Instr.index 9 (.string T) (.int .i64 0)).run Tryz.prog W = .ok (.int .u8 (b : Int)) W) (b1 : ((b : Int) != 46) = true) (b2 : decide ((b : Int) < 48) = false) (b3 : decide (57 < (b : Int)) = true) : Calls Tryz.prog 9 #[.int .i64 (i : Int), .int .i64 x1, .string s] w (True10 w) := by
  have CO := Lib.hid (fun W (F : TabF W) => of_in W F i f hf i1 i2)
  have U := Up.refl w
  go_enter Tryz.func9, Tryz.ntmps9
  go_wp2_with fail
  refine (shown10_any _ L).mono ?_
  rintro _ w1 ⟨rfl, u_⟩
  replace U := U.trans u_
  clear u_
  go_wp2_with fail
  refine (CO.out _ (L.out.up U).form).mono ?_
  rintro _ w2 ⟨rfl, u_⟩
  replace U := U.trans u_
  clear u_
  go_upto_region 4 with fail
  obtain ⟨V1, hV1⟩ : ∃ V, w2.alloc (.cells #[.int .i64 f.k, .int .i64 f.W, .int .i64 f.m, .int .i64 f.b, .int .u64 f.t, .int .u64 f.n, .int .u64 f.x] 33) = V := ⟨_, rfl⟩
  have C : Bf V1 w2.heap.size 33 f := by rw [← hV1]; exact Bf.mk_ w2 f 33
  have u_ : Up w2 V1 := by rw [← hV1]; exact (Up.refl _).alloc _
  rw [hV1]
  clear hV1
  replace U := U.trans u_
  clear u_
  obtain ⟨C0, C1, C2, C3, C4, C5, C6⟩ := Bf.cs C
  simp only [Nat.zero_add] at C0 C1 C2 C3 C4 C5 C6
  go_wp2_with fail
  go_ret
  exact ⟨rfl, U⟩
set_option maxHeartbeats 4000000 in
set_option maxRecDepth 100000 in
theorem psigns_empty2 (w : World) (L : Hid (Lp w)) (i : Nat) (f : M.Fm) (hf : Hid (M.tb i = f)) (i1 : 1 ≤ i) (i2 : i ≤ 14) (x1 : Int) (s T : ByteArray) (k : Nat) (hk : min (s.size : Int) 300 = (k : Int)) (hk1 : k ≤ s.size) (hk2 : k ≤ 300) (hT : s.extract 0 k = T) (k2 : (f.k != 2) = false) (k1e : (f.k == 1) = false) (t0 : T.toList = []) : Calls Tryz.prog 9 #[.int .i64 (i : Int), .int .i64 x1, .string s] w (True10 w) := by
  have CO := Lib.hid (fun W (F : TabF W) => of_in W F i f hf i1 i2)
  have t1 : (T.toList == []) = true := by rw [t0]; rfl
  have t2 : T.toList.isEmpty = true := by rw [t0]; rfl
  have U := Up.refl w
  go_enter Tryz.func9, Tryz.ntmps9
  go_wp2_with fail
  refine (shown10_any _ L).mono ?_
  rintro _ w1 ⟨rfl, u_⟩
  replace U := U.trans u_
  clear u_
  go_wp2_with fail
  refine (CO.out _ (L.out.up U).form).mono ?_
  rintro _ w2 ⟨rfl, u_⟩
  replace U := U.trans u_
  clear u_
  go_upto_region 4 with fail
  obtain ⟨V1, hV1⟩ : ∃ V, w2.alloc (.cells #[.int .i64 f.k, .int .i64 f.W, .int .i64 f.m, .int .i64 f.b, .int .u64 f.t, .int .u64 f.n, .int .u64 f.x] 33) = V := ⟨_, rfl⟩
  have C : Bf V1 w2.heap.size 33 f := by rw [← hV1]; exact Bf.mk_ w2 f 33
  have u_ : Up w2 V1 := by rw [← hV1]; exact (Up.refl _).alloc _
  rw [hV1]
  clear hV1
  replace U := U.trans u_
  clear u_
  obtain ⟨C0, C1, C2, C3, C4, C5, C6⟩ := Bf.cs C
  simp only [Nat.zero_add] at C0 C1 C2 C3 C4 C5 C6
  go_wp2_with fail
  go_ret
  exact ⟨rfl, U⟩
set_option maxHeartbeats 4000000 in
set_option maxRecDepth 100000 in
theorem psigns_low2 (w : World) (L : Hid (Lp w)) (i : Nat) (f : M.Fm) (hf : Hid (M.tb i = f)) (i1 : 1 ≤ i) (i2 : i ≤ 14) (x1 : Int) (s T : ByteArray) (k : Nat) (hk : min (s.size : Int) 300 = (k : Int)) (hk1 : k ≤ s.size) (hk2 : k ≤ 300) (hT : s.extract 0 k = T) (k2 : (f.k != 2) = false) (k1e : (f.k == 1) = false) (b : Nat) (t0 : ¬ T.toList = []) (t1 : (T.toList == []) = false) (t2 : T.toList.isEmpty = false) (tz : 0 < T.size) (tb : ∀ W : World, (Instr.index 9 (.string T) (.int .i64 0)).run Tryz.prog W = .ok (.int .u8 (b : Int)) W) (b1 : ((b : Int) != 46) = true) (b2 : decide ((b : Int) < 48) = true) : Calls Tryz.prog 9 #[.int .i64 (i : Int), .int .i64 x1, .string s] w (True10 w) := by
  have CO := Lib.hid (fun W (F : TabF W) => of_in W F i f hf i1 i2)
  have U := Up.refl w
  go_enter Tryz.func9, Tryz.ntmps9
  go_wp2_with fail
  refine (shown10_any _ L).mono ?_
  rintro _ w1 ⟨rfl, u_⟩
  replace U := U.trans u_
  clear u_
  go_wp2_with fail
  refine (CO.out _ (L.out.up U).form).mono ?_
  rintro _ w2 ⟨rfl, u_⟩
  replace U := U.trans u_
  clear u_
  go_upto_region 4 with fail
  obtain ⟨V1, hV1⟩ : ∃ V, w2.alloc (.cells #[.int .i64 f.k, .int .i64 f.W, .int .i64 f.m, .int .i64 f.b, .int .u64 f.t, .int .u64 f.n, .int .u64 f.x] 33) = V := ⟨_, rfl⟩
  have C : Bf V1 w2.heap.size 33 f := by rw [← hV1]; exact Bf.mk_ w2 f 33
  have u_ : Up w2 V1 := by rw [← hV1]; exact (Up.refl _).alloc _
  rw [hV1]
  clear hV1
  replace U := U.trans u_
  clear u_
  obtain ⟨C0, C1, C2, C3, C4, C5, C6⟩ := Bf.cs C
  simp only [Nat.zero_add] at C0 C1 C2 C3 C4 C5 C6
  go_wp2_with fail
  go_ret
  exact ⟨rfl, U⟩
set_option maxHeartbeats 4000000 in
set_option maxRecDepth 100000 in
theorem psigns_high2 (w : World) (L : Hid (Lp w)) (i : Nat) (f : M.Fm) (hf : Hid (M.tb i = f)) (i1 : 1 ≤ i) (i2 : i ≤ 14) (x1 : Int) (s T : ByteArray) (k : Nat) (hk : min (s.size : Int) 300 = (k : Int)) (hk1 : k ≤ s.size) (hk2 : k ≤ 300) (hT : s.extract 0 k = T) (k2 : (f.k != 2) = false) (k1e : (f.k == 1) = false) (b : Nat) (t0 : ¬ T.toList = []) (t1 : (T.toList == []) = false) (t2 : T.toList.isEmpty = false) (tz : 0 < T.size) (tb : ∀ W : World, (Instr.index 9 (.string T) (.int .i64 0)).run Tryz.prog W = .ok (.int .u8 (b : Int)) W) (b1 : ((b : Int) != 46) = true) (b2 : decide ((b : Int) < 48) = false) (b3 : decide (57 < (b : Int)) = true) : Calls Tryz.prog 9 #[.int .i64 (i : Int), .int .i64 x1, .string s] w (True10 w) := by
  have CO := Lib.hid (fun W (F : TabF W) => of_in W F i f hf i1 i2)
  have U := Up.refl w
  go_enter Tryz.func9, Tryz.ntmps9
  go_wp2_with fail
  refine (shown10_any _ L).mono ?_
  rintro _ w1 ⟨rfl, u_⟩
  replace U := U.trans u_
  clear u_
  go_wp2_with fail
  refine (CO.out _ (L.out.up U).form).mono ?_
  rintro _ w2 ⟨rfl, u_⟩
  replace U := U.trans u_
  clear u_
  go_upto_region 4 with fail
  obtain ⟨V1, hV1⟩ : ∃ V, w2.alloc (.cells #[.int .i64 f.k, .int .i64 f.W, .int .i64 f.m, .int .i64 f.b, .int .u64 f.t, .int .u64 f.n, .int .u64 f.x] 33) = V := ⟨_, rfl⟩
  have C : Bf V1 w2.heap.size 33 f := by rw [← hV1]; exact Bf.mk_ w2 f 33
  have u_ : Up w2 V1 := by rw [← hV1]; exact (Up.refl _).alloc _
  rw [hV1]
  clear hV1
  replace U := U.trans u_
  clear u_
  obtain ⟨C0, C1, C2, C3, C4, C5, C6⟩ := Bf.cs C
  simp only [Nat.zero_add] at C0 C1 C2 C3 C4 C5 C6
  go_wp2_with fail
  go_ret
  exact ⟨rfl, U⟩
set_option maxHeartbeats 4000000 in
set_option maxRecDepth 100000 in
theorem psigns_bad1dot (w : World) (L : Hid (Lp w)) (i : Nat) (f : M.Fm) (hf : Hid (M.tb i = f)) (i1 : 1 ≤ i) (i2 : i ≤ 14) (x1 : Int) (s T : ByteArray) (k : Nat) (hk : min (s.size : Int) 300 = (k : Int)) (hk1 : k ≤ s.size) (hk2 : k ≤ 300) (hT : s.extract 0 k = T) (k2 : (f.k != 2) = true) (k1 : (f.k != 1) = false) (k1e : (f.k == 1) = true) (b : Nat) (t0 : ¬ T.toList = []) (t1 : (T.toList == []) = false) (t2 : T.toList.isEmpty = false) (tz : 0 < T.size) (tb : ∀ W : World, (Instr.index 9 (.string T) (.int .i64 0)).run Tryz.prog W = .ok (.int .u8 (b : Int)) W) (b1 : ((b : Int) != 46) = false) (Tm : ByteArray) (hcat : (⟨#[45]⟩ : ByteArray) ++ T = Tm) (hTs : T.size ≤ 300) (p q : Int) (n m : Nat) (e e2 : Int) (CP : Hid (∀ W, Up w W → Calls Tryz.prog 11 #[.int .i64 (i : Int), .int .i64 x1, .string T] W (Pn p n e W))) (CQ : Hid (∀ W, Up w W → Calls Tryz.prog 11 #[.int .i64 (i : Int), .int .i64 x1, .string Tm] W (Pn q m e2 W))) (e0 : (e != 0) = true) (ee : (e2 == e) = true) (hn : n ≤ 300) (he : ((m : Int) == (n : Int) + 1) = true ∨ (((m : Int) == (n : Int) + 1) = false ∧ (e == 1) = true ∧ ((m : Int) == 0) = true)) : Calls Tryz.prog 9 #[.int .i64 (i : Int), .int .i64 x1, .string s] w (True10 w) := by
  have CO := Lib.hid (fun W (F : TabF W) => of_in W F i f hf i1 i2)
  have U := Up.refl w
  go_enter Tryz.func9, Tryz.ntmps9
  go_wp2_with fail
  refine (shown10_any _ L).mono ?_
  rintro _ w1 ⟨rfl, u_⟩
  replace U := U.trans u_
  clear u_
  go_wp2_with fail
  refine (CO.out _ (L.out.up U).form).mono ?_
  rintro _ w2 ⟨rfl, u_⟩
  replace U := U.trans u_
  clear u_
  go_upto_region 4 with fail
  obtain ⟨V1, hV1⟩ : ∃ V, w2.alloc (.cells #[.int .i64 f.k, .int .i64 f.W, .int .i64 f.m, .int .i64 f.b, .int .u64 f.t, .int .u64 f.n, .int .u64 f.x] 33) = V := ⟨_, rfl⟩
  have C : Bf V1 w2.heap.size 33 f := by rw [← hV1]; exact Bf.mk_ w2 f 33
  have u_ : Up w2 V1 := by rw [← hV1]; exact (Up.refl _).alloc _
  rw [hV1]
  clear hV1
  replace U := U.trans u_
  clear u_
  obtain ⟨C0, C1, C2, C3, C4, C5, C6⟩ := Bf.cs C
  simp only [Nat.zero_add] at C0 C1 C2 C3 C4 C5 C6
  go_wp2_with fail
  refine (CP.out _ U).mono ?_
  rintro _ w3 ⟨rfl, u_⟩
  replace U := U.trans u_
  replace C := C.up u_
  clear u_
  clear C0 C1 C2 C3 C4 C5 C6
  go_wp2_with fail
  refine (CQ.out _ U).mono ?_
  rintro _ w4 ⟨rfl, u_⟩
  replace U := U.trans u_
  replace C := C.up u_
  clear u_
  clear C CP CQ
  rcases he with h1 | ⟨h1, h2, h3⟩
  all_goals
    go_wp2_with fail
    go_ret
    exact ⟨rfl, U⟩
set_option maxHeartbeats 4000000 in
set_option maxRecDepth 100000 in
theorem psigns_nan1dot (w : World) (L : Hid (Lp w)) (i : Nat) (f : M.Fm) (hf : Hid (M.tb i = f)) (i1 : 1 ≤ i) (i2 : i ≤ 14) (x1 : Int) (s T : ByteArray) (k : Nat) (hk : min (s.size : Int) 300 = (k : Int)) (hk1 : k ≤ s.size) (hk2 : k ≤ 300) (hT : s.extract 0 k = T) (k2 : (f.k != 2) = true) (k1 : (f.k != 1) = false) (k1e : (f.k == 1) = true) (b : Nat) (t0 : ¬ T.toList = []) (t1 : (T.toList == []) = false) (t2 : T.toList.isEmpty = false) (tz : 0 < T.size) (tb : ∀ W : World, (Instr.index 9 (.string T) (.int .i64 0)).run Tryz.prog W = .ok (.int .u8 (b : Int)) W) (b1 : ((b : Int) != 46) = false) (Tm : ByteArray) (hcat : (⟨#[45]⟩ : ByteArray) ++ T = Tm) (hTs : T.size ≤ 300) (p q : Int)  (CP : Hid (∀ W, Up w W → Calls Tryz.prog 11 #[.int .i64 (i : Int), .int .i64 x1, .string T] W (Pn p 0 0 W))) (CQ : Hid (∀ W, Up w W → Calls Tryz.prog 11 #[.int .i64 (i : Int), .int .i64 x1, .string Tm] W (Pn q 0 0 W))) (xx : (f.x != 0) = true) (px : (p == f.x) = true) (qp : (q == p) = true) : Calls Tryz.prog 9 #[.int .i64 (i : Int), .int .i64 x1, .string s] w (True10 w) := by
  have CO := Lib.hid (fun W (F : TabF W) => of_in W F i f hf i1 i2)
  have U := Up.refl w
  go_enter Tryz.func9, Tryz.ntmps9
  go_wp2_with fail
  refine (shown10_any _ L).mono ?_
  rintro _ w1 ⟨rfl, u_⟩
  replace U := U.trans u_
  clear u_
  go_wp2_with fail
  refine (CO.out _ (L.out.up U).form).mono ?_
  rintro _ w2 ⟨rfl, u_⟩
  replace U := U.trans u_
  clear u_
  go_upto_region 4 with fail
  obtain ⟨V1, hV1⟩ : ∃ V, w2.alloc (.cells #[.int .i64 f.k, .int .i64 f.W, .int .i64 f.m, .int .i64 f.b, .int .u64 f.t, .int .u64 f.n, .int .u64 f.x] 33) = V := ⟨_, rfl⟩
  have C : Bf V1 w2.heap.size 33 f := by rw [← hV1]; exact Bf.mk_ w2 f 33
  have u_ : Up w2 V1 := by rw [← hV1]; exact (Up.refl _).alloc _
  rw [hV1]
  clear hV1
  replace U := U.trans u_
  clear u_
  obtain ⟨C0, C1, C2, C3, C4, C5, C6⟩ := Bf.cs C
  simp only [Nat.zero_add] at C0 C1 C2 C3 C4 C5 C6
  go_wp2_with fail
  refine (CP.out _ U).mono ?_
  rintro _ w3 ⟨rfl, u_⟩
  replace U := U.trans u_
  replace C := C.up u_
  clear u_
  clear C0 C1 C2 C3 C4 C5 C6
  go_wp2_with fail
  refine (CQ.out _ U).mono ?_
  rintro _ w4 ⟨rfl, u_⟩
  replace U := U.trans u_
  replace C := C.up u_
  clear u_
  clear CP CQ
  obtain ⟨C0, C1, C2, C3, C4, C5, C6⟩ := Bf.cs C
  simp only [Nat.zero_add] at C0 C1 C2 C3 C4 C5 C6
  go_wp2_with fail
  go_ret
  exact ⟨rfl, U⟩
set_option maxHeartbeats 4000000 in
set_option maxRecDepth 100000 in
theorem psigns_num1dot (w : World) (L : Hid (Lp w)) (i : Nat) (f : M.Fm) (hf : Hid (M.tb i = f)) (i1 : 1 ≤ i) (i2 : i ≤ 14) (x1 : Int) (s T : ByteArray) (k : Nat) (hk : min (s.size : Int) 300 = (k : Int)) (hk1 : k ≤ s.size) (hk2 : k ≤ 300) (hT : s.extract 0 k = T) (k2 : (f.k != 2) = true) (k1 : (f.k != 1) = false) (k1e : (f.k == 1) = true) (b : Nat) (t0 : ¬ T.toList = []) (t1 : (T.toList == []) = false) (t2 : T.toList.isEmpty = false) (tz : 0 < T.size) (tb : ∀ W : World, (Instr.index 9 (.string T) (.int .i64 0)).run Tryz.prog W = .ok (.int .u8 (b : Int)) W) (b1 : ((b : Int) != 46) = false) (Tm : ByteArray) (hcat : (⟨#[45]⟩ : ByteArray) ++ T = Tm) (hTs : T.size ≤ 300) (p q : Int)  (CP : Hid (∀ W, Up w W → Calls Tryz.prog 11 #[.int .i64 (i : Int), .int .i64 x1, .string T] W (Pn p 0 0 W))) (CQ : Hid (∀ W, Up w W → Calls Tryz.prog 11 #[.int .i64 (i : Int), .int .i64 x1, .string Tm] W (Pn q 0 0 W))) (xx : (f.x != 0) = true) (px : (p == f.x) = false) (S M : Int) (CS : Hid (∀ W, Calls Tryz.prog 24 #[fv f] W (Wz S W))) (CM : Hid (∀ W, Calls Tryz.prog 28 #[fv f] W (Wz M W))) (qs : (q == bits BinOp.and IntKind.u64 (IntKind.u64.wrap (-p)) M) = true) : Calls Tryz.prog 9 #[.int .i64 (i : Int), .int .i64 x1, .string s] w (True10 w) := by
  have CO := Lib.hid (fun W (F : TabF W) => of_in W F i f hf i1 i2)
  have U := Up.refl w
  go_enter Tryz.func9, Tryz.ntmps9
  go_wp2_with fail
  refine (shown10_any _ L).mono ?_
  rintro _ w1 ⟨rfl, u_⟩
  replace U := U.trans u_
  clear u_
  go_wp2_with fail
  refine (CO.out _ (L.out.up U).form).mono ?_
  rintro _ w2 ⟨rfl, u_⟩
  replace U := U.trans u_
  clear u_
  go_upto_region 4 with fail
  obtain ⟨V1, hV1⟩ : ∃ V, w2.alloc (.cells #[.int .i64 f.k, .int .i64 f.W, .int .i64 f.m, .int .i64 f.b, .int .u64 f.t, .int .u64 f.n, .int .u64 f.x] 33) = V := ⟨_, rfl⟩
  have C : Bf V1 w2.heap.size 33 f := by rw [← hV1]; exact Bf.mk_ w2 f 33
  have u_ : Up w2 V1 := by rw [← hV1]; exact (Up.refl _).alloc _
  rw [hV1]
  clear hV1
  replace U := U.trans u_
  clear u_
  obtain ⟨C0, C1, C2, C3, C4, C5, C6⟩ := Bf.cs C
  simp only [Nat.zero_add] at C0 C1 C2 C3 C4 C5 C6
  go_wp2_with fail
  refine (CP.out _ U).mono ?_
  rintro _ w3 ⟨rfl, u_⟩
  replace U := U.trans u_
  replace C := C.up u_
  clear u_
  clear C0 C1 C2 C3 C4 C5 C6
  go_wp2_with fail
  refine (CQ.out _ U).mono ?_
  rintro _ w4 ⟨rfl, u_⟩
  replace U := U.trans u_
  replace C := C.up u_
  clear u_
  clear CP CQ
  obtain ⟨C0, C1, C2, C3, C4, C5, C6⟩ := Bf.cs C
  simp only [Nat.zero_add] at C0 C1 C2 C3 C4 C5 C6
  go_wp2_with fail
  refine (CS.out _).mono ?_
  rintro _ w5 ⟨rfl, u_⟩
  replace U := U.trans u_
  replace C := C.up u_
  clear u_ C0 C1 C2 C3 C4 C5 C6
  obtain ⟨C0, C1, C2, C3, C4, C5, C6⟩ := Bf.cs C
  simp only [Nat.zero_add] at C0 C1 C2 C3 C4 C5 C6
  go_wp2_with fail
  refine (CM.out _).mono ?_
  rintro _ w6 ⟨rfl, u_⟩
  replace U := U.trans u_
  clear u_ C0 C1 C2 C3 C4 C5 C6
  go_wp2_with fail
  go_ret
  exact ⟨rfl, U⟩
set_option maxHeartbeats 4000000 in
set_option maxRecDepth 100000 in
theorem psigns_bad1dig (w : World) (L : Hid (Lp w)) (i : Nat) (f : M.Fm) (hf : Hid (M.tb i = f)) (i1 : 1 ≤ i) (i2 : i ≤ 14) (x1 : Int) (s T : ByteArray) (k : Nat) (hk : min (s.size : Int) 300 = (k : Int)) (hk1 : k ≤ s.size) (hk2 : k ≤ 300) (hT : s.extract 0 k = T) (k2 : (f.k != 2) = true) (k1 : (f.k != 1) = false) (k1e : (f.k == 1) = true) (b : Nat) (t0 : ¬ T.toList = []) (t1 : (T.toList == []) = false) (t2 : T.toList.isEmpty = false) (tz : 0 < T.size) (tb : ∀ W : World, (Instr.index 9 (.string T) (.int .i64 0)).run Tryz.prog W = .ok (.int .u8 (b : Int)) W) (b1 : ((b : Int) != 46) = true) (b2 : decide ((b : Int) < 48) = false) (b3 : decide (57 < (b : Int)) = false) (Tm : ByteArray) (hcat : (⟨#[45]⟩ : ByteArray) ++ T = Tm) (hTs : T.size ≤ 300) (p q : Int) (n m : Nat) (e e2 : Int) (CP : Hid (∀ W, Up w W → Calls Tryz.prog 11 #[.int .i64 (i : Int), .int .i64 x1, .string T] W (Pn p n e W))) (CQ : Hid (∀ W, Up w W → Calls Tryz.prog 11 #[.int .i64 (i : Int), .int .i64 x1, .string Tm] W (Pn q m e2 W))) (e0 : (e != 0) = true) (ee : (e2 == e) = true) (hn : n ≤ 300) (he : ((m : Int) == (n : Int) + 1) = true ∨ (((m : Int) == (n : Int) + 1) = false ∧ (e == 1) = true ∧ ((m : Int) == 0) = true)) : Calls Tryz.prog 9 #[.int .i64 (i : Int), .int .i64 x1, .string s] w (True10 w) := by
  have CO := Lib.hid (fun W (F : TabF W) => of_in W F i f hf i1 i2)
  have U := Up.refl w
  go_enter Tryz.func9, Tryz.ntmps9
  go_wp2_with fail
  refine (shown10_any _ L).mono ?_
  rintro _ w1 ⟨rfl, u_⟩
  replace U := U.trans u_
  clear u_
  go_wp2_with fail
  refine (CO.out _ (L.out.up U).form).mono ?_
  rintro _ w2 ⟨rfl, u_⟩
  replace U := U.trans u_
  clear u_
  go_upto_region 4 with fail
  obtain ⟨V1, hV1⟩ : ∃ V, w2.alloc (.cells #[.int .i64 f.k, .int .i64 f.W, .int .i64 f.m, .int .i64 f.b, .int .u64 f.t, .int .u64 f.n, .int .u64 f.x] 33) = V := ⟨_, rfl⟩
  have C : Bf V1 w2.heap.size 33 f := by rw [← hV1]; exact Bf.mk_ w2 f 33
  have u_ : Up w2 V1 := by rw [← hV1]; exact (Up.refl _).alloc _
  rw [hV1]
  clear hV1
  replace U := U.trans u_
  clear u_
  obtain ⟨C0, C1, C2, C3, C4, C5, C6⟩ := Bf.cs C
  simp only [Nat.zero_add] at C0 C1 C2 C3 C4 C5 C6
  go_wp2_with fail
  refine (CP.out _ U).mono ?_
  rintro _ w3 ⟨rfl, u_⟩
  replace U := U.trans u_
  replace C := C.up u_
  clear u_
  clear C0 C1 C2 C3 C4 C5 C6
  go_wp2_with fail
  refine (CQ.out _ U).mono ?_
  rintro _ w4 ⟨rfl, u_⟩
  replace U := U.trans u_
  replace C := C.up u_
  clear u_
  clear C CP CQ
  rcases he with h1 | ⟨h1, h2, h3⟩
  all_goals
    go_wp2_with fail
    go_ret
    exact ⟨rfl, U⟩
set_option maxHeartbeats 4000000 in
set_option maxRecDepth 100000 in
theorem psigns_nan1dig (w : World) (L : Hid (Lp w)) (i : Nat) (f : M.Fm) (hf : Hid (M.tb i = f)) (i1 : 1 ≤ i) (i2 : i ≤ 14) (x1 : Int) (s T : ByteArray) (k : Nat) (hk : min (s.size : Int) 300 = (k : Int)) (hk1 : k ≤ s.size) (hk2 : k ≤ 300) (hT : s.extract 0 k = T) (k2 : (f.k != 2) = true) (k1 : (f.k != 1) = false) (k1e : (f.k == 1) = true) (b : Nat) (t0 : ¬ T.toList = []) (t1 : (T.toList == []) = false) (t2 : T.toList.isEmpty = false) (tz : 0 < T.size) (tb : ∀ W : World, (Instr.index 9 (.string T) (.int .i64 0)).run Tryz.prog W = .ok (.int .u8 (b : Int)) W) (b1 : ((b : Int) != 46) = true) (b2 : decide ((b : Int) < 48) = false) (b3 : decide (57 < (b : Int)) = false) (Tm : ByteArray) (hcat : (⟨#[45]⟩ : ByteArray) ++ T = Tm) (hTs : T.size ≤ 300) (p q : Int)  (CP : Hid (∀ W, Up w W → Calls Tryz.prog 11 #[.int .i64 (i : Int), .int .i64 x1, .string T] W (Pn p 0 0 W))) (CQ : Hid (∀ W, Up w W → Calls Tryz.prog 11 #[.int .i64 (i : Int), .int .i64 x1, .string Tm] W (Pn q 0 0 W))) (xx : (f.x != 0) = true) (px : (p == f.x) = true) (qp : (q == p) = true) : Calls Tryz.prog 9 #[.int .i64 (i : Int), .int .i64 x1, .string s] w (True10 w) := by
  have CO := Lib.hid (fun W (F : TabF W) => of_in W F i f hf i1 i2)
  have U := Up.refl w
  go_enter Tryz.func9, Tryz.ntmps9
  go_wp2_with fail
  refine (shown10_any _ L).mono ?_
  rintro _ w1 ⟨rfl, u_⟩
  replace U := U.trans u_
  clear u_
  go_wp2_with fail
  refine (CO.out _ (L.out.up U).form).mono ?_
  rintro _ w2 ⟨rfl, u_⟩
  replace U := U.trans u_
  clear u_
  go_upto_region 4 with fail
  obtain ⟨V1, hV1⟩ : ∃ V, w2.alloc (.cells #[.int .i64 f.k, .int .i64 f.W, .int .i64 f.m, .int .i64 f.b, .int .u64 f.t, .int .u64 f.n, .int .u64 f.x] 33) = V := ⟨_, rfl⟩
  have C : Bf V1 w2.heap.size 33 f := by rw [← hV1]; exact Bf.mk_ w2 f 33
  have u_ : Up w2 V1 := by rw [← hV1]; exact (Up.refl _).alloc _
  rw [hV1]
  clear hV1
  replace U := U.trans u_
  clear u_
  obtain ⟨C0, C1, C2, C3, C4, C5, C6⟩ := Bf.cs C
  simp only [Nat.zero_add] at C0 C1 C2 C3 C4 C5 C6
  go_wp2_with fail
  refine (CP.out _ U).mono ?_
  rintro _ w3 ⟨rfl, u_⟩
  replace U := U.trans u_
  replace C := C.up u_
  clear u_
  clear C0 C1 C2 C3 C4 C5 C6
  go_wp2_with fail
  refine (CQ.out _ U).mono ?_
  rintro _ w4 ⟨rfl, u_⟩
  replace U := U.trans u_
  replace C := C.up u_
  clear u_
  clear CP CQ
  obtain ⟨C0, C1, C2, C3, C4, C5, C6⟩ := Bf.cs C
  simp only [Nat.zero_add] at C0 C1 C2 C3 C4 C5 C6
  go_wp2_with fail
  go_ret
  exact ⟨rfl, U⟩
set_option maxHeartbeats 4000000 in
set_option maxRecDepth 100000 in
theorem psigns_num1dig (w : World) (L : Hid (Lp w)) (i : Nat) (f : M.Fm) (hf : Hid (M.tb i = f)) (i1 : 1 ≤ i) (i2 : i ≤ 14) (x1 : Int) (s T : ByteArray) (k : Nat) (hk : min (s.size : Int) 300 = (k : Int)) (hk1 : k ≤ s.size) (hk2 : k ≤ 300) (hT : s.extract 0 k = T) (k2 : (f.k != 2) = true) (k1 : (f.k != 1) = false) (k1e : (f.k == 1) = true) (b : Nat) (t0 : ¬ T.toList = []) (t1 : (T.toList == []) = false) (t2 : T.toList.isEmpty = false) (tz : 0 < T.size) (tb : ∀ W : World, (Instr.index 9 (.string T) (.int .i64 0)).run Tryz.prog W = .ok (.int .u8 (b : Int)) W) (b1 : ((b : Int) != 46) = true) (b2 : decide ((b : Int) < 48) = false) (b3 : decide (57 < (b : Int)) = false) (Tm : ByteArray) (hcat : (⟨#[45]⟩ : ByteArray) ++ T = Tm) (hTs : T.size ≤ 300) (p q : Int)  (CP : Hid (∀ W, Up w W → Calls Tryz.prog 11 #[.int .i64 (i : Int), .int .i64 x1, .string T] W (Pn p 0 0 W))) (CQ : Hid (∀ W, Up w W → Calls Tryz.prog 11 #[.int .i64 (i : Int), .int .i64 x1, .string Tm] W (Pn q 0 0 W))) (xx : (f.x != 0) = true) (px : (p == f.x) = false) (S M : Int) (CS : Hid (∀ W, Calls Tryz.prog 24 #[fv f] W (Wz S W))) (CM : Hid (∀ W, Calls Tryz.prog 28 #[fv f] W (Wz M W))) (qs : (q == bits BinOp.and IntKind.u64 (IntKind.u64.wrap (-p)) M) = true) : Calls Tryz.prog 9 #[.int .i64 (i : Int), .int .i64 x1, .string s] w (True10 w) := by
  have CO := Lib.hid (fun W (F : TabF W) => of_in W F i f hf i1 i2)
  have U := Up.refl w
  go_enter Tryz.func9, Tryz.ntmps9
  go_wp2_with fail
  refine (shown10_any _ L).mono ?_
  rintro _ w1 ⟨rfl, u_⟩
  replace U := U.trans u_
  clear u_
  go_wp2_with fail
  refine (CO.out _ (L.out.up U).form).mono ?_
  rintro _ w2 ⟨rfl, u_⟩
  replace U := U.trans u_
  clear u_
  go_upto_region 4 with fail
  obtain ⟨V1, hV1⟩ : ∃ V, w2.alloc (.cells #[.int .i64 f.k, .int .i64 f.W, .int .i64 f.m, .int .i64 f.b, .int .u64 f.t, .int .u64 f.n, .int .u64 f.x] 33) = V := ⟨_, rfl⟩
  have C : Bf V1 w2.heap.size 33 f := by rw [← hV1]; exact Bf.mk_ w2 f 33
  have u_ : Up w2 V1 := by rw [← hV1]; exact (Up.refl _).alloc _
  rw [hV1]
  clear hV1
  replace U := U.trans u_
  clear u_
  obtain ⟨C0, C1, C2, C3, C4, C5, C6⟩ := Bf.cs C
  simp only [Nat.zero_add] at C0 C1 C2 C3 C4 C5 C6
  go_wp2_with fail
  refine (CP.out _ U).mono ?_
  rintro _ w3 ⟨rfl, u_⟩
  replace U := U.trans u_
  replace C := C.up u_
  clear u_
  clear C0 C1 C2 C3 C4 C5 C6
  go_wp2_with fail
  refine (CQ.out _ U).mono ?_
  rintro _ w4 ⟨rfl, u_⟩
  replace U := U.trans u_
  replace C := C.up u_
  clear u_
  clear CP CQ
  obtain ⟨C0, C1, C2, C3, C4, C5, C6⟩ := Bf.cs C
  simp only [Nat.zero_add] at C0 C1 C2 C3 C4 C5 C6
  go_wp2_with fail
  refine (CS.out _).mono ?_
  rintro _ w5 ⟨rfl, u_⟩
  replace U := U.trans u_
  replace C := C.up u_
  clear u_ C0 C1 C2 C3 C4 C5 C6
  obtain ⟨C0, C1, C2, C3, C4, C5, C6⟩ := Bf.cs C
  simp only [Nat.zero_add] at C0 C1 C2 C3 C4 C5 C6
  go_wp2_with fail
  refine (CM.out _).mono ?_
  rintro _ w6 ⟨rfl, u_⟩
  replace U := U.trans u_
  clear u_ C0 C1 C2 C3 C4 C5 C6
  go_wp2_with fail
  go_ret
  exact ⟨rfl, U⟩
set_option maxHeartbeats 4000000 in
set_option maxRecDepth 100000 in
theorem psigns_bad2dot (w : World) (L : Hid (Lp w)) (i : Nat) (f : M.Fm) (hf : Hid (M.tb i = f)) (i1 : 1 ≤ i) (i2 : i ≤ 14) (x1 : Int) (s T : ByteArray) (k : Nat) (hk : min (s.size : Int) 300 = (k : Int)) (hk1 : k ≤ s.size) (hk2 : k ≤ 300) (hT : s.extract 0 k = T) (k2 : (f.k != 2) = false) (k1e : (f.k == 1) = false) (b : Nat) (t0 : ¬ T.toList = []) (t1 : (T.toList == []) = false) (t2 : T.toList.isEmpty = false) (tz : 0 < T.size) (tb : ∀ W : World, (Instr.index 9 (.string T) (.int .i64 0)).run Tryz.prog W = .ok (.int .u8 (b : Int)) W) (b1 : ((b : Int) != 46) = false) (Tm : ByteArray) (hcat : (⟨#[45]⟩ : ByteArray) ++ T = Tm) (hTs : T.size ≤ 300) (p q : Int) (n m : Nat) (e e2 : Int) (CP : Hid (∀ W, Up w W → Calls Tryz.prog 11 #[.int .i64 (i : Int), .int .i64 x1, .string T] W (Pn p n e W))) (CQ : Hid (∀ W, Up w W → Calls Tryz.prog 11 #[.int .i64 (i : Int), .int .i64 x1, .string Tm] W (Pn q m e2 W))) (e0 : (e != 0) = true) (ee : (e2 == e) = true) (hn : n ≤ 300) (he : ((m : Int) == (n : Int) + 1) = true ∨ (((m : Int) == (n : Int) + 1) = false ∧ (e == 1) = true ∧ ((m : Int) == 0) = true)) : Calls Tryz.prog 9 #[.int .i64 (i : Int), .int .i64 x1, .string s] w (True10 w) := by
  have CO := Lib.hid (fun W (F : TabF W) => of_in W F i f hf i1 i2)
  have U := Up.refl w
  go_enter Tryz.func9, Tryz.ntmps9
  go_wp2_with fail
  refine (shown10_any _ L).mono ?_
  rintro _ w1 ⟨rfl, u_⟩
  replace U := U.trans u_
  clear u_
  go_wp2_with fail
  refine (CO.out _ (L.out.up U).form).mono ?_
  rintro _ w2 ⟨rfl, u_⟩
  replace U := U.trans u_
  clear u_
  go_upto_region 4 with fail
  obtain ⟨V1, hV1⟩ : ∃ V, w2.alloc (.cells #[.int .i64 f.k, .int .i64 f.W, .int .i64 f.m, .int .i64 f.b, .int .u64 f.t, .int .u64 f.n, .int .u64 f.x] 33) = V := ⟨_, rfl⟩
  have C : Bf V1 w2.heap.size 33 f := by rw [← hV1]; exact Bf.mk_ w2 f 33
  have u_ : Up w2 V1 := by rw [← hV1]; exact (Up.refl _).alloc _
  rw [hV1]
  clear hV1
  replace U := U.trans u_
  clear u_
  obtain ⟨C0, C1, C2, C3, C4, C5, C6⟩ := Bf.cs C
  simp only [Nat.zero_add] at C0 C1 C2 C3 C4 C5 C6
  go_wp2_with fail
  refine (CP.out _ U).mono ?_
  rintro _ w3 ⟨rfl, u_⟩
  replace U := U.trans u_
  replace C := C.up u_
  clear u_
  clear C0 C1 C2 C3 C4 C5 C6
  go_wp2_with fail
  refine (CQ.out _ U).mono ?_
  rintro _ w4 ⟨rfl, u_⟩
  replace U := U.trans u_
  replace C := C.up u_
  clear u_
  clear C CP CQ
  rcases he with h1 | ⟨h1, h2, h3⟩
  all_goals
    go_wp2_with fail
    go_ret
    exact ⟨rfl, U⟩
set_option maxHeartbeats 4000000 in
set_option maxRecDepth 100000 in
theorem psigns_nan2dot (w : World) (L : Hid (Lp w)) (i : Nat) (f : M.Fm) (hf : Hid (M.tb i = f)) (i1 : 1 ≤ i) (i2 : i ≤ 14) (x1 : Int) (s T : ByteArray) (k : Nat) (hk : min (s.size : Int) 300 = (k : Int)) (hk1 : k ≤ s.size) (hk2 : k ≤ 300) (hT : s.extract 0 k = T) (k2 : (f.k != 2) = false) (k1e : (f.k == 1) = false) (b : Nat) (t0 : ¬ T.toList = []) (t1 : (T.toList == []) = false) (t2 : T.toList.isEmpty = false) (tz : 0 < T.size) (tb : ∀ W : World, (Instr.index 9 (.string T) (.int .i64 0)).run Tryz.prog W = .ok (.int .u8 (b : Int)) W) (b1 : ((b : Int) != 46) = false) (Tm : ByteArray) (hcat : (⟨#[45]⟩ : ByteArray) ++ T = Tm) (hTs : T.size ≤ 300) (p q : Int)  (CP : Hid (∀ W, Up w W → Calls Tryz.prog 11 #[.int .i64 (i : Int), .int .i64 x1, .string T] W (Pn p 0 0 W))) (CQ : Hid (∀ W, Up w W → Calls Tryz.prog 11 #[.int .i64 (i : Int), .int .i64 x1, .string Tm] W (Pn q 0 0 W))) (xx : (f.x != 0) = true) (px : (p == f.x) = true) (qp : (q == p) = true) : Calls Tryz.prog 9 #[.int .i64 (i : Int), .int .i64 x1, .string s] w (True10 w) := by
  have CO := Lib.hid (fun W (F : TabF W) => of_in W F i f hf i1 i2)
  have U := Up.refl w
  go_enter Tryz.func9, Tryz.ntmps9
  go_wp2_with fail
  refine (shown10_any _ L).mono ?_
  rintro _ w1 ⟨rfl, u_⟩
  replace U := U.trans u_
  clear u_
  go_wp2_with fail
  refine (CO.out _ (L.out.up U).form).mono ?_
  rintro _ w2 ⟨rfl, u_⟩
  replace U := U.trans u_
  clear u_
  go_upto_region 4 with fail
  obtain ⟨V1, hV1⟩ : ∃ V, w2.alloc (.cells #[.int .i64 f.k, .int .i64 f.W, .int .i64 f.m, .int .i64 f.b, .int .u64 f.t, .int .u64 f.n, .int .u64 f.x] 33) = V := ⟨_, rfl⟩
  have C : Bf V1 w2.heap.size 33 f := by rw [← hV1]; exact Bf.mk_ w2 f 33
  have u_ : Up w2 V1 := by rw [← hV1]; exact (Up.refl _).alloc _
  rw [hV1]
  clear hV1
  replace U := U.trans u_
  clear u_
  obtain ⟨C0, C1, C2, C3, C4, C5, C6⟩ := Bf.cs C
  simp only [Nat.zero_add] at C0 C1 C2 C3 C4 C5 C6
  go_wp2_with fail
  refine (CP.out _ U).mono ?_
  rintro _ w3 ⟨rfl, u_⟩
  replace U := U.trans u_
  replace C := C.up u_
  clear u_
  clear C0 C1 C2 C3 C4 C5 C6
  go_wp2_with fail
  refine (CQ.out _ U).mono ?_
  rintro _ w4 ⟨rfl, u_⟩
  replace U := U.trans u_
  replace C := C.up u_
  clear u_
  clear CP CQ
  obtain ⟨C0, C1, C2, C3, C4, C5, C6⟩ := Bf.cs C
  simp only [Nat.zero_add] at C0 C1 C2 C3 C4 C5 C6
  go_wp2_with fail
  go_ret
  exact ⟨rfl, U⟩
set_option maxHeartbeats 4000000 in
set_option maxRecDepth 100000 in
theorem psigns_num2dot (w : World) (L : Hid (Lp w)) (i : Nat) (f : M.Fm) (hf : Hid (M.tb i = f)) (i1 : 1 ≤ i) (i2 : i ≤ 14) (x1 : Int) (s T : ByteArray) (k : Nat) (hk : min (s.size : Int) 300 = (k : Int)) (hk1 : k ≤ s.size) (hk2 : k ≤ 300) (hT : s.extract 0 k = T) (k2 : (f.k != 2) = false) (k1e : (f.k == 1) = false) (b : Nat) (t0 : ¬ T.toList = []) (t1 : (T.toList == []) = false) (t2 : T.toList.isEmpty = false) (tz : 0 < T.size) (tb : ∀ W : World, (Instr.index 9 (.string T) (.int .i64 0)).run Tryz.prog W = .ok (.int .u8 (b : Int)) W) (b1 : ((b : Int) != 46) = false) (Tm : ByteArray) (hcat : (⟨#[45]⟩ : ByteArray) ++ T = Tm) (hTs : T.size ≤ 300) (p q : Int)  (CP : Hid (∀ W, Up w W → Calls Tryz.prog 11 #[.int .i64 (i : Int), .int .i64 x1, .string T] W (Pn p 0 0 W))) (CQ : Hid (∀ W, Up w W → Calls Tryz.prog 11 #[.int .i64 (i : Int), .int .i64 x1, .string Tm] W (Pn q 0 0 W))) (xx : (f.x != 0) = false ∨ ((f.x != 0) = true ∧ (p == f.x) = false)) (S : Int) (CS : Hid (∀ W, Calls Tryz.prog 24 #[fv f] W (Wz S W))) (qs : (q == bits BinOp.xor IntKind.u64 p S) = true) : Calls Tryz.prog 9 #[.int .i64 (i : Int), .int .i64 x1, .string s] w (True10 w) := by
  have CO := Lib.hid (fun W (F : TabF W) => of_in W F i f hf i1 i2)
  have U := Up.refl w
  go_enter Tryz.func9, Tryz.ntmps9
  go_wp2_with fail
  refine (shown10_any _ L).mono ?_
  rintro _ w1 ⟨rfl, u_⟩
  replace U := U.trans u_
  clear u_
  go_wp2_with fail
  refine (CO.out _ (L.out.up U).form).mono ?_
  rintro _ w2 ⟨rfl, u_⟩
  replace U := U.trans u_
  clear u_
  go_upto_region 4 with fail
  obtain ⟨V1, hV1⟩ : ∃ V, w2.alloc (.cells #[.int .i64 f.k, .int .i64 f.W, .int .i64 f.m, .int .i64 f.b, .int .u64 f.t, .int .u64 f.n, .int .u64 f.x] 33) = V := ⟨_, rfl⟩
  have C : Bf V1 w2.heap.size 33 f := by rw [← hV1]; exact Bf.mk_ w2 f 33
  have u_ : Up w2 V1 := by rw [← hV1]; exact (Up.refl _).alloc _
  rw [hV1]
  clear hV1
  replace U := U.trans u_
  clear u_
  obtain ⟨C0, C1, C2, C3, C4, C5, C6⟩ := Bf.cs C
  simp only [Nat.zero_add] at C0 C1 C2 C3 C4 C5 C6
  go_wp2_with fail
  refine (CP.out _ U).mono ?_
  rintro _ w3 ⟨rfl, u_⟩
  replace U := U.trans u_
  replace C := C.up u_
  clear u_
  clear C0 C1 C2 C3 C4 C5 C6
  go_wp2_with fail
  refine (CQ.out _ U).mono ?_
  rintro _ w4 ⟨rfl, u_⟩
  replace U := U.trans u_
  replace C := C.up u_
  clear u_
  clear CP CQ
  obtain ⟨C0, C1, C2, C3, C4, C5, C6⟩ := Bf.cs C
  simp only [Nat.zero_add] at C0 C1 C2 C3 C4 C5 C6
  rcases xx with xx | ⟨xx, px⟩
  all_goals
    go_wp2_with fail
    refine (CS.out _).mono ?_
    rintro _ w5 ⟨rfl, u_⟩
    replace U := U.trans u_
    replace C := C.up u_
    clear u_ C0 C1 C2 C3 C4 C5 C6
    obtain ⟨C0, C1, C2, C3, C4, C5, C6⟩ := Bf.cs C
    simp only [Nat.zero_add] at C0 C1 C2 C3 C4 C5 C6
    go_wp2_with fail
    go_ret
    exact ⟨rfl, U⟩
set_option maxHeartbeats 4000000 in
set_option maxRecDepth 100000 in
theorem psigns_bad2dig (w : World) (L : Hid (Lp w)) (i : Nat) (f : M.Fm) (hf : Hid (M.tb i = f)) (i1 : 1 ≤ i) (i2 : i ≤ 14) (x1 : Int) (s T : ByteArray) (k : Nat) (hk : min (s.size : Int) 300 = (k : Int)) (hk1 : k ≤ s.size) (hk2 : k ≤ 300) (hT : s.extract 0 k = T) (k2 : (f.k != 2) = false) (k1e : (f.k == 1) = false) (b : Nat) (t0 : ¬ T.toList = []) (t1 : (T.toList == []) = false) (t2 : T.toList.isEmpty = false) (tz : 0 < T.size) (tb : ∀ W : World, (Instr.index 9 (.string T) (.int .i64 0)).run Tryz.prog W = .ok (.int .u8 (b : Int)) W) (b1 : ((b : Int) != 46) = true) (b2 : decide ((b : Int) < 48) = false) (b3 : decide (57 < (b : Int)) = false) (Tm : ByteArray) (hcat : (⟨#[45]⟩ : ByteArray) ++ T = Tm) (hTs : T.size ≤ 300) (p q : Int) (n m : Nat) (e e2 : Int) (CP : Hid (∀ W, Up w W → Calls Tryz.prog 11 #[.int .i64 (i : Int), .int .i64 x1, .string T] W (Pn p n e W))) (CQ : Hid (∀ W, Up w W → Calls Tryz.prog 11 #[.int .i64 (i : Int), .int .i64 x1, .string Tm] W (Pn q m e2 W))) (e0 : (e != 0) = true) (ee : (e2 == e) = true) (hn : n ≤ 300) (he : ((m : Int) == (n : Int) + 1) = true ∨ (((m : Int) == (n : Int) + 1) = false ∧ (e == 1) = true ∧ ((m : Int) == 0) = true)) : Calls Tryz.prog 9 #[.int .i64 (i : Int), .int .i64 x1, .string s] w (True10 w) := by
  have CO := Lib.hid (fun W (F : TabF W) => of_in W F i f hf i1 i2)
  have U := Up.refl w
  go_enter Tryz.func9, Tryz.ntmps9
  go_wp2_with fail
  refine (shown10_any _ L).mono ?_
  rintro _ w1 ⟨rfl, u_⟩
  replace U := U.trans u_
  clear u_
  go_wp2_with fail
  refine (CO.out _ (L.out.up U).form).mono ?_
  rintro _ w2 ⟨rfl, u_⟩
  replace U := U.trans u_
  clear u_
  go_upto_region 4 with fail
  obtain ⟨V1, hV1⟩ : ∃ V, w2.alloc (.cells #[.int .i64 f.k, .int .i64 f.W, .int .i64 f.m, .int .i64 f.b, .int .u64 f.t, .int .u64 f.n, .int .u64 f.x] 33) = V := ⟨_, rfl⟩
  have C : Bf V1 w2.heap.size 33 f := by rw [← hV1]; exact Bf.mk_ w2 f 33
  have u_ : Up w2 V1 := by rw [← hV1]; exact (Up.refl _).alloc _
  rw [hV1]
  clear hV1
  replace U := U.trans u_
  clear u_
  obtain ⟨C0, C1, C2, C3, C4, C5, C6⟩ := Bf.cs C
  simp only [Nat.zero_add] at C0 C1 C2 C3 C4 C5 C6
  go_wp2_with fail
  refine (CP.out _ U).mono ?_
  rintro _ w3 ⟨rfl, u_⟩
  replace U := U.trans u_
  replace C := C.up u_
  clear u_
  clear C0 C1 C2 C3 C4 C5 C6
  go_wp2_with fail
  refine (CQ.out _ U).mono ?_
  rintro _ w4 ⟨rfl, u_⟩
  replace U := U.trans u_
  replace C := C.up u_
  clear u_
  clear C CP CQ
  rcases he with h1 | ⟨h1, h2, h3⟩
  all_goals
    go_wp2_with fail
    go_ret
    exact ⟨rfl, U⟩
set_option maxHeartbeats 4000000 in
set_option maxRecDepth 100000 in
theorem psigns_nan2dig (w : World) (L : Hid (Lp w)) (i : Nat) (f : M.Fm) (hf : Hid (M.tb i = f)) (i1 : 1 ≤ i) (i2 : i ≤ 14) (x1 : Int) (s T : ByteArray) (k : Nat) (hk : min (s.size : Int) 300 = (k : Int)) (hk1 : k ≤ s.size) (hk2 : k ≤ 300) (hT : s.extract 0 k = T) (k2 : (f.k != 2) = false) (k1e : (f.k == 1) = false) (b : Nat) (t0 : ¬ T.toList = []) (t1 : (T.toList == []) = false) (t2 : T.toList.isEmpty = false) (tz : 0 < T.size) (tb : ∀ W : World, (Instr.index 9 (.string T) (.int .i64 0)).run Tryz.prog W = .ok (.int .u8 (b : Int)) W) (b1 : ((b : Int) != 46) = true) (b2 : decide ((b : Int) < 48) = false) (b3 : decide (57 < (b : Int)) = false) (Tm : ByteArray) (hcat : (⟨#[45]⟩ : ByteArray) ++ T = Tm) (hTs : T.size ≤ 300) (p q : Int)  (CP : Hid (∀ W, Up w W → Calls Tryz.prog 11 #[.int .i64 (i : Int), .int .i64 x1, .string T] W (Pn p 0 0 W))) (CQ : Hid (∀ W, Up w W → Calls Tryz.prog 11 #[.int .i64 (i : Int), .int .i64 x1, .string Tm] W (Pn q 0 0 W))) (xx : (f.x != 0) = true) (px : (p == f.x) = true) (qp : (q == p) = true) : Calls Tryz.prog 9 #[.int .i64 (i : Int), .int .i64 x1, .string s] w (True10 w) := by
  have CO := Lib.hid (fun W (F : TabF W) => of_in W F i f hf i1 i2)
  have U := Up.refl w
  go_enter Tryz.func9, Tryz.ntmps9
  go_wp2_with fail
  refine (shown10_any _ L).mono ?_
  rintro _ w1 ⟨rfl, u_⟩
  replace U := U.trans u_
  clear u_
  go_wp2_with fail
  refine (CO.out _ (L.out.up U).form).mono ?_
  rintro _ w2 ⟨rfl, u_⟩
  replace U := U.trans u_
  clear u_
  go_upto_region 4 with fail
  obtain ⟨V1, hV1⟩ : ∃ V, w2.alloc (.cells #[.int .i64 f.k, .int .i64 f.W, .int .i64 f.m, .int .i64 f.b, .int .u64 f.t, .int .u64 f.n, .int .u64 f.x] 33) = V := ⟨_, rfl⟩
  have C : Bf V1 w2.heap.size 33 f := by rw [← hV1]; exact Bf.mk_ w2 f 33
  have u_ : Up w2 V1 := by rw [← hV1]; exact (Up.refl _).alloc _
  rw [hV1]
  clear hV1
  replace U := U.trans u_
  clear u_
  obtain ⟨C0, C1, C2, C3, C4, C5, C6⟩ := Bf.cs C
  simp only [Nat.zero_add] at C0 C1 C2 C3 C4 C5 C6
  go_wp2_with fail
  refine (CP.out _ U).mono ?_
  rintro _ w3 ⟨rfl, u_⟩
  replace U := U.trans u_
  replace C := C.up u_
  clear u_
  clear C0 C1 C2 C3 C4 C5 C6
  go_wp2_with fail
  refine (CQ.out _ U).mono ?_
  rintro _ w4 ⟨rfl, u_⟩
  replace U := U.trans u_
  replace C := C.up u_
  clear u_
  clear CP CQ
  obtain ⟨C0, C1, C2, C3, C4, C5, C6⟩ := Bf.cs C
  simp only [Nat.zero_add] at C0 C1 C2 C3 C4 C5 C6
  go_wp2_with fail
  go_ret
  exact ⟨rfl, U⟩
set_option maxHeartbeats 4000000 in
set_option maxRecDepth 100000 in
theorem psigns_num2dig (w : World) (L : Hid (Lp w)) (i : Nat) (f : M.Fm) (hf : Hid (M.tb i = f)) (i1 : 1 ≤ i) (i2 : i ≤ 14) (x1 : Int) (s T : ByteArray) (k : Nat) (hk : min (s.size : Int) 300 = (k : Int)) (hk1 : k ≤ s.size) (hk2 : k ≤ 300) (hT : s.extract 0 k = T) (k2 : (f.k != 2) = false) (k1e : (f.k == 1) = false) (b : Nat) (t0 : ¬ T.toList = []) (t1 : (T.toList == []) = false) (t2 : T.toList.isEmpty = false) (tz : 0 < T.size) (tb : ∀ W : World, (Instr.index 9 (.string T) (.int .i64 0)).run Tryz.prog W = .ok (.int .u8 (b : Int)) W) (b1 : ((b : Int) != 46) = true) (b2 : decide ((b : Int) < 48) = false) (b3 : decide (57 < (b : Int)) = false) (Tm : ByteArray) (hcat : (⟨#[45]⟩ : ByteArray) ++ T = Tm) (hTs : T.size ≤ 300) (p q : Int)  (CP : Hid (∀ W, Up w W → Calls Tryz.prog 11 #[.int .i64 (i : Int), .int .i64 x1, .string T] W (Pn p 0 0 W))) (CQ : Hid (∀ W, Up w W → Calls Tryz.prog 11 #[.int .i64 (i : Int), .int .i64 x1, .string Tm] W (Pn q 0 0 W))) (xx : (f.x != 0) = false ∨ ((f.x != 0) = true ∧ (p == f.x) = false)) (S : Int) (CS : Hid (∀ W, Calls Tryz.prog 24 #[fv f] W (Wz S W))) (qs : (q == bits BinOp.xor IntKind.u64 p S) = true) : Calls Tryz.prog 9 #[.int .i64 (i : Int), .int .i64 x1, .string s] w (True10 w) := by
  have CO := Lib.hid (fun W (F : TabF W) => of_in W F i f hf i1 i2)
  have U := Up.refl w
  go_enter Tryz.func9, Tryz.ntmps9
  go_wp2_with fail
  refine (shown10_any _ L).mono ?_
  rintro _ w1 ⟨rfl, u_⟩
  replace U := U.trans u_
  clear u_
  go_wp2_with fail
  refine (CO.out _ (L.out.up U).form).mono ?_
  rintro _ w2 ⟨rfl, u_⟩
  replace U := U.trans u_
  clear u_
  go_upto_region 4 with fail
  obtain ⟨V1, hV1⟩ : ∃ V, w2.alloc (.cells #[.int .i64 f.k, .int .i64 f.W, .int .i64 f.m, .int .i64 f.b, .int .u64 f.t, .int .u64 f.n, .int .u64 f.x] 33) = V := ⟨_, rfl⟩
  have C : Bf V1 w2.heap.size 33 f := by rw [← hV1]; exact Bf.mk_ w2 f 33
  have u_ : Up w2 V1 := by rw [← hV1]; exact (Up.refl _).alloc _
  rw [hV1]
  clear hV1
  replace U := U.trans u_
  clear u_
  obtain ⟨C0, C1, C2, C3, C4, C5, C6⟩ := Bf.cs C
  simp only [Nat.zero_add] at C0 C1 C2 C3 C4 C5 C6
  go_wp2_with fail
  refine (CP.out _ U).mono ?_
  rintro _ w3 ⟨rfl, u_⟩
  replace U := U.trans u_
  replace C := C.up u_
  clear u_
  clear C0 C1 C2 C3 C4 C5 C6
  go_wp2_with fail
  refine (CQ.out _ U).mono ?_
  rintro _ w4 ⟨rfl, u_⟩
  replace U := U.trans u_
  replace C := C.up u_
  clear u_
  clear CP CQ
  obtain ⟨C0, C1, C2, C3, C4, C5, C6⟩ := Bf.cs C
  simp only [Nat.zero_add] at C0 C1 C2 C3 C4 C5 C6
  rcases xx with xx | ⟨xx, px⟩
  all_goals
    go_wp2_with fail
    refine (CS.out _).mono ?_
    rintro _ w5 ⟨rfl, u_⟩
    replace U := U.trans u_
    replace C := C.up u_
    clear u_ C0 C1 C2 C3 C4 C5 C6
    obtain ⟨C0, C1, C2, C3, C4, C5, C6⟩ := Bf.cs C
    simp only [Nat.zero_add] at C0 C1 C2 C3 C4 C5 C6
    go_wp2_with fail
    go_ret
    exact ⟨rfl, U⟩
end Go.Proofs.YtbbjlcgfaigmdaaGreatDoor
