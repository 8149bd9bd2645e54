/-
  The reference of layer 4: Of.
-/
import Derived.Test.YtjcbncfpcechnaaDoorForm9
namespace Go.Proofs.YtjcbncfpcechnaaDoor
open Go.RowKit
set_option maxHeartbeats 2000000 in
set_option maxRecDepth 100000 in
theorem rof5 (w : World)  : Calls Tryd.prog 31 #[.int .i64 5] w (Fb ⟨2, 8, 3, 7, 126, 0, 127⟩ true w) := by
  have U := Up.refl w
  go_enter Tryd.func31, Tryd.ntmps31
  go_wp2_with fail
  obtain ⟨V1, hV1⟩ : ∃ V1, w.alloc (.cells #[.int .i64 0, .int .i64 0, .int .i64 0, .int .i64 0, .int .u64 0, .int .u64 0, .int .u64 0] 58) = V1 := ⟨_, rfl⟩
  have uV1 : Up w V1 := by rw [← hV1]; first | exact (Up.refl _).alloc _ | exact ((Up.refl _).alloc _).alloc _ | exact (((Up.refl _).alloc _).alloc _).alloc _ | exact ((((Up.refl _).alloc _).alloc _).alloc _).alloc _ | ((repeat (refine Up.alloc ?_ _)); exact Up.refl _)
  have a : Bf V1 w.heap.size 58 ⟨0, 0, 0, 0, 0, 0, 0⟩ := by rw [← hV1]; exact Bf.mk_ w ⟨0, 0, 0, 0, 0, 0, 0⟩ 58
  rw [hV1]
  clear hV1
  replace U := U.trans uV1
  clear uV1
  refine (rsigned5 _).mono ?_
  rintro _ w2 ⟨rfl, h2⟩
  replace a := a.up h2
  replace U := U.trans h2
  clear h2
  obtain ⟨a0, a1, a2, a3, a4, a5, a6⟩ := Bf.cs a
  have a7 := Bf.lt a
  simp only [Nat.zero_add] at a0 a1 a2 a3 a4 a5 a6 a7
  go_wp2_with (refine store_F rfl 58 (.tmp 2) (.tmp 30) rfl _ _ ⟨2, 8, 3, 7, 126, 0, 127⟩ rfl rfl (by kernel_rfl) w (by first | exact U | exact U.alloc _) (by first | exact Nat.le_refl _ | omega) 58 (by first | exact a | exact a.up ((Up.refl _).alloc _)) ?_; clear U; intro V z U _)
  obtain ⟨z0, z1, z2, z3, z4, z5, z6⟩ := Bf.cs z
  have z7 := Bf.lt z
  simp only [Nat.zero_add] at z0 z1 z2 z3 z4 z5 z6 z7
  refine bodyPost_ret (v := .tuple #[fv ⟨2, 8, 3, 7, 126, 0, 127⟩, .bool true]) (by simp [results, Tryd.results31, go_sem, z0, z1, z2, z3, z4, z5, z6]) rfl ?_
  exact ⟨rfl, by (repeat (first | exact U | refine Up.setCell ?_ (by first | exact Nat.le_refl _ | omega) _ | refine Up.alloc ?_ _)); try exact U⟩
set_option maxHeartbeats 2000000 in
set_option maxRecDepth 100000 in
theorem rof6 (w : World)  : Calls Tryd.prog 31 #[.int .i64 6] w (Fb ⟨2, 8, 2, 15, 123, 124, 126⟩ true w) := by
  have U := Up.refl w
  go_enter Tryd.func31, Tryd.ntmps31
  go_wp2_with fail
  obtain ⟨V1, hV1⟩ : ∃ V1, w.alloc (.cells #[.int .i64 0, .int .i64 0, .int .i64 0, .int .i64 0, .int .u64 0, .int .u64 0, .int .u64 0] 58) = V1 := ⟨_, rfl⟩
  have uV1 : Up w V1 := by rw [← hV1]; first | exact (Up.refl _).alloc _ | exact ((Up.refl _).alloc _).alloc _ | exact (((Up.refl _).alloc _).alloc _).alloc _ | exact ((((Up.refl _).alloc _).alloc _).alloc _).alloc _ | ((repeat (refine Up.alloc ?_ _)); exact Up.refl _)
  have a : Bf V1 w.heap.size 58 ⟨0, 0, 0, 0, 0, 0, 0⟩ := by rw [← hV1]; exact Bf.mk_ w ⟨0, 0, 0, 0, 0, 0, 0⟩ 58
  rw [hV1]
  clear hV1
  replace U := U.trans uV1
  clear uV1
  refine (rsigned6 _).mono ?_
  rintro _ w2 ⟨rfl, h2⟩
  replace a := a.up h2
  replace U := U.trans h2
  clear h2
  obtain ⟨a0, a1, a2, a3, a4, a5, a6⟩ := Bf.cs a
  have a7 := Bf.lt a
  simp only [Nat.zero_add] at a0 a1 a2 a3 a4 a5 a6 a7
  go_wp2_with (refine store_F rfl 58 (.tmp 2) (.tmp 33) rfl _ _ ⟨2, 8, 2, 15, 123, 124, 126⟩ rfl rfl (by kernel_rfl) w (by first | exact U | exact U.alloc _) (by first | exact Nat.le_refl _ | omega) 58 (by first | exact a | exact a.up ((Up.refl _).alloc _)) ?_; clear U; intro V z U _)
  obtain ⟨z0, z1, z2, z3, z4, z5, z6⟩ := Bf.cs z
  have z7 := Bf.lt z
  simp only [Nat.zero_add] at z0 z1 z2 z3 z4 z5 z6 z7
  refine bodyPost_ret (v := .tuple #[fv ⟨2, 8, 2, 15, 123, 124, 126⟩, .bool true]) (by simp [results, Tryd.results31, go_sem, z0, z1, z2, z3, z4, z5, z6]) rfl ?_
  exact ⟨rfl, by (repeat (first | exact U | refine Up.setCell ?_ (by first | exact Nat.le_refl _ | omega) _ | refine Up.alloc ?_ _)); try exact U⟩
set_option maxHeartbeats 2000000 in
set_option maxRecDepth 100000 in
theorem rof7 (w : World)  : Calls Tryd.prog 31 #[.int .i64 7] w (Fb ⟨2, 6, 2, 3, 31, 0, 0⟩ true w) := by
  have U := Up.refl w
  go_enter Tryd.func31, Tryd.ntmps31
  go_wp2_with fail
  obtain ⟨V1, hV1⟩ : ∃ V1, w.alloc (.cells #[.int .i64 0, .int .i64 0, .int .i64 0, .int .i64 0, .int .u64 0, .int .u64 0, .int .u64 0] 58) = V1 := ⟨_, rfl⟩
  have uV1 : Up w V1 := by rw [← hV1]; first | exact (Up.refl _).alloc _ | exact ((Up.refl _).alloc _).alloc _ | exact (((Up.refl _).alloc _).alloc _).alloc _ | exact ((((Up.refl _).alloc _).alloc _).alloc _).alloc _ | ((repeat (refine Up.alloc ?_ _)); exact Up.refl _)
  have a : Bf V1 w.heap.size 58 ⟨0, 0, 0, 0, 0, 0, 0⟩ := by rw [← hV1]; exact Bf.mk_ w ⟨0, 0, 0, 0, 0, 0, 0⟩ 58
  rw [hV1]
  clear hV1
  replace U := U.trans uV1
  clear uV1
  refine (rsigned7 _).mono ?_
  rintro _ w2 ⟨rfl, h2⟩
  replace a := a.up h2
  replace U := U.trans h2
  clear h2
  obtain ⟨a0, a1, a2, a3, a4, a5, a6⟩ := Bf.cs a
  have a7 := Bf.lt a
  simp only [Nat.zero_add] at a0 a1 a2 a3 a4 a5 a6 a7
  go_wp2_with (refine store_F rfl 58 (.tmp 2) (.tmp 36) rfl _ _ ⟨2, 6, 2, 3, 31, 0, 0⟩ rfl rfl (by kernel_rfl) w (by first | exact U | exact U.alloc _) (by first | exact Nat.le_refl _ | omega) 58 (by first | exact a | exact a.up ((Up.refl _).alloc _)) ?_; clear U; intro V z U _)
  obtain ⟨z0, z1, z2, z3, z4, z5, z6⟩ := Bf.cs z
  have z7 := Bf.lt z
  simp only [Nat.zero_add] at z0 z1 z2 z3 z4 z5 z6 z7
  refine bodyPost_ret (v := .tuple #[fv ⟨2, 6, 2, 3, 31, 0, 0⟩, .bool true]) (by simp [results, Tryd.results31, go_sem, z0, z1, z2, z3, z4, z5, z6]) rfl ?_
  exact ⟨rfl, by (repeat (first | exact U | refine Up.setCell ?_ (by first | exact Nat.le_refl _ | omega) _ | refine Up.alloc ?_ _)); try exact U⟩
set_option maxHeartbeats 2000000 in
set_option maxRecDepth 100000 in
theorem rof8 (w : World)  : Calls Tryd.prog 31 #[.int .i64 8] w (Fb ⟨2, 6, 3, 1, 31, 0, 0⟩ true w) := by
  have U := Up.refl w
  go_enter Tryd.func31, Tryd.ntmps31
  go_wp2_with fail
  obtain ⟨V1, hV1⟩ : ∃ V1, w.alloc (.cells #[.int .i64 0, .int .i64 0, .int .i64 0, .int .i64 0, .int .u64 0, .int .u64 0, .int .u64 0] 58) = V1 := ⟨_, rfl⟩
  have uV1 : Up w V1 := by rw [← hV1]; first | exact (Up.refl _).alloc _ | exact ((Up.refl _).alloc _).alloc _ | exact (((Up.refl _).alloc _).alloc _).alloc _ | exact ((((Up.refl _).alloc _).alloc _).alloc _).alloc _ | ((repeat (refine Up.alloc ?_ _)); exact Up.refl _)
  have a : Bf V1 w.heap.size 58 ⟨0, 0, 0, 0, 0, 0, 0⟩ := by rw [← hV1]; exact Bf.mk_ w ⟨0, 0, 0, 0, 0, 0, 0⟩ 58
  rw [hV1]
  clear hV1
  replace U := U.trans uV1
  clear uV1
  refine (rsigned8 _).mono ?_
  rintro _ w2 ⟨rfl, h2⟩
  replace a := a.up h2
  replace U := U.trans h2
  clear h2
  obtain ⟨a0, a1, a2, a3, a4, a5, a6⟩ := Bf.cs a
  have a7 := Bf.lt a
  simp only [Nat.zero_add] at a0 a1 a2 a3 a4 a5 a6 a7
  go_wp2_with (refine store_F rfl 58 (.tmp 2) (.tmp 39) rfl _ _ ⟨2, 6, 3, 1, 31, 0, 0⟩ rfl rfl (by kernel_rfl) w (by first | exact U | exact U.alloc _) (by first | exact Nat.le_refl _ | omega) 58 (by first | exact a | exact a.up ((Up.refl _).alloc _)) ?_; clear U; intro V z U _)
  obtain ⟨z0, z1, z2, z3, z4, z5, z6⟩ := Bf.cs z
  have z7 := Bf.lt z
  simp only [Nat.zero_add] at z0 z1 z2 z3 z4 z5 z6 z7
  refine bodyPost_ret (v := .tuple #[fv ⟨2, 6, 3, 1, 31, 0, 0⟩, .bool true]) (by simp [results, Tryd.results31, go_sem, z0, z1, z2, z3, z4, z5, z6]) rfl ?_
  exact ⟨rfl, by (repeat (first | exact U | refine Up.setCell ?_ (by first | exact Nat.le_refl _ | omega) _ | refine Up.alloc ?_ _)); try exact U⟩
set_option maxHeartbeats 2000000 in
set_option maxRecDepth 100000 in
theorem rof9 (w : World)  : Calls Tryd.prog 31 #[.int .i64 9] w (Fb ⟨2, 4, 1, 1, 7, 0, 0⟩ true w) := by
  have U := Up.refl w
  go_enter Tryd.func31, Tryd.ntmps31
  go_wp2_with fail
  obtain ⟨V1, hV1⟩ : ∃ V1, w.alloc (.cells #[.int .i64 0, .int .i64 0, .int .i64 0, .int .i64 0, .int .u64 0, .int .u64 0, .int .u64 0] 58) = V1 := ⟨_, rfl⟩
  have uV1 : Up w V1 := by rw [← hV1]; first | exact (Up.refl _).alloc _ | exact ((Up.refl _).alloc _).alloc _ | exact (((Up.refl _).alloc _).alloc _).alloc _ | exact ((((Up.refl _).alloc _).alloc _).alloc _).alloc _ | ((repeat (refine Up.alloc ?_ _)); exact Up.refl _)
  have a : Bf V1 w.heap.size 58 ⟨0, 0, 0, 0, 0, 0, 0⟩ := by rw [← hV1]; exact Bf.mk_ w ⟨0, 0, 0, 0, 0, 0, 0⟩ 58
  rw [hV1]
  clear hV1
  replace U := U.trans uV1
  clear uV1
  refine (rsigned9 _).mono ?_
  rintro _ w2 ⟨rfl, h2⟩
  replace a := a.up h2
  replace U := U.trans h2
  clear h2
  obtain ⟨a0, a1, a2, a3, a4, a5, a6⟩ := Bf.cs a
  have a7 := Bf.lt a
  simp only [Nat.zero_add] at a0 a1 a2 a3 a4 a5 a6 a7
  go_wp2_with (refine store_F rfl 58 (.tmp 2) (.tmp 42) rfl _ _ ⟨2, 4, 1, 1, 7, 0, 0⟩ rfl rfl (by kernel_rfl) w (by first | exact U | exact U.alloc _) (by first | exact Nat.le_refl _ | omega) 58 (by first | exact a | exact a.up ((Up.refl _).alloc _)) ?_; clear U; intro V z U _)
  obtain ⟨z0, z1, z2, z3, z4, z5, z6⟩ := Bf.cs z
  have z7 := Bf.lt z
  simp only [Nat.zero_add] at z0 z1 z2 z3 z4 z5 z6 z7
  refine bodyPost_ret (v := .tuple #[fv ⟨2, 4, 1, 1, 7, 0, 0⟩, .bool true]) (by simp [results, Tryd.results31, go_sem, z0, z1, z2, z3, z4, z5, z6]) rfl ?_
  exact ⟨rfl, by (repeat (first | exact U | refine Up.setCell ?_ (by first | exact Nat.le_refl _ | omega) _ | refine Up.alloc ?_ _)); try exact U⟩
set_option maxHeartbeats 2000000 in
set_option maxRecDepth 100000 in
theorem rof12 (w : World)  : Calls Tryd.prog 31 #[.int .i64 12] w (Fb ⟨2, 16, 10, 15, 31743, 31744, 32256⟩ true w) := by
  have U := Up.refl w
  go_enter Tryd.func31, Tryd.ntmps31
  go_wp2_with fail
  obtain ⟨V1, hV1⟩ : ∃ V1, w.alloc (.cells #[.int .i64 0, .int .i64 0, .int .i64 0, .int .i64 0, .int .u64 0, .int .u64 0, .int .u64 0] 58) = V1 := ⟨_, rfl⟩
  have uV1 : Up w V1 := by rw [← hV1]; first | exact (Up.refl _).alloc _ | exact ((Up.refl _).alloc _).alloc _ | exact (((Up.refl _).alloc _).alloc _).alloc _ | exact ((((Up.refl _).alloc _).alloc _).alloc _).alloc _ | ((repeat (refine Up.alloc ?_ _)); exact Up.refl _)
  have a : Bf V1 w.heap.size 58 ⟨0, 0, 0, 0, 0, 0, 0⟩ := by rw [← hV1]; exact Bf.mk_ w ⟨0, 0, 0, 0, 0, 0, 0⟩ 58
  rw [hV1]
  clear hV1
  replace U := U.trans uV1
  clear uV1
  refine (rsigned12 _).mono ?_
  rintro _ w2 ⟨rfl, h2⟩
  replace a := a.up h2
  replace U := U.trans h2
  clear h2
  obtain ⟨a0, a1, a2, a3, a4, a5, a6⟩ := Bf.cs a
  have a7 := Bf.lt a
  simp only [Nat.zero_add] at a0 a1 a2 a3 a4 a5 a6 a7
  go_wp2_with (refine store_F rfl 58 (.tmp 2) (.tmp 51) rfl _ _ ⟨2, 16, 10, 15, 31743, 31744, 32256⟩ rfl rfl (by kernel_rfl) w (by first | exact U | exact U.alloc _) (by first | exact Nat.le_refl _ | omega) 58 (by first | exact a | exact a.up ((Up.refl _).alloc _)) ?_; clear U; intro V z U _)
  obtain ⟨z0, z1, z2, z3, z4, z5, z6⟩ := Bf.cs z
  have z7 := Bf.lt z
  simp only [Nat.zero_add] at z0 z1 z2 z3 z4 z5 z6 z7
  refine bodyPost_ret (v := .tuple #[fv ⟨2, 16, 10, 15, 31743, 31744, 32256⟩, .bool true]) (by simp [results, Tryd.results31, go_sem, z0, z1, z2, z3, z4, z5, z6]) rfl ?_
  exact ⟨rfl, by (repeat (first | exact U | refine Up.setCell ?_ (by first | exact Nat.le_refl _ | omega) _ | refine Up.alloc ?_ _)); try exact U⟩
set_option maxHeartbeats 2000000 in
set_option maxRecDepth 100000 in
theorem rof13 (w : World)  : Calls Tryd.prog 31 #[.int .i64 13] w (Fb ⟨2, 32, 23, 127, 2139095039, 2139095040, 2143289344⟩ true w) := by
  have U := Up.refl w
  go_enter Tryd.func31, Tryd.ntmps31
  go_wp2_with fail
  obtain ⟨V1, hV1⟩ : ∃ V1, w.alloc (.cells #[.int .i64 0, .int .i64 0, .int .i64 0, .int .i64 0, .int .u64 0, .int .u64 0, .int .u64 0] 58) = V1 := ⟨_, rfl⟩
  have uV1 : Up w V1 := by rw [← hV1]; first | exact (Up.refl _).alloc _ | exact ((Up.refl _).alloc _).alloc _ | exact (((Up.refl _).alloc _).alloc _).alloc _ | exact ((((Up.refl _).alloc _).alloc _).alloc _).alloc _ | ((repeat (refine Up.alloc ?_ _)); exact Up.refl _)
  have a : Bf V1 w.heap.size 58 ⟨0, 0, 0, 0, 0, 0, 0⟩ := by rw [← hV1]; exact Bf.mk_ w ⟨0, 0, 0, 0, 0, 0, 0⟩ 58
  rw [hV1]
  clear hV1
  replace U := U.trans uV1
  clear uV1
  refine (rsigned13 _).mono ?_
  rintro _ w2 ⟨rfl, h2⟩
  replace a := a.up h2
  replace U := U.trans h2
  clear h2
  obtain ⟨a0, a1, a2, a3, a4, a5, a6⟩ := Bf.cs a
  have a7 := Bf.lt a
  simp only [Nat.zero_add] at a0 a1 a2 a3 a4 a5 a6 a7
  go_wp2_with (refine store_F rfl 58 (.tmp 2) (.tmp 54) rfl _ _ ⟨2, 32, 23, 127, 2139095039, 2139095040, 2143289344⟩ rfl rfl (by kernel_rfl) w (by first | exact U | exact U.alloc _) (by first | exact Nat.le_refl _ | omega) 58 (by first | exact a | exact a.up ((Up.refl _).alloc _)) ?_; clear U; intro V z U _)
  obtain ⟨z0, z1, z2, z3, z4, z5, z6⟩ := Bf.cs z
  have z7 := Bf.lt z
  simp only [Nat.zero_add] at z0 z1 z2 z3 z4 z5 z6 z7
  refine bodyPost_ret (v := .tuple #[fv ⟨2, 32, 23, 127, 2139095039, 2139095040, 2143289344⟩, .bool true]) (by simp [results, Tryd.results31, go_sem, z0, z1, z2, z3, z4, z5, z6]) rfl ?_
  exact ⟨rfl, by (repeat (first | exact U | refine Up.setCell ?_ (by first | exact Nat.le_refl _ | omega) _ | refine Up.alloc ?_ _)); try exact U⟩
set_option maxHeartbeats 2000000 in
set_option maxRecDepth 100000 in
theorem rof14 (w : World)  : Calls Tryd.prog 31 #[.int .i64 14] w (Fb ⟨2, 64, 52, 1023, 9218868437227405311, 9218868437227405312, 9221120237041090560⟩ true w) := by
  have U := Up.refl w
  go_enter Tryd.func31, Tryd.ntmps31
  go_wp2_with fail
  obtain ⟨V1, hV1⟩ : ∃ V1, w.alloc (.cells #[.int .i64 0, .int .i64 0, .int .i64 0, .int .i64 0, .int .u64 0, .int .u64 0, .int .u64 0] 58) = V1 := ⟨_, rfl⟩
  have uV1 : Up w V1 := by rw [← hV1]; first | exact (Up.refl _).alloc _ | exact ((Up.refl _).alloc _).alloc _ | exact (((Up.refl _).alloc _).alloc _).alloc _ | exact ((((Up.refl _).alloc _).alloc _).alloc _).alloc _ | ((repeat (refine Up.alloc ?_ _)); exact Up.refl _)
  have a : Bf V1 w.heap.size 58 ⟨0, 0, 0, 0, 0, 0, 0⟩ := by rw [← hV1]; exact Bf.mk_ w ⟨0, 0, 0, 0, 0, 0, 0⟩ 58
  rw [hV1]
  clear hV1
  replace U := U.trans uV1
  clear uV1
  refine (rsigned14 _).mono ?_
  rintro _ w2 ⟨rfl, h2⟩
  replace a := a.up h2
  replace U := U.trans h2
  clear h2
  obtain ⟨a0, a1, a2, a3, a4, a5, a6⟩ := Bf.cs a
  have a7 := Bf.lt a
  simp only [Nat.zero_add] at a0 a1 a2 a3 a4 a5 a6 a7
  go_wp2_with (refine store_F rfl 58 (.tmp 2) (.tmp 57) rfl _ _ ⟨2, 64, 52, 1023, 9218868437227405311, 9218868437227405312, 9221120237041090560⟩ rfl rfl (by kernel_rfl) w (by first | exact U | exact U.alloc _) (by first | exact Nat.le_refl _ | omega) 58 (by first | exact a | exact a.up ((Up.refl _).alloc _)) ?_; clear U; intro V z U _)
  obtain ⟨z0, z1, z2, z3, z4, z5, z6⟩ := Bf.cs z
  have z7 := Bf.lt z
  simp only [Nat.zero_add] at z0 z1 z2 z3 z4 z5 z6 z7
  refine bodyPost_ret (v := .tuple #[fv ⟨2, 64, 52, 1023, 9218868437227405311, 9218868437227405312, 9221120237041090560⟩, .bool true]) (by simp [results, Tryd.results31, go_sem, z0, z1, z2, z3, z4, z5, z6]) rfl ?_
  exact ⟨rfl, by (repeat (first | exact U | refine Up.setCell ?_ (by first | exact Nat.le_refl _ | omega) _ | refine Up.alloc ?_ _)); try exact U⟩
set_option maxHeartbeats 2000000 in
set_option maxRecDepth 100000 in
theorem rof_out (w : World) (ii : Int) (h : ii < 1 ∨ 15 ≤ ii) : Calls Tryd.prog 31 #[.int .i64 ii] w (Fb ⟨0, 0, 0, 0, 0, 0, 0⟩ false w) := by
  have d1 : (ii == 1) = false := by rw [beq_eq_false_iff_ne]; omega
  have d2 : (ii == 2) = false := by rw [beq_eq_false_iff_ne]; omega
  have d3 : (ii == 3) = false := by rw [beq_eq_false_iff_ne]; omega
  have d4 : (ii == 4) = false := by rw [beq_eq_false_iff_ne]; omega
  have d5 : (ii == 5) = false := by rw [beq_eq_false_iff_ne]; omega
  have d6 : (ii == 6) = false := by rw [beq_eq_false_iff_ne]; omega
  have d7 : (ii == 7) = false := by rw [beq_eq_false_iff_ne]; omega
  have d8 : (ii == 8) = false := by rw [beq_eq_false_iff_ne]; omega
  have d9 : (ii == 9) = false := by rw [beq_eq_false_iff_ne]; omega
  have d10 : (ii == 10) = false := by rw [beq_eq_false_iff_ne]; omega
  have d11 : (ii == 11) = false := by rw [beq_eq_false_iff_ne]; omega
  have d12 : (ii == 12) = false := by rw [beq_eq_false_iff_ne]; omega
  have d13 : (ii == 13) = false := by rw [beq_eq_false_iff_ne]; omega
  have d14 : (ii == 14) = false := by rw [beq_eq_false_iff_ne]; omega
  clear h
  have U := Up.refl w
  go_enter Tryd.func31, Tryd.ntmps31
  go_wp2_with fail
  refine bodyPost_ret (v := .tuple #[fv ⟨0, 0, 0, 0, 0, 0, 0⟩, .bool false]) (by simp [results, Tryd.results31, go_sem]) rfl ?_
  exact ⟨rfl, by (repeat (first | exact U | refine Up.setCell ?_ (by first | exact Nat.le_refl _ | omega) _ | refine Up.alloc ?_ _)); try exact U⟩
theorem rof_in (w : World) (i : Nat) (f : M.Fm) (hf : Hid (M.tb i = f)) (h1 : 1 ≤ i) (h2 : i ≤ 14) : Calls Tryd.prog 31 #[.int .i64 (i : Int)] w (Fb f true w) := by
  rw [← hf.out]
  exact M.all14 (p := fun i => Calls Tryd.prog 31 #[.int .i64 (i : Int)] w (Fb (M.tb i) true w)) (rof1 w) (rof2 w) (rof3 w) (rof4 w) (rof5 w) (rof6 w) (rof7 w) (rof8 w) (rof9 w) (rof10 w) (rof11 w) (rof12 w) (rof13 w) (rof14 w) i h1 h2
end Go.Proofs.YtjcbncfpcechnaaDoor
