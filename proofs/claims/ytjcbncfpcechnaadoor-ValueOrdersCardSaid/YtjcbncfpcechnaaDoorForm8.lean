/-
  The reference of layer 4: Signed forms.
-/
import Derived.Test.YtjcbncfpcechnaaDoorForm7
namespace Go.Proofs.YtjcbncfpcechnaaDoor
open Go.RowKit
set_option maxHeartbeats 2000000 in
set_option maxRecDepth 100000 in
theorem rsigned12 (w : World)  : Calls Tryd.prog 47 #[.int .i64 16, .int .i64 10, .int .i64 15, .int .i64 2] w (Fo ⟨2, 16, 10, 15, 31743, 31744, 32256⟩ w) := by
  have U := Up.refl w
  go_enter Tryd.func47, Tryd.ntmps47
  go_wp2_with fail
  refine (ones_any _ 15 (by decide) 32767 (by show _ = _; decide)).mono ?_
  rintro _ _ ⟨rfl, rfl⟩
  go_wp2_with fail
  refine (ones_any _ 15 (by decide) 32767 (by show _ = _; decide)).mono ?_
  rintro _ _ ⟨rfl, rfl⟩
  go_wp2_with fail
  refine (ones_any _ 10 (by decide) 1023 (by show _ = _; decide)).mono ?_
  rintro _ _ ⟨rfl, rfl⟩
  go_wp2_with fail
  obtain ⟨V, hV⟩ : ∃ V, (w.alloc (.cells #[.int .i64 0, .int .i64 0, .int .i64 0, .int .i64 0, .int .u64 0, .int .u64 0, .int .u64 0] 58)).alloc (.cells #[.int .i64 2, .int .i64 16, .int .i64 10, .int .i64 15, .int .u64 32767, .int .u64 31744, .int .u64 0] 58) = V := ⟨_, rfl⟩
  have a : Bf V w.heap.size 58 ⟨0, 0, 0, 0, 0, 0, 0⟩ := by rw [← hV]; exact (Bf.mk_ w ⟨0, 0, 0, 0, 0, 0, 0⟩ 58).up ((Up.refl _).alloc _)
  have c : Bf V (w.heap.size + 1) 58 ⟨2, 16, 10, 15, 32767, 31744, 0⟩ := by rw [← hV]; have := Bf.mk_ (w.alloc (.cells #[.int .i64 0, .int .i64 0, .int .i64 0, .int .i64 0, .int .u64 0, .int .u64 0, .int .u64 0] 58)) ⟨2, 16, 10, 15, 32767, 31744, 0⟩ 58; rwa [show (w.alloc (.cells #[.int .i64 0, .int .i64 0, .int .i64 0, .int .i64 0, .int .u64 0, .int .u64 0, .int .u64 0] 58)).heap.size = w.heap.size + 1 from Array.size_push _] at this
  replace U : Up w V := by rw [← hV]; exact ((Up.refl w).alloc _).alloc _
  rw [hV]
  clear hV
  have CO := Lib.hid (fun w' => show Calls Tryd.prog 46 #[.int .i64 10] w' (Same (.int .u64 1023) w') from ones_any w' 10 (by decide) 1023 (by show _ = _; decide))
  obtain ⟨c0, c1, c2, c3, c4, c5, c6⟩ := Bf.cs c
  have c7 := Bf.lt c
  simp only [Nat.zero_add] at c0 c1 c2 c3 c4 c5 c6 c7
  have E65 : (⟨w.heap.size + 1, 6, none⟩ : Addr) ≠ ⟨w.heap.size + 1, 5, none⟩ := by intro e; injection e with _ e _; exact absurd e (by decide)
  have cf4 := c.fr 4
  have cf5 := c.fr 5
  have cf6 := c.fr 6
  go_region_held3 (fun w' => w'.cell? ⟨w.heap.size + 1, 5, none⟩ = some (.int .u64 31744)) (first | exact (World.cell?_setCell_other _ _ _ _ E65).trans c5 | go_keep) ((go_at_call 46; (with_reducible refine (CO.out _).mono ?_); rintro _ _ ⟨rfl, rfl⟩))
  go_upto_region 9 with (fail)
  refine wp_gen ?_
  intro V2 hV2
  have x2 : Bf V2 w.heap.size 58 ⟨0, 0, 0, 0, 0, 0, 0⟩ := by rw [hV2]; exact Bf.cell (Bf.drew (Bf.cell a (by omega) _)) (by omega) _
  have y2 : Bf V2 (w.heap.size + 1) 58 ⟨2, 16, 10, 15, 31743, 31744, 32256⟩ := by rw [hV2]; exact Bf.put4 (Bf.drew (Bf.put6 c _)) _
  replace U : Up w V2 := by rw [hV2]; exact ((U.setCell (p := ⟨w.heap.size + 1, 6, none⟩) (Nat.le_succ _) _).drew.setCell (p := ⟨w.heap.size + 1, 4, none⟩) (Nat.le_succ _) _)
  clear c0 c1 c2 c3 c4 c5 c6 c7
  clear hV2 a c E65 cf4 cf5 cf6 CO
  obtain ⟨y20, y21, y22, y23, y24, y25, y26⟩ := Bf.cs y2
  have y27 := Bf.lt y2
  simp only [Nat.zero_add] at y20 y21 y22 y23 y24 y25 y26 y27
  go_wp2_with (refine store_F rfl 58 (.tmp 8) (.tmp 47) rfl _ _ ⟨2, 16, 10, 15, 31743, 31744, 32256⟩ rfl rfl (by kernel_rfl) w (by first | exact U | exact U.alloc _) (by first | exact Nat.le_refl _ | omega) 58 (by first | exact x2 | exact x2.up ((Up.refl _).alloc _)) ?_; clear U; intro V z U _)
  obtain ⟨z0, z1, z2, z3, z4, z5, z6⟩ := Bf.cs z
  have z7 := Bf.lt z
  simp only [Nat.zero_add] at z0 z1 z2 z3 z4 z5 z6 z7
  refine bodyPost_ret (v := fv ⟨2, 16, 10, 15, 31743, 31744, 32256⟩) (by simp [results, Tryd.results47, go_sem, z0, z1, z2, z3, z4, z5, z6]) rfl ?_
  exact ⟨rfl, by (repeat (first | exact U | refine Up.setCell ?_ (by first | exact Nat.le_refl _ | omega) _ | refine Up.alloc ?_ _)); try exact U⟩
set_option maxHeartbeats 2000000 in
set_option maxRecDepth 100000 in
theorem rsigned13 (w : World)  : Calls Tryd.prog 47 #[.int .i64 32, .int .i64 23, .int .i64 127, .int .i64 2] w (Fo ⟨2, 32, 23, 127, 2139095039, 2139095040, 2143289344⟩ w) := by
  have U := Up.refl w
  go_enter Tryd.func47, Tryd.ntmps47
  go_wp2_with fail
  refine (ones_any _ 31 (by decide) 2147483647 (by show _ = _; decide)).mono ?_
  rintro _ _ ⟨rfl, rfl⟩
  go_wp2_with fail
  refine (ones_any _ 31 (by decide) 2147483647 (by show _ = _; decide)).mono ?_
  rintro _ _ ⟨rfl, rfl⟩
  go_wp2_with fail
  refine (ones_any _ 23 (by decide) 8388607 (by show _ = _; decide)).mono ?_
  rintro _ _ ⟨rfl, rfl⟩
  go_wp2_with fail
  obtain ⟨V, hV⟩ : ∃ V, (w.alloc (.cells #[.int .i64 0, .int .i64 0, .int .i64 0, .int .i64 0, .int .u64 0, .int .u64 0, .int .u64 0] 58)).alloc (.cells #[.int .i64 2, .int .i64 32, .int .i64 23, .int .i64 127, .int .u64 2147483647, .int .u64 2139095040, .int .u64 0] 58) = V := ⟨_, rfl⟩
  have a : Bf V w.heap.size 58 ⟨0, 0, 0, 0, 0, 0, 0⟩ := by rw [← hV]; exact (Bf.mk_ w ⟨0, 0, 0, 0, 0, 0, 0⟩ 58).up ((Up.refl _).alloc _)
  have c : Bf V (w.heap.size + 1) 58 ⟨2, 32, 23, 127, 2147483647, 2139095040, 0⟩ := by rw [← hV]; have := Bf.mk_ (w.alloc (.cells #[.int .i64 0, .int .i64 0, .int .i64 0, .int .i64 0, .int .u64 0, .int .u64 0, .int .u64 0] 58)) ⟨2, 32, 23, 127, 2147483647, 2139095040, 0⟩ 58; rwa [show (w.alloc (.cells #[.int .i64 0, .int .i64 0, .int .i64 0, .int .i64 0, .int .u64 0, .int .u64 0, .int .u64 0] 58)).heap.size = w.heap.size + 1 from Array.size_push _] at this
  replace U : Up w V := by rw [← hV]; exact ((Up.refl w).alloc _).alloc _
  rw [hV]
  clear hV
  have CO := Lib.hid (fun w' => show Calls Tryd.prog 46 #[.int .i64 23] w' (Same (.int .u64 8388607) w') from ones_any w' 23 (by decide) 8388607 (by show _ = _; decide))
  obtain ⟨c0, c1, c2, c3, c4, c5, c6⟩ := Bf.cs c
  have c7 := Bf.lt c
  simp only [Nat.zero_add] at c0 c1 c2 c3 c4 c5 c6 c7
  have E65 : (⟨w.heap.size + 1, 6, none⟩ : Addr) ≠ ⟨w.heap.size + 1, 5, none⟩ := by intro e; injection e with _ e _; exact absurd e (by decide)
  have cf4 := c.fr 4
  have cf5 := c.fr 5
  have cf6 := c.fr 6
  go_region_held3 (fun w' => w'.cell? ⟨w.heap.size + 1, 5, none⟩ = some (.int .u64 2139095040)) (first | exact (World.cell?_setCell_other _ _ _ _ E65).trans c5 | go_keep) ((go_at_call 46; (with_reducible refine (CO.out _).mono ?_); rintro _ _ ⟨rfl, rfl⟩))
  go_upto_region 9 with (fail)
  refine wp_gen ?_
  intro V2 hV2
  have x2 : Bf V2 w.heap.size 58 ⟨0, 0, 0, 0, 0, 0, 0⟩ := by rw [hV2]; exact Bf.cell (Bf.drew (Bf.cell a (by omega) _)) (by omega) _
  have y2 : Bf V2 (w.heap.size + 1) 58 ⟨2, 32, 23, 127, 2139095039, 2139095040, 2143289344⟩ := by rw [hV2]; exact Bf.put4 (Bf.drew (Bf.put6 c _)) _
  replace U : Up w V2 := by rw [hV2]; exact ((U.setCell (p := ⟨w.heap.size + 1, 6, none⟩) (Nat.le_succ _) _).drew.setCell (p := ⟨w.heap.size + 1, 4, none⟩) (Nat.le_succ _) _)
  clear c0 c1 c2 c3 c4 c5 c6 c7
  clear hV2 a c E65 cf4 cf5 cf6 CO
  obtain ⟨y20, y21, y22, y23, y24, y25, y26⟩ := Bf.cs y2
  have y27 := Bf.lt y2
  simp only [Nat.zero_add] at y20 y21 y22 y23 y24 y25 y26 y27
  go_wp2_with (refine store_F rfl 58 (.tmp 8) (.tmp 47) rfl _ _ ⟨2, 32, 23, 127, 2139095039, 2139095040, 2143289344⟩ rfl rfl (by kernel_rfl) w (by first | exact U | exact U.alloc _) (by first | exact Nat.le_refl _ | omega) 58 (by first | exact x2 | exact x2.up ((Up.refl _).alloc _)) ?_; clear U; intro V z U _)
  obtain ⟨z0, z1, z2, z3, z4, z5, z6⟩ := Bf.cs z
  have z7 := Bf.lt z
  simp only [Nat.zero_add] at z0 z1 z2 z3 z4 z5 z6 z7
  refine bodyPost_ret (v := fv ⟨2, 32, 23, 127, 2139095039, 2139095040, 2143289344⟩) (by simp [results, Tryd.results47, go_sem, z0, z1, z2, z3, z4, z5, z6]) rfl ?_
  exact ⟨rfl, by (repeat (first | exact U | refine Up.setCell ?_ (by first | exact Nat.le_refl _ | omega) _ | refine Up.alloc ?_ _)); try exact U⟩
set_option maxHeartbeats 2000000 in
set_option maxRecDepth 100000 in
theorem rsigned14 (w : World)  : Calls Tryd.prog 47 #[.int .i64 64, .int .i64 52, .int .i64 1023, .int .i64 2] w (Fo ⟨2, 64, 52, 1023, 9218868437227405311, 9218868437227405312, 9221120237041090560⟩ w) := by
  have U := Up.refl w
  go_enter Tryd.func47, Tryd.ntmps47
  go_wp2_with fail
  refine (ones_any _ 63 (by decide) 9223372036854775807 (by show _ = _; decide)).mono ?_
  rintro _ _ ⟨rfl, rfl⟩
  go_wp2_with fail
  refine (ones_any _ 63 (by decide) 9223372036854775807 (by show _ = _; decide)).mono ?_
  rintro _ _ ⟨rfl, rfl⟩
  go_wp2_with fail
  refine (ones_any _ 52 (by decide) 4503599627370495 (by show _ = _; decide)).mono ?_
  rintro _ _ ⟨rfl, rfl⟩
  go_wp2_with fail
  obtain ⟨V, hV⟩ : ∃ V, (w.alloc (.cells #[.int .i64 0, .int .i64 0, .int .i64 0, .int .i64 0, .int .u64 0, .int .u64 0, .int .u64 0] 58)).alloc (.cells #[.int .i64 2, .int .i64 64, .int .i64 52, .int .i64 1023, .int .u64 9223372036854775807, .int .u64 9218868437227405312, .int .u64 0] 58) = V := ⟨_, rfl⟩
  have a : Bf V w.heap.size 58 ⟨0, 0, 0, 0, 0, 0, 0⟩ := by rw [← hV]; exact (Bf.mk_ w ⟨0, 0, 0, 0, 0, 0, 0⟩ 58).up ((Up.refl _).alloc _)
  have c : Bf V (w.heap.size + 1) 58 ⟨2, 64, 52, 1023, 9223372036854775807, 9218868437227405312, 0⟩ := by rw [← hV]; have := Bf.mk_ (w.alloc (.cells #[.int .i64 0, .int .i64 0, .int .i64 0, .int .i64 0, .int .u64 0, .int .u64 0, .int .u64 0] 58)) ⟨2, 64, 52, 1023, 9223372036854775807, 9218868437227405312, 0⟩ 58; rwa [show (w.alloc (.cells #[.int .i64 0, .int .i64 0, .int .i64 0, .int .i64 0, .int .u64 0, .int .u64 0, .int .u64 0] 58)).heap.size = w.heap.size + 1 from Array.size_push _] at this
  replace U : Up w V := by rw [← hV]; exact ((Up.refl w).alloc _).alloc _
  rw [hV]
  clear hV
  have CO := Lib.hid (fun w' => show Calls Tryd.prog 46 #[.int .i64 52] w' (Same (.int .u64 4503599627370495) w') from ones_any w' 52 (by decide) 4503599627370495 (by show _ = _; decide))
  obtain ⟨c0, c1, c2, c3, c4, c5, c6⟩ := Bf.cs c
  have c7 := Bf.lt c
  simp only [Nat.zero_add] at c0 c1 c2 c3 c4 c5 c6 c7
  have E65 : (⟨w.heap.size + 1, 6, none⟩ : Addr) ≠ ⟨w.heap.size + 1, 5, none⟩ := by intro e; injection e with _ e _; exact absurd e (by decide)
  have cf4 := c.fr 4
  have cf5 := c.fr 5
  have cf6 := c.fr 6
  go_region_held3 (fun w' => w'.cell? ⟨w.heap.size + 1, 5, none⟩ = some (.int .u64 9218868437227405312)) (first | exact (World.cell?_setCell_other _ _ _ _ E65).trans c5 | go_keep) ((go_at_call 46; (with_reducible refine (CO.out _).mono ?_); rintro _ _ ⟨rfl, rfl⟩))
  go_upto_region 9 with (fail)
  refine wp_gen ?_
  intro V2 hV2
  have x2 : Bf V2 w.heap.size 58 ⟨0, 0, 0, 0, 0, 0, 0⟩ := by rw [hV2]; exact Bf.cell (Bf.drew (Bf.cell a (by omega) _)) (by omega) _
  have y2 : Bf V2 (w.heap.size + 1) 58 ⟨2, 64, 52, 1023, 9218868437227405311, 9218868437227405312, 9221120237041090560⟩ := by rw [hV2]; exact Bf.put4 (Bf.drew (Bf.put6 c _)) _
  replace U : Up w V2 := by rw [hV2]; exact ((U.setCell (p := ⟨w.heap.size + 1, 6, none⟩) (Nat.le_succ _) _).drew.setCell (p := ⟨w.heap.size + 1, 4, none⟩) (Nat.le_succ _) _)
  clear c0 c1 c2 c3 c4 c5 c6 c7
  clear hV2 a c E65 cf4 cf5 cf6 CO
  obtain ⟨y20, y21, y22, y23, y24, y25, y26⟩ := Bf.cs y2
  have y27 := Bf.lt y2
  simp only [Nat.zero_add] at y20 y21 y22 y23 y24 y25 y26 y27
  go_wp2_with (refine store_F rfl 58 (.tmp 8) (.tmp 47) rfl _ _ ⟨2, 64, 52, 1023, 9218868437227405311, 9218868437227405312, 9221120237041090560⟩ rfl rfl (by kernel_rfl) w (by first | exact U | exact U.alloc _) (by first | exact Nat.le_refl _ | omega) 58 (by first | exact x2 | exact x2.up ((Up.refl _).alloc _)) ?_; clear U; intro V z U _)
  obtain ⟨z0, z1, z2, z3, z4, z5, z6⟩ := Bf.cs z
  have z7 := Bf.lt z
  simp only [Nat.zero_add] at z0 z1 z2 z3 z4 z5 z6 z7
  refine bodyPost_ret (v := fv ⟨2, 64, 52, 1023, 9218868437227405311, 9218868437227405312, 9221120237041090560⟩) (by simp [results, Tryd.results47, go_sem, z0, z1, z2, z3, z4, z5, z6]) rfl ?_
  exact ⟨rfl, by (repeat (first | exact U | refine Up.setCell ?_ (by first | exact Nat.le_refl _ | omega) _ | refine Up.alloc ?_ _)); try exact U⟩
end Go.Proofs.YtjcbncfpcechnaaDoor
