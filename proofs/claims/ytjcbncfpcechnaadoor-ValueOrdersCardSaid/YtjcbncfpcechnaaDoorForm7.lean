/-
  The reference of layer 4: Signed forms.
-/
import Derived.Test.YtjcbncfpcechnaaDoorForm5
import Derived.Deep.DeepCutAuto
import Derived.Deep.CutBlock
namespace Go.Proofs.YtjcbncfpcechnaaDoor
open Go.RowKit

theorem Bf.put4 {w : World} {b : Nat} {ty : TypeId} {f : M.Fm} (h : Bf w b ty f) (v : Int) : Bf (w.setCell ⟨b, 4, none⟩ (.int .u64 v)) b ty ⟨f.k, f.W, f.m, f.b, v, f.n, f.x⟩ := by
  unfold Bf at h ⊢
  rw [setCell_eq_setRow w b 4 _ ty (0, 0) _ h, setRow_heap w b _ _ ty _ h]
  rfl
theorem Bf.put6 {w : World} {b : Nat} {ty : TypeId} {f : M.Fm} (h : Bf w b ty f) (v : Int) : Bf (w.setCell ⟨b, 6, none⟩ (.int .u64 v)) b ty ⟨f.k, f.W, f.m, f.b, f.t, f.n, v⟩ := by
  unfold Bf at h ⊢
  rw [setCell_eq_setRow w b 6 _ ty (0, 0) _ h, setRow_heap w b _ _ ty _ h]
  rfl
theorem wp_gen {P : Program} {C : Code} {Q : Exit → Act → World → Prop} {a : Act} {w : World} (h : ∀ V, V = w → C.wp P Q a V) : C.wp P Q a w := h w rfl

set_option maxHeartbeats 1000000 in
theorem ones_any (w : World) (n : Nat) (hn : n ≤ 64) (z : Int) (hz : Hid (2 ^ n - 1 = z)) : Calls Tryd.prog 46 #[.int .i64 (n : Int)] w (Same (.int .u64 z) w) := by
  go_enter Tryd.func46, Tryd.ntmps46
  go_wp2_with fail
  go_loop [3, 4] (fun xv iv => ∃ (x k : Nat), xv = u64 x ∧ iv = .int .i64 (k : Int) ∧ k ≤ n ∧ x < 18446744073709551616 ∧ Hid (x + 1 = 2 ^ k)) (fun _ iv => n - (intOf iv).toNat)
  case atStart => exact ⟨0, 0, rfl, rfl, Nat.zero_le _, by decide, rfl⟩
  case round =>
    obtain ⟨x, k, rfl, rfl, hk, hx, HX⟩ := hrel
    by_cases h : k < n
    · have d : decide ((k : Int) < (n : Int)) = true := decide_eq_true (by omega)
      have hb : 2 * x + 1 < 18446744073709551616 := by
        have h1 : 2 ^ (k + 1) ≤ 2 ^ 64 := Nat.pow_le_pow_right (by decide) (by omega)
        have h2 := HX.out
        have h3 : (2 : Nat) ^ 64 = 18446744073709551616 := by decide
        rw [Nat.pow_succ] at h1
        omega
      have HX2 : Hid (2 * x + 1 + 1 = 2 ^ (k + 1)) := by
        have h2 := HX.out
        show _ = _
        rw [Nat.pow_succ]
        omega
      clear hz HX
      go_wp2_with fail
      go_round
      case rel => exact ⟨2 * x + 1, k + 1, by go_num, by go_num, h, hb, HX2⟩
      case measure => simp [intOf]; omega
    · have d : decide ((k : Int) < (n : Int)) = false := decide_eq_false (by omega)
      have HF : Hid ((x : Int) = z) := by
        have h1 := HX.out
        obtain rfl : k = n := by omega
        show _ = _
        rw [← hz.out]
        have : ((x + 1 : Nat) : Int) = ((2 ^ k : Nat) : Int) := by rw [h1]
        rw [Int.natCast_pow] at this
        simp only [Int.natCast_add, Int.natCast_one] at this
        have e2 : ((2 : Nat) : Int) = 2 := rfl
        rw [e2] at this
        omega
      clear hz HX
      go_wp2_with fail
      go_ret
      exact ⟨ret_int HF.out, rfl⟩
end Go.Proofs.YtjcbncfpcechnaaDoor
namespace Go.Proofs.YtjcbncfpcechnaaDoor
open Go.RowKit
set_option maxHeartbeats 2000000 in
set_option maxRecDepth 100000 in
theorem rsigned5 (w : World)  : Calls Tryd.prog 47 #[.int .i64 8, .int .i64 3, .int .i64 7, .int .i64 1] w (Fo ⟨2, 8, 3, 7, 126, 0, 127⟩ w) := by
  have U := Up.refl w
  go_enter Tryd.func47, Tryd.ntmps47
  go_wp2_with fail
  refine (ones_any _ 7 (by decide) 127 (by show _ = _; decide)).mono ?_
  rintro _ _ ⟨rfl, rfl⟩
  go_wp2_with fail
  go_wp2_with fail
  refine bodyPost_ret (v := fv ⟨2, 8, 3, 7, 126, 0, 127⟩) (by simp [results, Tryd.results47, go_sem]) rfl ?_
  exact ⟨rfl, by (repeat (first | exact U | refine Up.setCell ?_ (by first | exact Nat.le_refl _ | omega) _ | refine Up.alloc ?_ _)); try exact U⟩
set_option maxHeartbeats 2000000 in
set_option maxRecDepth 100000 in
theorem rsigned6 (w : World)  : Calls Tryd.prog 47 #[.int .i64 8, .int .i64 2, .int .i64 15, .int .i64 2] w (Fo ⟨2, 8, 2, 15, 123, 124, 126⟩ w) := by
  have U := Up.refl w
  go_enter Tryd.func47, Tryd.ntmps47
  go_wp2_with fail
  refine (ones_any _ 7 (by decide) 127 (by show _ = _; decide)).mono ?_
  rintro _ _ ⟨rfl, rfl⟩
  go_wp2_with fail
  refine (ones_any _ 7 (by decide) 127 (by show _ = _; decide)).mono ?_
  rintro _ _ ⟨rfl, rfl⟩
  go_wp2_with fail
  refine (ones_any _ 2 (by decide) 3 (by show _ = _; decide)).mono ?_
  rintro _ _ ⟨rfl, rfl⟩
  go_wp2_with fail
  obtain ⟨V, hV⟩ : ∃ V, (w.alloc (.cells #[.int .i64 0, .int .i64 0, .int .i64 0, .int .i64 0, .int .u64 0, .int .u64 0, .int .u64 0] 58)).alloc (.cells #[.int .i64 2, .int .i64 8, .int .i64 2, .int .i64 15, .int .u64 127, .int .u64 124, .int .u64 0] 58) = V := ⟨_, rfl⟩
  have a : Bf V w.heap.size 58 ⟨0, 0, 0, 0, 0, 0, 0⟩ := by rw [← hV]; exact (Bf.mk_ w ⟨0, 0, 0, 0, 0, 0, 0⟩ 58).up ((Up.refl _).alloc _)
  have c : Bf V (w.heap.size + 1) 58 ⟨2, 8, 2, 15, 127, 124, 0⟩ := by rw [← hV]; have := Bf.mk_ (w.alloc (.cells #[.int .i64 0, .int .i64 0, .int .i64 0, .int .i64 0, .int .u64 0, .int .u64 0, .int .u64 0] 58)) ⟨2, 8, 2, 15, 127, 124, 0⟩ 58; rwa [show (w.alloc (.cells #[.int .i64 0, .int .i64 0, .int .i64 0, .int .i64 0, .int .u64 0, .int .u64 0, .int .u64 0] 58)).heap.size = w.heap.size + 1 from Array.size_push _] at this
  replace U : Up w V := by rw [← hV]; exact ((Up.refl w).alloc _).alloc _
  rw [hV]
  clear hV
  have CO := Lib.hid (fun w' => show Calls Tryd.prog 46 #[.int .i64 2] w' (Same (.int .u64 3) w') from ones_any w' 2 (by decide) 3 (by show _ = _; decide))
  obtain ⟨c0, c1, c2, c3, c4, c5, c6⟩ := Bf.cs c
  have c7 := Bf.lt c
  simp only [Nat.zero_add] at c0 c1 c2 c3 c4 c5 c6 c7
  have E65 : (⟨w.heap.size + 1, 6, none⟩ : Addr) ≠ ⟨w.heap.size + 1, 5, none⟩ := by intro e; injection e with _ e _; exact absurd e (by decide)
  have cf4 := c.fr 4
  have cf5 := c.fr 5
  have cf6 := c.fr 6
  go_region_held3 (fun w' => w'.cell? ⟨w.heap.size + 1, 5, none⟩ = some (.int .u64 124)) (first | exact (World.cell?_setCell_other _ _ _ _ E65).trans c5 | go_keep) ((go_at_call 46; (with_reducible refine (CO.out _).mono ?_); rintro _ _ ⟨rfl, rfl⟩))
  go_upto_region 9 with (fail)
  refine wp_gen ?_
  intro V2 hV2
  have x2 : Bf V2 w.heap.size 58 ⟨0, 0, 0, 0, 0, 0, 0⟩ := by rw [hV2]; exact Bf.cell (Bf.drew (Bf.cell a (by omega) _)) (by omega) _
  have y2 : Bf V2 (w.heap.size + 1) 58 ⟨2, 8, 2, 15, 123, 124, 126⟩ := by rw [hV2]; exact Bf.put4 (Bf.drew (Bf.put6 c _)) _
  replace U : Up w V2 := by rw [hV2]; exact ((U.setCell (p := ⟨w.heap.size + 1, 6, none⟩) (Nat.le_succ _) _).drew.setCell (p := ⟨w.heap.size + 1, 4, none⟩) (Nat.le_succ _) _)
  clear c0 c1 c2 c3 c4 c5 c6 c7
  clear hV2 a c E65 cf4 cf5 cf6 CO
  obtain ⟨y20, y21, y22, y23, y24, y25, y26⟩ := Bf.cs y2
  have y27 := Bf.lt y2
  simp only [Nat.zero_add] at y20 y21 y22 y23 y24 y25 y26 y27
  go_wp2_with (refine store_F rfl 58 (.tmp 8) (.tmp 47) rfl _ _ ⟨2, 8, 2, 15, 123, 124, 126⟩ rfl rfl (by kernel_rfl) w (by first | exact U | exact U.alloc _) (by first | exact Nat.le_refl _ | omega) 58 (by first | exact x2 | exact x2.up ((Up.refl _).alloc _)) ?_; clear U; intro V z U _)
  obtain ⟨z0, z1, z2, z3, z4, z5, z6⟩ := Bf.cs z
  have z7 := Bf.lt z
  simp only [Nat.zero_add] at z0 z1 z2 z3 z4 z5 z6 z7
  refine bodyPost_ret (v := fv ⟨2, 8, 2, 15, 123, 124, 126⟩) (by simp [results, Tryd.results47, go_sem, z0, z1, z2, z3, z4, z5, z6]) rfl ?_
  exact ⟨rfl, by (repeat (first | exact U | refine Up.setCell ?_ (by first | exact Nat.le_refl _ | omega) _ | refine Up.alloc ?_ _)); try exact U⟩
set_option maxHeartbeats 2000000 in
set_option maxRecDepth 100000 in
theorem rsigned7 (w : World)  : Calls Tryd.prog 47 #[.int .i64 6, .int .i64 2, .int .i64 3, .int .i64 0] w (Fo ⟨2, 6, 2, 3, 31, 0, 0⟩ w) := by
  have U := Up.refl w
  go_enter Tryd.func47, Tryd.ntmps47
  go_wp2_with fail
  refine (ones_any _ 5 (by decide) 31 (by show _ = _; decide)).mono ?_
  rintro _ _ ⟨rfl, rfl⟩
  go_wp2_with fail
  go_wp2_with fail
  refine bodyPost_ret (v := fv ⟨2, 6, 2, 3, 31, 0, 0⟩) (by simp [results, Tryd.results47, go_sem]) rfl ?_
  exact ⟨rfl, by (repeat (first | exact U | refine Up.setCell ?_ (by first | exact Nat.le_refl _ | omega) _ | refine Up.alloc ?_ _)); try exact U⟩
set_option maxHeartbeats 2000000 in
set_option maxRecDepth 100000 in
theorem rsigned8 (w : World)  : Calls Tryd.prog 47 #[.int .i64 6, .int .i64 3, .int .i64 1, .int .i64 0] w (Fo ⟨2, 6, 3, 1, 31, 0, 0⟩ w) := by
  have U := Up.refl w
  go_enter Tryd.func47, Tryd.ntmps47
  go_wp2_with fail
  refine (ones_any _ 5 (by decide) 31 (by show _ = _; decide)).mono ?_
  rintro _ _ ⟨rfl, rfl⟩
  go_wp2_with fail
  go_wp2_with fail
  refine bodyPost_ret (v := fv ⟨2, 6, 3, 1, 31, 0, 0⟩) (by simp [results, Tryd.results47, go_sem]) rfl ?_
  exact ⟨rfl, by (repeat (first | exact U | refine Up.setCell ?_ (by first | exact Nat.le_refl _ | omega) _ | refine Up.alloc ?_ _)); try exact U⟩
set_option maxHeartbeats 2000000 in
set_option maxRecDepth 100000 in
theorem rsigned9 (w : World)  : Calls Tryd.prog 47 #[.int .i64 4, .int .i64 1, .int .i64 1, .int .i64 0] w (Fo ⟨2, 4, 1, 1, 7, 0, 0⟩ w) := by
  have U := Up.refl w
  go_enter Tryd.func47, Tryd.ntmps47
  go_wp2_with fail
  refine (ones_any _ 3 (by decide) 7 (by show _ = _; decide)).mono ?_
  rintro _ _ ⟨rfl, rfl⟩
  go_wp2_with fail
  go_wp2_with fail
  refine bodyPost_ret (v := fv ⟨2, 4, 1, 1, 7, 0, 0⟩) (by simp [results, Tryd.results47, go_sem]) rfl ?_
  exact ⟨rfl, by (repeat (first | exact U | refine Up.setCell ?_ (by first | exact Nat.le_refl _ | omega) _ | refine Up.alloc ?_ _)); try exact U⟩
end Go.Proofs.YtjcbncfpcechnaaDoor
