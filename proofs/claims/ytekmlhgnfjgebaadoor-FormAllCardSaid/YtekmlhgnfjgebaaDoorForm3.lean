/-
  Forms: what does not fit.
-/
import Derived.Test.YtekmlhgnfjgebaaDoorForm2
namespace Go.Proofs.YtekmlhgnfjgebaaDoor
open Go.RowKit
set_option maxHeartbeats 2000000 in
set_option maxRecDepth 100000 in
theorem fitting_out (w : World) (ii p : Int) (h : ii < 1 ∨ 15 ≤ ii) : Calls Tryd.prog 22 #[.int .i64 ii, .int .u64 p] w (Fn ⟨0, 0, 0, 0, 0, 0, 0⟩ 3 w) := by
  have U := Up.refl w
  go_enter Tryd.func22, Tryd.ntmps22
  go_wp2_with fail
  obtain ⟨V1, hV1⟩ : ∃ V1, w.alloc (.cells #[.int .i64 0, .int .i64 0, .int .i64 0, .int .i64 0, .int .u64 0, .int .u64 0, .int .u64 0] 25) = V1 := ⟨_, rfl⟩
  have uV1 : Up w V1 := by rw [← hV1]; first | exact (Up.refl _).alloc _ | exact ((Up.refl _).alloc _).alloc _ | exact (((Up.refl _).alloc _).alloc _).alloc _ | exact ((((Up.refl _).alloc _).alloc _).alloc _).alloc _ | ((repeat (refine Up.alloc ?_ _)); exact Up.refl _)
  have a : Bf V1 w.heap.size 25 ⟨0, 0, 0, 0, 0, 0, 0⟩ := by rw [← hV1]; exact Bf.mk_ w ⟨0, 0, 0, 0, 0, 0, 0⟩ 25
  rw [hV1]
  clear hV1
  replace U := U.trans uV1
  clear uV1
  refine (of_out _ ii h).mono ?_
  rintro _ w2 ⟨rfl, h2⟩
  replace a := a.up h2
  replace U := U.trans h2
  clear h2
  clear h
  obtain ⟨a0, a1, a2, a3, a4, a5, a6⟩ := Bf.cs a
  have a7 := Bf.lt a
  simp only [Nat.zero_add] at a0 a1 a2 a3 a4 a5 a6 a7
  go_wp2_with (refine store_F rfl 25 (.tmp 4) (.tmp 23) rfl _ _ ⟨0, 0, 0, 0, 0, 0, 0⟩ rfl rfl (by kernel_rfl) w (by first | exact U | exact U.alloc _) (by first | exact Nat.le_refl _ | omega) 25 (by first | exact a | exact a.up ((Up.refl _).alloc _)) ?_; clear U; intro V z U _)
  obtain ⟨z0, z1, z2, z3, z4, z5, z6⟩ := Bf.cs z
  have z7 := Bf.lt z
  simp only [Nat.zero_add] at z0 z1 z2 z3 z4 z5 z6 z7
  refine bodyPost_ret (v := .tuple #[fv ⟨0, 0, 0, 0, 0, 0, 0⟩, .int .i64 3]) (by simp [results, Tryd.results22, go_sem, z0, z1, z2, z3, z4, z5, z6]) rfl ?_
  exact ⟨rfl, by (repeat (first | exact U | refine Up.setCell ?_ (by first | exact Nat.le_refl _ | omega) _ | refine Up.alloc ?_ _)); try exact U⟩
end Go.Proofs.YtekmlhgnfjgebaaDoor
