/-
  Forms: what fits.
-/
import Derived.Test.YtekmlhgnfjgebaaDoorForm3
namespace Go.Proofs.YtekmlhgnfjgebaaDoor
open Go.RowKit
set_option maxHeartbeats 2000000 in
set_option maxRecDepth 100000 in
theorem fitting_in (w : World) (hF : TabF w) (i : Nat) (h1 : 1 ≤ i) (h2 : i ≤ 14) (p : Int) (p1 : 0 ≤ p) (p2 : p < 18446744073709551616) : Calls Tryd.prog 22 #[.int .i64 (i : Int), .int .u64 p] w (Fn (if p ≤ M.msk (M.tb i) then M.tb i else ⟨0, 0, 0, 0, 0, 0, 0⟩) (M.er i p) w) := by
  have hb := M.fits_bit i h1 h2 p p1 p2
  have ok := M.ok i h1 h2
  obtain ⟨M', hM⟩ : ∃ z, M.msk (M.tb i) = z := ⟨_, rfl⟩
  rw [hM] at hb
  unfold M.er
  rw [hM]
  obtain ⟨f, hf⟩ : ∃ f, M.tb i = f := ⟨_, rfl⟩
  rw [hf] at ok hM ⊢
  have HF := Lib.hid hf
  have HM := Lib.hid hM
  have OK := Lib.hid ok
  clear hf hM ok
  by_cases hc : p ≤ M'
  · rw [if_pos hc, if_pos hc]
    replace hb : (Go.bits BinOp.andNot IntKind.u64 p M' != 0) = false := by rw [hb]; simp [hc]
    have U := Up.refl w
    go_enter Tryd.func22, Tryd.ntmps22
    go_wp2_with fail
    obtain ⟨V1, hV1⟩ : ∃ V1, w.alloc (.cells #[.int .i64 0, .int .i64 0, .int .i64 0, .int .i64 0, .int .u64 0, .int .u64 0, .int .u64 0] 25) = V1 := ⟨_, rfl⟩
    have uV1 : Up w V1 := by rw [← hV1]; first | exact (Up.refl _).alloc _ | exact ((Up.refl _).alloc _).alloc _ | exact (((Up.refl _).alloc _).alloc _).alloc _ | exact ((((Up.refl _).alloc _).alloc _).alloc _).alloc _ | ((repeat (refine Up.alloc ?_ _)); exact Up.refl _)
    have a : Bf V1 w.heap.size 25 ⟨0, 0, 0, 0, 0, 0, 0⟩ := by rw [← hV1]; exact Bf.mk_ w ⟨0, 0, 0, 0, 0, 0, 0⟩ 25
    rw [hV1]
    clear hV1
    replace U := U.trans uV1
    clear uV1
    refine (of_in _ (hF.up U) i f HF h1 h2).mono ?_
    rintro _ w2 ⟨rfl, h2⟩
    replace a := a.up h2
    replace U := U.trans h2
    clear h2
    obtain ⟨a0, a1, a2, a3, a4, a5, a6⟩ := Bf.cs a
    have a7 := Bf.lt a
    simp only [Nat.zero_add] at a0 a1 a2 a3 a4 a5 a6 a7
    go_wp2_with fail
    clear a0 a1 a2 a3 a4 a5 a6 a7
    obtain ⟨V3, hV3⟩ : ∃ V3, w2.alloc (.cells #[.int .i64 f.k, .int .i64 f.W, .int .i64 f.m, .int .i64 f.b, .int .u64 f.t, .int .u64 f.n, .int .u64 f.x] 25) = V3 := ⟨_, rfl⟩
    have uV3 : Up w2 V3 := by rw [← hV3]; first | exact (Up.refl _).alloc _ | exact ((Up.refl _).alloc _).alloc _ | exact (((Up.refl _).alloc _).alloc _).alloc _ | exact ((((Up.refl _).alloc _).alloc _).alloc _).alloc _ | ((repeat (refine Up.alloc ?_ _)); exact Up.refl _)
    have c : Bf V3 w2.heap.size 25 f := by rw [← hV3]; exact Bf.mk_ w2 f 25
    rw [hV3]
    clear hV3
    replace a := a.up uV3
    replace U := U.trans uV3
    clear uV3
    refine (mask_any _ f OK.out M' HM).mono ?_
    rintro _ w4 ⟨rfl, h4⟩
    replace a := a.up h4
    replace c := c.up h4
    replace U := U.trans h4
    clear h4
    clear hc OK HM HF h1 h2 hF p1 p2
    obtain ⟨c0, c1, c2, c3, c4, c5, c6⟩ := Bf.cs c
    have c7 := Bf.lt c
    simp only [Nat.zero_add] at c0 c1 c2 c3 c4 c5 c6 c7
    go_wp2_with (refine store_F rfl 25 (.tmp 4) (.tmp 23) rfl _ _ f rfl rfl (by kernel_rfl) w (by first | exact U | exact U.alloc _) (by first | exact Nat.le_refl _ | omega) 25 (by first | exact a | exact a.up ((Up.refl _).alloc _)) ?_; clear U; intro V z U _)
    obtain ⟨z0, z1, z2, z3, z4, z5, z6⟩ := Bf.cs z
    have z7 := Bf.lt z
    simp only [Nat.zero_add] at z0 z1 z2 z3 z4 z5 z6 z7
    refine bodyPost_ret (v := .tuple #[fv f, .int .i64 0]) (by simp [results, Tryd.results22, go_sem, z0, z1, z2, z3, z4, z5, z6]) rfl ?_
    exact ⟨rfl, by (repeat (first | exact U | refine Up.setCell ?_ (by first | exact Nat.le_refl _ | omega) _ | refine Up.alloc ?_ _)); try exact U⟩
  · rw [if_neg hc, if_neg hc]
    replace hb : (Go.bits BinOp.andNot IntKind.u64 p M' != 0) = true := by rw [hb]; simp [hc]
    have U := Up.refl w
    go_enter Tryd.func22, Tryd.ntmps22
    go_wp2_with fail
    obtain ⟨V1, hV1⟩ : ∃ V1, w.alloc (.cells #[.int .i64 0, .int .i64 0, .int .i64 0, .int .i64 0, .int .u64 0, .int .u64 0, .int .u64 0] 25) = V1 := ⟨_, rfl⟩
    have uV1 : Up w V1 := by rw [← hV1]; first | exact (Up.refl _).alloc _ | exact ((Up.refl _).alloc _).alloc _ | exact (((Up.refl _).alloc _).alloc _).alloc _ | exact ((((Up.refl _).alloc _).alloc _).alloc _).alloc _ | ((repeat (refine Up.alloc ?_ _)); exact Up.refl _)
    have a : Bf V1 w.heap.size 25 ⟨0, 0, 0, 0, 0, 0, 0⟩ := by rw [← hV1]; exact Bf.mk_ w ⟨0, 0, 0, 0, 0, 0, 0⟩ 25
    rw [hV1]
    clear hV1
    replace U := U.trans uV1
    clear uV1
    refine (of_in _ (hF.up U) i f HF h1 h2).mono ?_
    rintro _ w2 ⟨rfl, h2⟩
    replace a := a.up h2
    replace U := U.trans h2
    clear h2
    obtain ⟨a0, a1, a2, a3, a4, a5, a6⟩ := Bf.cs a
    have a7 := Bf.lt a
    simp only [Nat.zero_add] at a0 a1 a2 a3 a4 a5 a6 a7
    go_wp2_with fail
    clear a0 a1 a2 a3 a4 a5 a6 a7
    obtain ⟨V3, hV3⟩ : ∃ V3, w2.alloc (.cells #[.int .i64 f.k, .int .i64 f.W, .int .i64 f.m, .int .i64 f.b, .int .u64 f.t, .int .u64 f.n, .int .u64 f.x] 25) = V3 := ⟨_, rfl⟩
    have uV3 : Up w2 V3 := by rw [← hV3]; first | exact (Up.refl _).alloc _ | exact ((Up.refl _).alloc _).alloc _ | exact (((Up.refl _).alloc _).alloc _).alloc _ | exact ((((Up.refl _).alloc _).alloc _).alloc _).alloc _ | ((repeat (refine Up.alloc ?_ _)); exact Up.refl _)
    have c : Bf V3 w2.heap.size 25 f := by rw [← hV3]; exact Bf.mk_ w2 f 25
    rw [hV3]
    clear hV3
    replace a := a.up uV3
    replace U := U.trans uV3
    clear uV3
    refine (mask_any _ f OK.out M' HM).mono ?_
    rintro _ w4 ⟨rfl, h4⟩
    replace a := a.up h4
    replace c := c.up h4
    replace U := U.trans h4
    clear h4
    clear hc OK HM HF h1 h2 hF p1 p2
    obtain ⟨c0, c1, c2, c3, c4, c5, c6⟩ := Bf.cs c
    have c7 := Bf.lt c
    simp only [Nat.zero_add] at c0 c1 c2 c3 c4 c5 c6 c7
    go_wp2_with (refine store_F rfl 25 (.tmp 4) (.tmp 22) rfl _ _ ⟨0, 0, 0, 0, 0, 0, 0⟩ rfl rfl (by kernel_rfl) w (by first | exact U | exact U.alloc _) (by first | exact Nat.le_refl _ | omega) 25 (by first | exact a | exact a.up ((Up.refl _).alloc _)) ?_; clear U; intro V z U _)
    obtain ⟨z0, z1, z2, z3, z4, z5, z6⟩ := Bf.cs z
    have z7 := Bf.lt z
    simp only [Nat.zero_add] at z0 z1 z2 z3 z4 z5 z6 z7
    refine bodyPost_ret (v := .tuple #[fv ⟨0, 0, 0, 0, 0, 0, 0⟩, .int .i64 1]) (by simp [results, Tryd.results22, go_sem, z0, z1, z2, z3, z4, z5, z6]) rfl ?_
    exact ⟨rfl, by (repeat (first | exact U | refine Up.setCell ?_ (by first | exact Nat.le_refl _ | omega) _ | refine Up.alloc ?_ _)); try exact U⟩
end Go.Proofs.YtekmlhgnfjgebaaDoor
