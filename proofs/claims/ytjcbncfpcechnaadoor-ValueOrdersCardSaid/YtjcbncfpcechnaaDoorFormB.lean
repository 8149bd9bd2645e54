/-
  The reference of layer 4: Mask, Sign, Fits, Canon.
-/
import Derived.Test.YtjcbncfpcechnaaDoorFormA
namespace Go.Proofs.YtjcbncfpcechnaaDoor
open Go.RowKit
set_option maxHeartbeats 2000000 in
set_option maxRecDepth 100000 in
theorem rmask_any (w : World) (f : M.Fm) (hf : M.Ok f) (M' : Int) (hM : Hid (M.msk f = M')) : Calls Tryd.prog 38 #[fv f] w (Wz M' w) := by
  obtain ⟨k, W, m, b, t, n, x⟩ := f
  have hW := hf.W
  clear hf
  simp only at hW
  obtain ⟨q, rfl, hq⟩ : ∃ q : Nat, W = (q : Int) ∧ q ≤ 64 := ⟨W.toNat, by omega, by omega⟩
  have hz : Hid (2 ^ q - 1 = M') := by rw [← hM.out]; rfl
  clear hW hM
  have U := Up.refl w
  go_enter Tryd.func38, Tryd.ntmps38
  go_wp2_with fail
  refine (ones_any _ q hq M' hz).mono ?_
  rintro _ _ ⟨rfl, rfl⟩
  go_wp2_with fail
  go_ret
  exact ⟨rfl, U.alloc _⟩
set_option maxHeartbeats 2000000 in
set_option maxRecDepth 100000 in
theorem rsign_any (w : World) (f : M.Fm) (hf : M.Ok f) (S : Int) (hS : Hid (M.sgn f = S)) : Calls Tryd.prog 37 #[fv f] w (Wz S w) := by
  have hW := hf.W
  have hm := hf.hm
  by_cases hk : f.k = 4
  · obtain ⟨k, W, m, b, t, n, x⟩ := f
    simp only at hk
    subst hk
    clear hf hW hm
    have U := Up.refl w
    go_enter Tryd.func37, Tryd.ntmps37
    go_wp2_with fail
    go_ret
    exact ⟨ret_int (by rw [← hS.out]; rfl), U.alloc _⟩
  · have d : (f.k == 4) = false := by simpa using hk
    have e := hS.out
    unfold M.sgn at e
    rw [if_neg hk] at e
    clear hS hf
    obtain ⟨H, hH⟩ : ∃ H, M.half f = H := ⟨_, rfl⟩
    obtain ⟨M', hM⟩ : ∃ z, M.msk f = z := ⟨_, rfl⟩
    rw [hM, hH] at hm
    rw [hH] at e
    subst e
    obtain ⟨k, W, m, b, t, n, x⟩ := f
    simp only at hW hk d
    obtain ⟨q, rfl, hq, hq1⟩ : ∃ q : Nat, W = (q : Int) ∧ q ≤ 64 ∧ 1 ≤ q := ⟨W.toNat, by omega, by omega, by omega⟩
    have hz : Hid (2 ^ q - 1 = M') := by rw [← hM]; rfl
    have hz2 : Hid (2 ^ (q - 1) - 1 = H - 1) := by rw [← hH]; rfl
    have C1 := Lib.hid (fun w' => show Calls Tryd.prog 46 #[.int .i64 (q : Int)] w' (Same (.int .u64 M') w') from ones_any w' q hq M' hz)
    have C2 := Lib.hid (fun w' => show Calls Tryd.prog 46 #[.int .i64 ((q : Int) - 1)] w' (Same (.int .u64 (H - 1)) w') from by
      rw [show ((q : Int) - 1) = ((q - 1 : Nat) : Int) by omega]
      exact ones_any w' (q - 1) (by omega) (H - 1) hz2)
    have e2 : M' - (H - 1) = H := by omega
    have b1 : 0 ≤ M' := by omega
    have b2 : M' < 18446744073709551616 := by omega
    have b3 : 0 ≤ H := by omega
    have b4 : H < 18446744073709551616 := by omega
    have ew : IntKind.i64.wrap ((q : Int) - 1) = (q : Int) - 1 := by simp [IntKind.wrap, IntKind.bits, IntKind.signed]; omega
    have ew2 : IntKind.u64.wrap H = H := by simp [IntKind.wrap, IntKind.bits, IntKind.signed]; omega
    clear hM hH hz hz2 hW hk hm
    have U := Up.refl w
    go_enter Tryd.func37, Tryd.ntmps37
    go_wp2_with fail
    obtain ⟨V1, hV1⟩ : ∃ V1, w.alloc (.cells #[.int .i64 k, .int .i64 (q : Int), .int .i64 m, .int .i64 b, .int .u64 t, .int .u64 n, .int .u64 x] 58) = V1 := ⟨_, rfl⟩
    have uV1 : Up w V1 := by rw [← hV1]; first | exact (Up.refl _).alloc _ | exact ((Up.refl _).alloc _).alloc _ | exact (((Up.refl _).alloc _).alloc _).alloc _ | exact ((((Up.refl _).alloc _).alloc _).alloc _).alloc _ | ((repeat (refine Up.alloc ?_ _)); exact Up.refl _)
    have a : Bf V1 w.heap.size 58 ⟨k, (q : Int), m, b, t, n, x⟩ := by rw [← hV1]; exact Bf.mk_ w ⟨k, (q : Int), m, b, t, n, x⟩ 58
    rw [hV1]
    clear hV1
    replace U := U.trans uV1
    clear uV1
    obtain ⟨a0, a1, a2, a3, a4, a5, a6⟩ := Bf.cs a
    have a7 := Bf.lt a
    simp only [Nat.zero_add] at a0 a1 a2 a3 a4 a5 a6 a7
    go_region_held3 (fun w' => w'.cell? ⟨w.heap.size, 1, none⟩ = some (.int .i64 (q : Int))) (go_keep) (first
        | (go_at_call_of 46 (Value.int .i64 (q : Int)); (with_reducible refine (C1.out _).mono ?_); rintro _ _ ⟨rfl, rfl⟩)
        | (go_at_call 46; (with_reducible refine (C2.out _).mono ?_); rintro _ _ ⟨rfl, rfl⟩))
    go_wp2_with fail
    go_ret
    exact ⟨ret_int (by first | exact ew2 | exact e2 | rfl), by first | exact U | exact U.drewN _⟩
set_option maxHeartbeats 2000000 in
set_option maxRecDepth 100000 in
theorem rfits_out (w : World) (ii p : Int) (h : ii < 1 ∨ 15 ≤ ii) : Calls Tryd.prog 30 #[.int .i64 ii, .int .u64 p] w (Nz 3 w) := by
  have U := Up.refl w
  go_enter Tryd.func30, Tryd.ntmps30
  go_wp2_with fail
  refine (rof_out _ ii h).mono ?_
  rintro _ w1 ⟨rfl, h1⟩
  replace U := U.trans h1
  clear h1
  clear h
  go_wp2_with fail
  go_ret
  exact ⟨rfl, U.alloc _⟩
set_option maxHeartbeats 2000000 in
set_option maxRecDepth 100000 in
theorem rfits_in (w : World) (i : Nat) (h1 : 1 ≤ i) (h2 : i ≤ 14) (p : Int) (e : Int) (he : Hid (M.er i p = e)) : Calls Tryd.prog 30 #[.int .i64 (i : Int), .int .u64 p] w (Nz e w) := by
  have ok := M.ok i h1 h2
  have he' := he.out
  unfold M.er at he'
  clear he
  obtain ⟨f, hf⟩ : ∃ f, M.tb i = f := ⟨_, rfl⟩
  rw [hf] at ok he'
  have HF := Lib.hid hf
  obtain ⟨M', hM⟩ : ∃ z, M.msk f = z := ⟨_, rfl⟩
  rw [hM] at he'
  have HM := Lib.hid hM
  have OK := Lib.hid ok
  clear hf hM ok
  rcases (show p ≤ M' ∨ M' < p by omega) with hc | hc
  ·
    rw [if_pos hc] at he'
    have d : decide (M' < p) = false := decide_eq_false (by omega)
    subst he'
    clear hc
    have U := Up.refl w
    go_enter Tryd.func30, Tryd.ntmps30
    go_wp2_with fail
    refine (rof_in _ i f HF h1 h2).mono ?_
    rintro _ w1 ⟨rfl, h1⟩
    replace U := U.trans h1
    clear h1
    clear HF h1 h2
    go_wp2_with fail
    obtain ⟨V2, hV2⟩ : ∃ V2, w1.alloc (.cells #[.int .i64 f.k, .int .i64 f.W, .int .i64 f.m, .int .i64 f.b, .int .u64 f.t, .int .u64 f.n, .int .u64 f.x] 58) = V2 := ⟨_, rfl⟩
    have uV2 : Up w1 V2 := by rw [← hV2]; first | exact (Up.refl _).alloc _ | exact ((Up.refl _).alloc _).alloc _ | exact (((Up.refl _).alloc _).alloc _).alloc _ | exact ((((Up.refl _).alloc _).alloc _).alloc _).alloc _ | ((repeat (refine Up.alloc ?_ _)); exact Up.refl _)
    have c : Bf V2 w1.heap.size 58 f := by rw [← hV2]; exact Bf.mk_ w1 f 58
    rw [hV2]
    clear hV2
    replace U := U.trans uV2
    clear uV2
    obtain ⟨c0, c1, c2, c3, c4, c5, c6⟩ := Bf.cs c
    have c7 := Bf.lt c
    simp only [Nat.zero_add] at c0 c1 c2 c3 c4 c5 c6 c7
    go_wp2_with fail
    clear c0 c1 c2 c3 c4 c5 c6 c7
    refine (rmask_any _ f OK.out M' HM).mono ?_
    rintro _ w3 ⟨rfl, h3⟩
    replace c := c.up h3
    replace U := U.trans h3
    clear h3
    go_wp2_with fail
    go_ret
    exact ⟨rfl, U⟩
  ·
    rw [if_neg (by omega)] at he'
    have d : decide (M' < p) = true := decide_eq_true hc
    subst he'
    clear hc
    have U := Up.refl w
    go_enter Tryd.func30, Tryd.ntmps30
    go_wp2_with fail
    refine (rof_in _ i f HF h1 h2).mono ?_
    rintro _ w4 ⟨rfl, h4⟩
    replace U := U.trans h4
    clear h4
    clear HF h1 h2
    go_wp2_with fail
    obtain ⟨V5, hV5⟩ : ∃ V5, w4.alloc (.cells #[.int .i64 f.k, .int .i64 f.W, .int .i64 f.m, .int .i64 f.b, .int .u64 f.t, .int .u64 f.n, .int .u64 f.x] 58) = V5 := ⟨_, rfl⟩
    have uV5 : Up w4 V5 := by rw [← hV5]; first | exact (Up.refl _).alloc _ | exact ((Up.refl _).alloc _).alloc _ | exact (((Up.refl _).alloc _).alloc _).alloc _ | exact ((((Up.refl _).alloc _).alloc _).alloc _).alloc _ | ((repeat (refine Up.alloc ?_ _)); exact Up.refl _)
    have c : Bf V5 w4.heap.size 58 f := by rw [← hV5]; exact Bf.mk_ w4 f 58
    rw [hV5]
    clear hV5
    replace U := U.trans uV5
    clear uV5
    obtain ⟨c0, c1, c2, c3, c4, c5, c6⟩ := Bf.cs c
    have c7 := Bf.lt c
    simp only [Nat.zero_add] at c0 c1 c2 c3 c4 c5 c6 c7
    go_wp2_with fail
    clear c0 c1 c2 c3 c4 c5 c6 c7
    refine (rmask_any _ f OK.out M' HM).mono ?_
    rintro _ w6 ⟨rfl, h6⟩
    replace c := c.up h6
    replace U := U.trans h6
    clear h6
    go_wp2_with fail
    go_ret
    exact ⟨rfl, U⟩
end Go.Proofs.YtjcbncfpcechnaaDoor
