/-
  The reference of layer 4: Mask, Sign, Fits, Canon.
-/
import Derived.Test.YtekmlhgnfjgebaaDoorFormA
namespace Go.Proofs.YtekmlhgnfjgebaaDoor
open Go.RowKit
set_option maxHeartbeats 2000000 in
set_option maxRecDepth 100000 in
theorem rmask_any (w : World) (f : M.Fm) (hf : M.Ok f) (M' : Int) (hM : Hid (M.msk f = M')) : Calls Tryd.prog 12 #[fv f] w (Wz M' w) := by
  obtain ⟨k, W, m, b, t, n, x⟩ := f
  have hW := hf.W
  clear hf
  simp only at hW
  obtain ⟨q, rfl, hq⟩ : ∃ q : Nat, W = (q : Int) ∧ q ≤ 64 := ⟨W.toNat, by omega, by omega⟩
  have hz : Hid (2 ^ q - 1 = M') := by rw [← hM.out]; rfl
  clear hW hM
  have U := Up.refl w
  go_enter Tryd.func12, Tryd.ntmps12
  go_wp2_with fail
  refine (ones_any _ q hq M' hz).mono ?_
  rintro _ _ ⟨rfl, rfl⟩
  go_wp2_with fail
  go_ret
  exact ⟨rfl, U.alloc _⟩
set_option maxHeartbeats 2000000 in
set_option maxRecDepth 100000 in
theorem rsign_any (w : World) (f : M.Fm) (hf : M.Ok f) (S : Int) (hS : Hid (M.sgn f = S)) : Calls Tryd.prog 14 #[fv f] w (Wz S w) := by
  have hW := hf.W
  have hm := hf.hm
  by_cases hk : f.k = 4
  · obtain ⟨k, W, m, b, t, n, x⟩ := f
    simp only at hk
    subst hk
    clear hf hW hm
    have U := Up.refl w
    go_enter Tryd.func14, Tryd.ntmps14
    go_wp2_with fail
    go_ret
    exact ⟨ret_int (by rw [← hS.out]; rfl), U.alloc _⟩
  · have d : (f.k == 4) = false := by simpa using hk
    have e := hS.out
    unfold M.sgn at e
    rw [if_neg hk] at e
    clear hS hf
    obtain ⟨H, hH⟩ : ∃ H, M.half f = H := ⟨_, rfl⟩
    obtain ⟨M', hM⟩ : ∃ z, M.msk f = z := ⟨_, rfl⟩
    rw [hM, hH] at hm
    rw [hH] at e
    subst e
    obtain ⟨k, W, m, b, t, n, x⟩ := f
    simp only at hW hk d
    obtain ⟨q, rfl, hq, hq1⟩ : ∃ q : Nat, W = (q : Int) ∧ q ≤ 64 ∧ 1 ≤ q := ⟨W.toNat, by omega, by omega, by omega⟩
    have hz : Hid (2 ^ q - 1 = M') := by rw [← hM]; rfl
    have hz2 : Hid (2 ^ (q - 1) - 1 = H - 1) := by rw [← hH]; rfl
    have C1 := Lib.hid (fun w' => show Calls Tryd.prog 20 #[.int .i64 (q : Int)] w' (Same (.int .u64 M') w') from ones_any w' q hq M' hz)
    have C2 := Lib.hid (fun w' => show Calls Tryd.prog 20 #[.int .i64 ((q : Int) - 1)] w' (Same (.int .u64 (H - 1)) w') from by
      rw [show ((q : Int) - 1) = ((q - 1 : Nat) : Int) by omega]
      exact ones_any w' (q - 1) (by omega) (H - 1) hz2)
    have e2 : M' - (H - 1) = H := by omega
    have b1 : 0 ≤ M' := by omega
    have b2 : M' < 18446744073709551616 := by omega
    have b3 : 0 ≤ H := by omega
    have b4 : H < 18446744073709551616 := by omega
    have ew : IntKind.i64.wrap ((q : Int) - 1) = (q : Int) - 1 := by simp [IntKind.wrap, IntKind.bits, IntKind.signed]; omega
    have ew2 : IntKind.u64.wrap H = H := by simp [IntKind.wrap, IntKind.bits, IntKind.signed]; omega
    clear hM hH hz hz2 hW hk hm
    have U := Up.refl w
    go_enter Tryd.func14, Tryd.ntmps14
    go_wp2_with fail
    obtain ⟨V1, hV1⟩ : ∃ V1, w.alloc (.cells #[.int .i64 k, .int .i64 (q : Int), .int .i64 m, .int .i64 b, .int .u64 t, .int .u64 n, .int .u64 x] 29) = V1 := ⟨_, rfl⟩
    have uV1 : Up w V1 := by rw [← hV1]; first | exact (Up.refl _).alloc _ | exact ((Up.refl _).alloc _).alloc _ | exact (((Up.refl _).alloc _).alloc _).alloc _ | exact ((((Up.refl _).alloc _).alloc _).alloc _).alloc _ | ((repeat (refine Up.alloc ?_ _)); exact Up.refl _)
    have a : Bf V1 w.heap.size 29 ⟨k, (q : Int), m, b, t, n, x⟩ := by rw [← hV1]; exact Bf.mk_ w ⟨k, (q : Int), m, b, t, n, x⟩ 29
    rw [hV1]
    clear hV1
    replace U := U.trans uV1
    clear uV1
    obtain ⟨a0, a1, a2, a3, a4, a5, a6⟩ := Bf.cs a
    have a7 := Bf.lt a
    simp only [Nat.zero_add] at a0 a1 a2 a3 a4 a5 a6 a7
    go_region_held3 (fun w' => w'.cell? ⟨w.heap.size, 1, none⟩ = some (.int .i64 (q : Int))) (go_keep) (first
        | (go_at_call_of 20 (Value.int .i64 (q : Int)); (with_reducible refine (C1.out _).mono ?_); rintro _ _ ⟨rfl, rfl⟩)
        | (go_at_call 20; (with_reducible refine (C2.out _).mono ?_); rintro _ _ ⟨rfl, rfl⟩))
    go_wp2_with fail
    go_ret
    exact ⟨ret_int (by first | exact ew2 | exact e2 | rfl), by first | exact U | exact U.drewN _⟩
set_option maxHeartbeats 2000000 in
set_option maxRecDepth 100000 in
theorem rfits_out (w : World) (ii p : Int) (h : ii < 1 ∨ 15 ≤ ii) : Calls Tryd.prog 18 #[.int .i64 ii, .int .u64 p] w (Nz 3 w) := by
  have U := Up.refl w
  go_enter Tryd.func18, Tryd.ntmps18
  go_wp2_with fail
  refine (rof_out _ ii h).mono ?_
  rintro _ w1 ⟨rfl, h1⟩
  replace U := U.trans h1
  clear h1
  clear h
  go_wp2_with fail
  go_ret
  exact ⟨rfl, U.alloc _⟩
set_option maxHeartbeats 2000000 in
set_option maxRecDepth 100000 in
theorem rfits_in (w : World) (i : Nat) (h1 : 1 ≤ i) (h2 : i ≤ 14) (p : Int) (e : Int) (he : Hid (M.er i p = e)) : Calls Tryd.prog 18 #[.int .i64 (i : Int), .int .u64 p] w (Nz e w) := by
  have ok := M.ok i h1 h2
  have he' := he.out
  unfold M.er at he'
  clear he
  obtain ⟨f, hf⟩ : ∃ f, M.tb i = f := ⟨_, rfl⟩
  rw [hf] at ok he'
  have HF := Lib.hid hf
  obtain ⟨M', hM⟩ : ∃ z, M.msk f = z := ⟨_, rfl⟩
  rw [hM] at he'
  have HM := Lib.hid hM
  have OK := Lib.hid ok
  clear hf hM ok
  rcases (show p ≤ M' ∨ M' < p by omega) with hc | hc
  ·
    rw [if_pos hc] at he'
    have d : decide (M' < p) = false := decide_eq_false (by omega)
    subst he'
    clear hc
    have U := Up.refl w
    go_enter Tryd.func18, Tryd.ntmps18
    go_wp2_with fail
    refine (rof_in _ i f HF h1 h2).mono ?_
    rintro _ w1 ⟨rfl, h1⟩
    replace U := U.trans h1
    clear h1
    clear HF h1 h2
    go_wp2_with fail
    obtain ⟨V2, hV2⟩ : ∃ V2, w1.alloc (.cells #[.int .i64 f.k, .int .i64 f.W, .int .i64 f.m, .int .i64 f.b, .int .u64 f.t, .int .u64 f.n, .int .u64 f.x] 29) = V2 := ⟨_, rfl⟩
    have uV2 : Up w1 V2 := by rw [← hV2]; first | exact (Up.refl _).alloc _ | exact ((Up.refl _).alloc _).alloc _ | exact (((Up.refl _).alloc _).alloc _).alloc _ | exact ((((Up.refl _).alloc _).alloc _).alloc _).alloc _ | ((repeat (refine Up.alloc ?_ _)); exact Up.refl _)
    have c : Bf V2 w1.heap.size 29 f := by rw [← hV2]; exact Bf.mk_ w1 f 29
    rw [hV2]
    clear hV2
    replace U := U.trans uV2
    clear uV2
    obtain ⟨c0, c1, c2, c3, c4, c5, c6⟩ := Bf.cs c
    have c7 := Bf.lt c
    simp only [Nat.zero_add] at c0 c1 c2 c3 c4 c5 c6 c7
    go_wp2_with fail
    clear c0 c1 c2 c3 c4 c5 c6 c7
    refine (rmask_any _ f OK.out M' HM).mono ?_
    rintro _ w3 ⟨rfl, h3⟩
    replace c := c.up h3
    replace U := U.trans h3
    clear h3
    go_wp2_with fail
    go_ret
    exact ⟨rfl, U⟩
  ·
    rw [if_neg (by omega)] at he'
    have d : decide (M' < p) = true := decide_eq_true hc
    subst he'
    clear hc
    have U := Up.refl w
    go_enter Tryd.func18, Tryd.ntmps18
    go_wp2_with fail
    refine (rof_in _ i f HF h1 h2).mono ?_
    rintro _ w4 ⟨rfl, h4⟩
    replace U := U.trans h4
    clear h4
    clear HF h1 h2
    go_wp2_with fail
    obtain ⟨V5, hV5⟩ : ∃ V5, w4.alloc (.cells #[.int .i64 f.k, .int .i64 f.W, .int .i64 f.m, .int .i64 f.b, .int .u64 f.t, .int .u64 f.n, .int .u64 f.x] 29) = V5 := ⟨_, rfl⟩
    have uV5 : Up w4 V5 := by rw [← hV5]; first | exact (Up.refl _).alloc _ | exact ((Up.refl _).alloc _).alloc _ | exact (((Up.refl _).alloc _).alloc _).alloc _ | exact ((((Up.refl _).alloc _).alloc _).alloc _).alloc _ | ((repeat (refine Up.alloc ?_ _)); exact Up.refl _)
    have c : Bf V5 w4.heap.size 29 f := by rw [← hV5]; exact Bf.mk_ w4 f 29
    rw [hV5]
    clear hV5
    replace U := U.trans uV5
    clear uV5
    obtain ⟨c0, c1, c2, c3, c4, c5, c6⟩ := Bf.cs c
    have c7 := Bf.lt c
    simp only [Nat.zero_add] at c0 c1 c2 c3 c4 c5 c6 c7
    go_wp2_with fail
    clear c0 c1 c2 c3 c4 c5 c6 c7
    refine (rmask_any _ f OK.out M' HM).mono ?_
    rintro _ w6 ⟨rfl, h6⟩
    replace c := c.up h6
    replace U := U.trans h6
    clear h6
    go_wp2_with fail
    go_ret
    exact ⟨rfl, U⟩
set_option maxHeartbeats 2000000 in
set_option maxRecDepth 100000 in
theorem rcanon_out (w : World) (ii p : Int) (h : ii < 1 ∨ 15 ≤ ii) : Calls Tryd.prog 16 #[.int .i64 ii, .int .u64 p] w (Wn 0 3 w) := by
  have U := Up.refl w
  go_enter Tryd.func16, Tryd.ntmps16
  go_wp2_with fail
  refine (rfits_out _ ii p h).mono ?_
  rintro _ w1 ⟨rfl, h1⟩
  replace U := U.trans h1
  clear h1
  clear h
  go_wp2_with fail
  go_ret2
  exact ⟨rfl, U⟩
set_option maxHeartbeats 2000000 in
set_option maxRecDepth 100000 in
theorem rcanon_big (w : World) (i : Nat) (h1 : 1 ≤ i) (h2 : i ≤ 14) (p : Int) (hp : ¬ p ≤ M.msk (M.tb i)) : Calls Tryd.prog 16 #[.int .i64 (i : Int), .int .u64 p] w (Wn 0 1 w) := by
  have HE : Hid (M.er i p = 1) := by show _ = _; rw [M.er, if_neg hp]
  clear hp
  have U := Up.refl w
  go_enter Tryd.func16, Tryd.ntmps16
  go_wp2_with fail
  refine (rfits_in _ i h1 h2 p 1 HE).mono ?_
  rintro _ w1 ⟨rfl, h1⟩
  replace U := U.trans h1
  clear h1
  clear h1 h2 HE
  go_wp2_with fail
  go_ret2
  exact ⟨rfl, U⟩
set_option maxHeartbeats 2000000 in
set_option maxRecDepth 100000 in
theorem rcanon_in (w : World) (i : Nat) (h1 : 1 ≤ i) (h2 : i ≤ 14) (p : Int) (p1 : 0 ≤ p) (p2 : p < 18446744073709551616) (hp : p ≤ M.msk (M.tb i)) (c : Int) (hc : Hid (M.cn i p = c)) : Calls Tryd.prog 16 #[.int .i64 (i : Int), .int .u64 p] w (Wn c 0 w) := by
  have HE : Hid (M.er i p = 0) := by show _ = _; rw [M.er, if_pos hp]
  have ok := M.ok i h1 h2
  have hcn := hc.out
  unfold M.cn at hcn
  clear hc
  obtain ⟨f, hf⟩ : ∃ f, M.tb i = f := ⟨_, rfl⟩
  rw [hf] at ok hcn hp
  have HF := Lib.hid hf
  clear hf
  have OK := Lib.hid ok
  have hm := ok.hm
  obtain ⟨S, hS⟩ : ∃ S, M.half f = S := ⟨_, rfl⟩
  rw [hS] at hm hcn
  obtain ⟨q, hq⟩ : ∃ q, p % S = q := ⟨_, rfl⟩
  rw [hq] at hcn
  have CF := Lib.hid (fun W => rfits_in W i h1 h2 p 0 HE)
  have CO := Lib.hid (fun W => rof_in W i f HF h1 h2)
  have hpm : p < 2 * S := by rw [hm.2.1] at hp; omega
  have hS0 : 0 < S := hm.1
  have hS1 : S ≤ 9223372036854775808 := hm.2.2
  by_cases hk : f.k = 2
  · have d : (f.k == 2) = true := by simp [hk]
    have HS : Hid (M.sgn f = S) := by show _ = _; rw [M.sgn, if_neg (by omega), hS]
    have hq2 : (p < S ∧ q = p) ∨ (S ≤ p ∧ p - S = q) := by
      rcases (show p < S ∨ S ≤ p by omega) with h | h
      · refine .inl ⟨h, ?_⟩
        rw [← hq, Int.emod_eq_of_lt p1 h]
      · refine .inr ⟨h, ?_⟩
        have h3 : p % S = (p - S) % S := by rw [Int.sub_emod_right]
        rw [← hq, h3, Int.emod_eq_of_lt (by omega) (by omega)]
    have hq0 : 0 ≤ q := by omega
    have hqb : q < 18446744073709551616 := by omega
    have hcn2 : (f.t < q ∧ q ≠ f.n ∧ f.x = c) ∨ (f.t < q ∧ q = f.n ∧ p = c) ∨ (¬ f.t < q ∧ p = c) := by
      by_cases a1 : f.t < q
      · by_cases a2 : q = f.n
        · exact .inr (.inl ⟨a1, a2, by simpa [hk, M.bey, a1, a2] using hcn⟩)
        · exact .inl ⟨a1, a2, by simpa [hk, M.bey, a1, a2] using hcn⟩
      · exact .inr (.inr ⟨a1, by simpa [hk, M.bey, a1] using hcn⟩)
    clear hcn hq hS hm ok hp hk HE HF h1 h2
    rcases hq2 with ⟨e1, rfl⟩ | ⟨e1, e2⟩
    ·
      have d2 : decide (S ≤ q) = false := decide_eq_false (by omega)
      rcases hcn2 with ⟨a1, a2, rfl⟩ | ⟨a1, a2, rfl⟩ | ⟨a1, rfl⟩
      ·
        have d3 : decide (f.t < q) = true := decide_eq_true a1
        have d4 : (q != f.n) = true := by simpa using a2
        clear a1 a2
        have U := Up.refl w
        go_enter Tryd.func16, Tryd.ntmps16
        go_wp2_with fail
        refine (CF.out _).mono ?_
        rintro _ w1 ⟨rfl, h1⟩
        replace U := U.trans h1
        clear h1
        go_wp2_with fail
        refine (CO.out _).mono ?_
        rintro _ w2 ⟨rfl, h2⟩
        replace U := U.trans h2
        clear h2
        go_wp2_with fail
        obtain ⟨V3, hV3⟩ : ∃ V3, w2.alloc (.cells #[.int .i64 f.k, .int .i64 f.W, .int .i64 f.m, .int .i64 f.b, .int .u64 f.t, .int .u64 f.n, .int .u64 f.x] 29) = V3 := ⟨_, rfl⟩
        have uV3 : Up w2 V3 := by rw [← hV3]; first | exact (Up.refl _).alloc _ | exact ((Up.refl _).alloc _).alloc _ | exact (((Up.refl _).alloc _).alloc _).alloc _ | exact ((((Up.refl _).alloc _).alloc _).alloc _).alloc _ | ((repeat (refine Up.alloc ?_ _)); exact Up.refl _)
        have c : Bf V3 w2.heap.size 29 f := by rw [← hV3]; exact Bf.mk_ w2 f 29
        rw [hV3]
        clear hV3
        replace U := U.trans uV3
        clear uV3
        obtain ⟨c0, c1, c2, c3, c4, c5, c6⟩ := Bf.cs c
        have c7 := Bf.lt c
        simp only [Nat.zero_add] at c0 c1 c2 c3 c4 c5 c6 c7
        go_wp2_with fail
        clear c0 c1 c2 c3 c4 c5 c6 c7
        refine (rsign_any _ f OK.out S HS).mono ?_
        rintro _ w4 ⟨rfl, h4⟩
        replace c := c.up h4
        replace U := U.trans h4
        clear h4
        obtain ⟨c0, c1, c2, c3, c4, c5, c6⟩ := Bf.cs c
        have c7 := Bf.lt c
        simp only [Nat.zero_add] at c0 c1 c2 c3 c4 c5 c6 c7
        go_wp2_with fail
        clear c0 c1 c2 c3 c4 c5 c6 c7
        go_ret2
        exact ⟨rfl, U⟩
      ·
        have d3 : decide (f.t < q) = true := decide_eq_true a1
        have d4 : (q != f.n) = false := by simp [a2]
        clear a1 a2
        have U := Up.refl w
        go_enter Tryd.func16, Tryd.ntmps16
        go_wp2_with fail
        refine (CF.out _).mono ?_
        rintro _ w5 ⟨rfl, h5⟩
        replace U := U.trans h5
        clear h5
        go_wp2_with fail
        refine (CO.out _).mono ?_
        rintro _ w6 ⟨rfl, h6⟩
        replace U := U.trans h6
        clear h6
        go_wp2_with fail
        obtain ⟨V7, hV7⟩ : ∃ V7, w6.alloc (.cells #[.int .i64 f.k, .int .i64 f.W, .int .i64 f.m, .int .i64 f.b, .int .u64 f.t, .int .u64 f.n, .int .u64 f.x] 29) = V7 := ⟨_, rfl⟩
        have uV7 : Up w6 V7 := by rw [← hV7]; first | exact (Up.refl _).alloc _ | exact ((Up.refl _).alloc _).alloc _ | exact (((Up.refl _).alloc _).alloc _).alloc _ | exact ((((Up.refl _).alloc _).alloc _).alloc _).alloc _ | ((repeat (refine Up.alloc ?_ _)); exact Up.refl _)
        have c : Bf V7 w6.heap.size 29 f := by rw [← hV7]; exact Bf.mk_ w6 f 29
        rw [hV7]
        clear hV7
        replace U := U.trans uV7
        clear uV7
        obtain ⟨c0, c1, c2, c3, c4, c5, c6⟩ := Bf.cs c
        have c7 := Bf.lt c
        simp only [Nat.zero_add] at c0 c1 c2 c3 c4 c5 c6 c7
        go_wp2_with fail
        clear c0 c1 c2 c3 c4 c5 c6 c7
        refine (rsign_any _ f OK.out S HS).mono ?_
        rintro _ w8 ⟨rfl, h8⟩
        replace c := c.up h8
        replace U := U.trans h8
        clear h8
        obtain ⟨c0, c1, c2, c3, c4, c5, c6⟩ := Bf.cs c
        have c7 := Bf.lt c
        simp only [Nat.zero_add] at c0 c1 c2 c3 c4 c5 c6 c7
        go_wp2_with fail
        clear c0 c1 c2 c3 c4 c5 c6 c7
        go_ret2
        exact ⟨rfl, U⟩
      ·
        have d3 : decide (f.t < q) = false := decide_eq_false a1
        clear a1
        have U := Up.refl w
        go_enter Tryd.func16, Tryd.ntmps16
        go_wp2_with fail
        refine (CF.out _).mono ?_
        rintro _ w9 ⟨rfl, h9⟩
        replace U := U.trans h9
        clear h9
        go_wp2_with fail
        refine (CO.out _).mono ?_
        rintro _ w10 ⟨rfl, h10⟩
        replace U := U.trans h10
        clear h10
        go_wp2_with fail
        obtain ⟨V11, hV11⟩ : ∃ V11, w10.alloc (.cells #[.int .i64 f.k, .int .i64 f.W, .int .i64 f.m, .int .i64 f.b, .int .u64 f.t, .int .u64 f.n, .int .u64 f.x] 29) = V11 := ⟨_, rfl⟩
        have uV11 : Up w10 V11 := by rw [← hV11]; first | exact (Up.refl _).alloc _ | exact ((Up.refl _).alloc _).alloc _ | exact (((Up.refl _).alloc _).alloc _).alloc _ | exact ((((Up.refl _).alloc _).alloc _).alloc _).alloc _ | ((repeat (refine Up.alloc ?_ _)); exact Up.refl _)
        have c : Bf V11 w10.heap.size 29 f := by rw [← hV11]; exact Bf.mk_ w10 f 29
        rw [hV11]
        clear hV11
        replace U := U.trans uV11
        clear uV11
        obtain ⟨c0, c1, c2, c3, c4, c5, c6⟩ := Bf.cs c
        have c7 := Bf.lt c
        simp only [Nat.zero_add] at c0 c1 c2 c3 c4 c5 c6 c7
        go_wp2_with fail
        clear c0 c1 c2 c3 c4 c5 c6 c7
        refine (rsign_any _ f OK.out S HS).mono ?_
        rintro _ w12 ⟨rfl, h12⟩
        replace c := c.up h12
        replace U := U.trans h12
        clear h12
        obtain ⟨c0, c1, c2, c3, c4, c5, c6⟩ := Bf.cs c
        have c7 := Bf.lt c
        simp only [Nat.zero_add] at c0 c1 c2 c3 c4 c5 c6 c7
        go_wp2_with fail
        clear c0 c1 c2 c3 c4 c5 c6 c7
        go_ret2
        exact ⟨rfl, U⟩
    ·
      have d2 : decide (S ≤ p) = true := decide_eq_true e1
      rcases hcn2 with ⟨a1, a2, rfl⟩ | ⟨a1, a2, rfl⟩ | ⟨a1, rfl⟩
      ·
        have d3 : decide (f.t < q) = true := decide_eq_true a1
        have d4 : (q != f.n) = true := by simpa using a2
        clear a1 a2
        have U := Up.refl w
        go_enter Tryd.func16, Tryd.ntmps16
        go_wp2_with fail
        refine (CF.out _).mono ?_
        rintro _ w13 ⟨rfl, h13⟩
        replace U := U.trans h13
        clear h13
        go_wp2_with fail
        refine (CO.out _).mono ?_
        rintro _ w14 ⟨rfl, h14⟩
        replace U := U.trans h14
        clear h14
        go_wp2_with fail
        obtain ⟨V15, hV15⟩ : ∃ V15, w14.alloc (.cells #[.int .i64 f.k, .int .i64 f.W, .int .i64 f.m, .int .i64 f.b, .int .u64 f.t, .int .u64 f.n, .int .u64 f.x] 29) = V15 := ⟨_, rfl⟩
        have uV15 : Up w14 V15 := by rw [← hV15]; first | exact (Up.refl _).alloc _ | exact ((Up.refl _).alloc _).alloc _ | exact (((Up.refl _).alloc _).alloc _).alloc _ | exact ((((Up.refl _).alloc _).alloc _).alloc _).alloc _ | ((repeat (refine Up.alloc ?_ _)); exact Up.refl _)
        have c : Bf V15 w14.heap.size 29 f := by rw [← hV15]; exact Bf.mk_ w14 f 29
        rw [hV15]
        clear hV15
        replace U := U.trans uV15
        clear uV15
        obtain ⟨c0, c1, c2, c3, c4, c5, c6⟩ := Bf.cs c
        have c7 := Bf.lt c
        simp only [Nat.zero_add] at c0 c1 c2 c3 c4 c5 c6 c7
        go_wp2_with fail
        clear c0 c1 c2 c3 c4 c5 c6 c7
        refine (rsign_any _ f OK.out S HS).mono ?_
        rintro _ w16 ⟨rfl, h16⟩
        replace c := c.up h16
        replace U := U.trans h16
        clear h16
        obtain ⟨c0, c1, c2, c3, c4, c5, c6⟩ := Bf.cs c
        have c7 := Bf.lt c
        simp only [Nat.zero_add] at c0 c1 c2 c3 c4 c5 c6 c7
        go_wp2_with fail
        clear c0 c1 c2 c3 c4 c5 c6 c7
        refine (rsign_any _ f OK.out S HS).mono ?_
        rintro _ w17 ⟨rfl, h17⟩
        replace c := c.up h17
        replace U := U.trans h17
        clear h17
        obtain ⟨c0, c1, c2, c3, c4, c5, c6⟩ := Bf.cs c
        have c7 := Bf.lt c
        simp only [Nat.zero_add] at c0 c1 c2 c3 c4 c5 c6 c7
        go_wp2_with fail
        clear c0 c1 c2 c3 c4 c5 c6 c7
        go_ret2
        exact ⟨rfl, U⟩
      ·
        have d3 : decide (f.t < q) = true := decide_eq_true a1
        have d4 : (q != f.n) = false := by simp [a2]
        clear a1 a2
        have U := Up.refl w
        go_enter Tryd.func16, Tryd.ntmps16
        go_wp2_with fail
        refine (CF.out _).mono ?_
        rintro _ w18 ⟨rfl, h18⟩
        replace U := U.trans h18
        clear h18
        go_wp2_with fail
        refine (CO.out _).mono ?_
        rintro _ w19 ⟨rfl, h19⟩
        replace U := U.trans h19
        clear h19
        go_wp2_with fail
        obtain ⟨V20, hV20⟩ : ∃ V20, w19.alloc (.cells #[.int .i64 f.k, .int .i64 f.W, .int .i64 f.m, .int .i64 f.b, .int .u64 f.t, .int .u64 f.n, .int .u64 f.x] 29) = V20 := ⟨_, rfl⟩
        have uV20 : Up w19 V20 := by rw [← hV20]; first | exact (Up.refl _).alloc _ | exact ((Up.refl _).alloc _).alloc _ | exact (((Up.refl _).alloc _).alloc _).alloc _ | exact ((((Up.refl _).alloc _).alloc _).alloc _).alloc _ | ((repeat (refine Up.alloc ?_ _)); exact Up.refl _)
        have c : Bf V20 w19.heap.size 29 f := by rw [← hV20]; exact Bf.mk_ w19 f 29
        rw [hV20]
        clear hV20
        replace U := U.trans uV20
        clear uV20
        obtain ⟨c0, c1, c2, c3, c4, c5, c6⟩ := Bf.cs c
        have c7 := Bf.lt c
        simp only [Nat.zero_add] at c0 c1 c2 c3 c4 c5 c6 c7
        go_wp2_with fail
        clear c0 c1 c2 c3 c4 c5 c6 c7
        refine (rsign_any _ f OK.out S HS).mono ?_
        rintro _ w21 ⟨rfl, h21⟩
        replace c := c.up h21
        replace U := U.trans h21
        clear h21
        obtain ⟨c0, c1, c2, c3, c4, c5, c6⟩ := Bf.cs c
        have c7 := Bf.lt c
        simp only [Nat.zero_add] at c0 c1 c2 c3 c4 c5 c6 c7
        go_wp2_with fail
        clear c0 c1 c2 c3 c4 c5 c6 c7
        refine (rsign_any _ f OK.out S HS).mono ?_
        rintro _ w22 ⟨rfl, h22⟩
        replace c := c.up h22
        replace U := U.trans h22
        clear h22
        obtain ⟨c0, c1, c2, c3, c4, c5, c6⟩ := Bf.cs c
        have c7 := Bf.lt c
        simp only [Nat.zero_add] at c0 c1 c2 c3 c4 c5 c6 c7
        go_wp2_with fail
        clear c0 c1 c2 c3 c4 c5 c6 c7
        go_ret2
        exact ⟨rfl, U⟩
      ·
        have d3 : decide (f.t < q) = false := decide_eq_false a1
        clear a1
        have U := Up.refl w
        go_enter Tryd.func16, Tryd.ntmps16
        go_wp2_with fail
        refine (CF.out _).mono ?_
        rintro _ w23 ⟨rfl, h23⟩
        replace U := U.trans h23
        clear h23
        go_wp2_with fail
        refine (CO.out _).mono ?_
        rintro _ w24 ⟨rfl, h24⟩
        replace U := U.trans h24
        clear h24
        go_wp2_with fail
        obtain ⟨V25, hV25⟩ : ∃ V25, w24.alloc (.cells #[.int .i64 f.k, .int .i64 f.W, .int .i64 f.m, .int .i64 f.b, .int .u64 f.t, .int .u64 f.n, .int .u64 f.x] 29) = V25 := ⟨_, rfl⟩
        have uV25 : Up w24 V25 := by rw [← hV25]; first | exact (Up.refl _).alloc _ | exact ((Up.refl _).alloc _).alloc _ | exact (((Up.refl _).alloc _).alloc _).alloc _ | exact ((((Up.refl _).alloc _).alloc _).alloc _).alloc _ | ((repeat (refine Up.alloc ?_ _)); exact Up.refl _)
        have c : Bf V25 w24.heap.size 29 f := by rw [← hV25]; exact Bf.mk_ w24 f 29
        rw [hV25]
        clear hV25
        replace U := U.trans uV25
        clear uV25
        obtain ⟨c0, c1, c2, c3, c4, c5, c6⟩ := Bf.cs c
        have c7 := Bf.lt c
        simp only [Nat.zero_add] at c0 c1 c2 c3 c4 c5 c6 c7
        go_wp2_with fail
        clear c0 c1 c2 c3 c4 c5 c6 c7
        refine (rsign_any _ f OK.out S HS).mono ?_
        rintro _ w26 ⟨rfl, h26⟩
        replace c := c.up h26
        replace U := U.trans h26
        clear h26
        obtain ⟨c0, c1, c2, c3, c4, c5, c6⟩ := Bf.cs c
        have c7 := Bf.lt c
        simp only [Nat.zero_add] at c0 c1 c2 c3 c4 c5 c6 c7
        go_wp2_with fail
        clear c0 c1 c2 c3 c4 c5 c6 c7
        refine (rsign_any _ f OK.out S HS).mono ?_
        rintro _ w27 ⟨rfl, h27⟩
        replace c := c.up h27
        replace U := U.trans h27
        clear h27
        obtain ⟨c0, c1, c2, c3, c4, c5, c6⟩ := Bf.cs c
        have c7 := Bf.lt c
        simp only [Nat.zero_add] at c0 c1 c2 c3 c4 c5 c6 c7
        go_wp2_with fail
        clear c0 c1 c2 c3 c4 c5 c6 c7
        go_ret2
        exact ⟨rfl, U⟩
  · have d : (f.k == 2) = false := by simpa using hk
    rw [if_neg (fun h => hk h.1)] at hcn
    subst hcn
    clear hq hS hm ok hp hk HE HF h1 h2
    have U := Up.refl w
    go_enter Tryd.func16, Tryd.ntmps16
    go_wp2_with fail
    refine (CF.out _).mono ?_
    rintro _ w28 ⟨rfl, h28⟩
    replace U := U.trans h28
    clear h28
    go_wp2_with fail
    refine (CO.out _).mono ?_
    rintro _ w29 ⟨rfl, h29⟩
    replace U := U.trans h29
    clear h29
    go_wp2_with fail
    obtain ⟨V30, hV30⟩ : ∃ V30, w29.alloc (.cells #[.int .i64 f.k, .int .i64 f.W, .int .i64 f.m, .int .i64 f.b, .int .u64 f.t, .int .u64 f.n, .int .u64 f.x] 29) = V30 := ⟨_, rfl⟩
    have uV30 : Up w29 V30 := by rw [← hV30]; first | exact (Up.refl _).alloc _ | exact ((Up.refl _).alloc _).alloc _ | exact (((Up.refl _).alloc _).alloc _).alloc _ | exact ((((Up.refl _).alloc _).alloc _).alloc _).alloc _ | ((repeat (refine Up.alloc ?_ _)); exact Up.refl _)
    have c : Bf V30 w29.heap.size 29 f := by rw [← hV30]; exact Bf.mk_ w29 f 29
    rw [hV30]
    clear hV30
    replace U := U.trans uV30
    clear uV30
    obtain ⟨c0, c1, c2, c3, c4, c5, c6⟩ := Bf.cs c
    have c7 := Bf.lt c
    simp only [Nat.zero_add] at c0 c1 c2 c3 c4 c5 c6 c7
    go_wp2_with fail
    clear c0 c1 c2 c3 c4 c5 c6 c7
    go_ret2
    exact ⟨rfl, U⟩
end Go.Proofs.YtekmlhgnfjgebaaDoor
