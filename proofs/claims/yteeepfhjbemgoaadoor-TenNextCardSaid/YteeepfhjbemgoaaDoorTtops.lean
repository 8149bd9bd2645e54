/-
  What each law of layer 3 shows first; TenTops, TenProducts, TenCut: true, and nothing that was there has turned.
-/
import Derived.Test.YteeepfhjbemgoaaDoorTn1
namespace Go.Proofs.YteeepfhjbemgoaaDoor
open Go.RowKit Go.Shelf

theorem dd_1000 : (⟨(Lib.decDigits (10 ^ 3)).toArray⟩ : ByteArray) = ⟨#[49, 48, 48, 48]⟩ := by simp [Lib.decDigits]
theorem dd_1 : (⟨(Lib.decDigits (5 ^ 0)).toArray⟩ : ByteArray) = ⟨#[49]⟩ := by simp [Lib.decDigits]
/-- True, and nothing that was there has turned. -/
theorem M.sig_parts {k : Int} (h1 : -400 ≤ k) (h2 : k ≤ 400) : ∃ (hi lo : Nat) (e : Int), M.lg2 k = e + 127 ∧ -1456 ≤ e ∧ e ≤ 1202 ∧ M.sig k / 18446744073709551616 = hi ∧ M.sig k % 18446744073709551616 = lo ∧ 9223372036854775808 ≤ hi ∧ hi < 18446744073709551616 ∧ lo < 18446744073709551616 ∧ lo + 18446744073709551616 * hi = M.sig k := by
  have r := M.lg_rng400 h1 h2
  obtain ⟨a, b⟩ := M.sig_rng (k := k) (by omega) (by omega)
  refine ⟨_, _, M.lg2 k - 127, by omega, by omega, by omega, rfl, rfl, ?_, ?_, by omega, by omega⟩
  · have : (2 : Nat) ^ 127 = 170141183460469231731687303715884105728 := by decide
    omega
  · have : (2 : Nat) ^ 128 = 340282366920938463463374607431768211456 := by decide
    omega

set_option maxHeartbeats 4000000 in
set_option maxRecDepth 100000 in
theorem tshown_any (w : World) (hTW : TabW w) : Calls Tryd.prog 38 #[] w (True_ w) := by
  have U := Up.refl w
  go_enter Tryd.func38, Tryd.ntmps38
  go_wp2_with fail
  refine (sig_any _ 1 (-124) (by omega) (by omega) (by show _ = _; decide +kernel) 11529215046068469760 0 (by show _ = _; decide +kernel) (by show _ = _; decide +kernel)).mono ?_
  rintro _ w1 ⟨rfl, h1⟩
  replace U := U.trans h1
  clear h1
  go_wp2_with fail
  refine (sig_any _ (-1) (-131) (by omega) (by omega) (by show _ = _; decide +kernel) 14757395258967641292 14757395258967641292 (by show _ = _; decide +kernel) (by show _ = _; decide +kernel)).mono ?_
  rintro _ w2 ⟨rfl, h2⟩
  replace U := U.trans h2
  clear h2
  go_wp2_with fail
  refine (sig_out _ 401 (.inr (by omega))).mono ?_
  rintro _ w3 ⟨rfl, h3⟩
  replace U := U.trans h3
  clear h3
  go_wp2_with fail
  refine (sig_any _ 0 (-127) (by omega) (by omega) (by show _ = _; decide +kernel) 9223372036854775808 0 (by show _ = _; decide +kernel) (by show _ = _; decide +kernel)).mono ?_
  rintro _ w4 ⟨rfl, h4⟩
  replace U := U.trans h4
  clear h4
  go_wp2_with fail
  refine (lg10_call _ 10 3 (by show _ = _; decide +kernel)).mono ?_
  rintro _ _ ⟨rfl, rfl⟩
  go_wp2_with fail
  refine (lg10_call _ (-1) (-1) (by show _ = _; decide +kernel)).mono ?_
  rintro _ _ ⟨rfl, rfl⟩
  go_wp2_with fail
  refine (lg2_call _ 1 3 (by show _ = _; decide +kernel)).mono ?_
  rintro _ _ ⟨rfl, rfl⟩
  go_wp2_with fail
  refine (lg2_call _ (-1) (-4) (by show _ = _; decide +kernel)).mono ?_
  rintro _ _ ⟨rfl, rfl⟩
  go_wp2_with fail
  refine (pow10_call _ 3 3 (by show _ = _; omega)).mono ?_
  rintro _ w9 ⟨vp, rfl, np, h9⟩
  replace U := U.trans h9
  clear h9
  go_wp2_with fail
  refine (text_of _ _ _ _ _ np.nw (by omega) (hTW.up U) _ dd_1000).mono ?_
  rintro _ w10 ⟨rfl, h10⟩
  replace np := np.up h10
  replace U := U.trans h10
  clear h10
  clear np
  go_wp2_with fail
  refine (pow5_call _ (-3) 0 (by show _ = _; omega)).mono ?_
  rintro _ w11 ⟨vq, rfl, nq, h11⟩
  replace U := U.trans h11
  clear h11
  go_wp2_with fail
  refine (text_of _ _ _ _ _ nq.nw (by omega) (hTW.up U) _ dd_1).mono ?_
  rintro _ w12 ⟨rfl, h12⟩
  replace nq := nq.up h12
  replace U := U.trans h12
  clear h12
  clear nq
  go_wp2_with fail
  go_ret
  exact ⟨rfl, U⟩
set_option maxHeartbeats 4000000 in
set_option maxRecDepth 100000 in
theorem tops_walk (w : World) (hTW : TabW w) (x0 : Int) (_wx0 : (Lit.int .i64 x0).wf = true) :
    Calls Tryd.prog 14 #[.int .i64 x0] w (True_ w) := by
  obtain ⟨k, hk, k1, k2⟩ := tmod_rng_of x0 401 (by omega)
  have Hk := Lib.hid hk
  have HK := Lib.hid hk
  clear hk
  obtain ⟨hi, lo, e, q1, q2, q3, q4, q5, q6, q7, q8, q9⟩ := M.sig_parts (k := k) (by omega) (by omega)
  have Q1 := Lib.hid q1
  have Q4 := Lib.hid q4
  have Q5 := Lib.hid q5
  have Q9 := Lib.hid q9
  clear q1 q4 q5 q9
  have E63 : (hi : Int) / 2 ^ 63 = 1 := by omega
  have E63' : (hi : Int) / 9223372036854775808 = 1 := by omega
  have HE : Hid (M.lg2 (max (-5000) (min k 5000)) = e + 127) := by rw [show max (-5000) (min k 5000) = k by omega]; exact Q1
  have hkk : x0.tmod 401 = k := HK.out
  rcases (show k < 0 ∨ (0 ≤ k ∧ 38 < k) ∨ (0 ≤ k ∧ k ≤ 38) by omega) with h | ⟨h, h'⟩ | ⟨h, h'⟩
  · have d1 : decide (k < 0) = true := decide_eq_true h
    have U := Up.refl w
    go_enter Tryd.func14, Tryd.ntmps14
    go_wp2_with fail
    refine (tshown_any _ (hTW.up U)).mono ?_
    rintro _ w1 ⟨rfl, h1⟩
    replace U := U.trans h1
    clear h1
    go_wp2_with fail
    refine (sig_any _ k e (by omega) (by omega) Q1 hi lo Q4 Q5).mono ?_
    rintro _ w2 ⟨rfl, h2⟩
    replace U := U.trans h2
    clear h2
    clear hkk
    go_wp2_with fail
    refine (lg2_call _ k (e + 127) HE).mono ?_
    rintro _ _ ⟨rfl, rfl⟩
    go_wp2_with fail
    go_ret
    exact ⟨rfl, U⟩
  · have d1 : decide (k < 0) = false := decide_eq_false (by omega)
    have d2 : decide (38 < k) = true := decide_eq_true h'
    have U := Up.refl w
    go_enter Tryd.func14, Tryd.ntmps14
    go_wp2_with fail
    refine (tshown_any _ (hTW.up U)).mono ?_
    rintro _ w1 ⟨rfl, h1⟩
    replace U := U.trans h1
    clear h1
    go_wp2_with fail
    refine (sig_any _ k e (by omega) (by omega) Q1 hi lo Q4 Q5).mono ?_
    rintro _ w2 ⟨rfl, h2⟩
    replace U := U.trans h2
    clear h2
    clear hkk
    go_wp2_with fail
    refine (lg2_call _ k (e + 127) HE).mono ?_
    rintro _ _ ⟨rfl, rfl⟩
    go_wp2_with fail
    go_ret
    exact ⟨rfl, U⟩
  · have d1 : decide (k < 0) = false := decide_eq_false (by omega)
    have d2 : decide (38 < k) = false := decide_eq_false (by omega)
    obtain ⟨N, hN⟩ : ∃ N, k.toNat = N := ⟨_, rfl⟩
    obtain ⟨N2, hN2⟩ : ∃ N, (-e).toNat = N := ⟨_, rfl⟩
    have P1 : Hid (max 0 (min k 5000) = (N : Int)) := by show _ = _; omega
    have P2 : Hid (max 0 (min (-e) 131072) = (N2 : Int)) := by show _ = _; omega
    have he0 : e ≤ 0 := by
      have := Q1.out
      unfold M.lg2 at this
      omega
    have HS : Hid (10 ^ N * 2 ^ N2 = M.sig k) := by
      show _ = _
      unfold M.sig M.sn M.sd
      rw [Q1.out, show 127 - (e + 127) = -e by omega, show (e + 127 - 127).toNat = 0 by omega, show (-k).toNat = 0 by omega, hN, hN2]
      simp only [Nat.pow_zero, Nat.mul_one, Nat.div_one]
    have BN : N ≤ 38 ∧ N2 ≤ 2000 := by omega
    have HL : Hid (M.cmp 1 (M.sig k) = -1) := by
      show _ = _
      rw [← Q9.out]
      exact M.cmp_lt (by omega)
    clear hN hN2 he0
    have U := Up.refl w
    go_enter Tryd.func14, Tryd.ntmps14
    go_wp2_with fail
    refine (tshown_any _ (hTW.up U)).mono ?_
    rintro _ w1 ⟨rfl, h1⟩
    replace U := U.trans h1
    clear h1
    go_wp2_with fail
    refine (sig_any _ k e (by omega) (by omega) Q1 hi lo Q4 Q5).mono ?_
    rintro _ w2 ⟨rfl, h2⟩
    replace U := U.trans h2
    clear h2
    clear hkk
    go_wp2_with fail
    refine (lg2_call _ k (e + 127) HE).mono ?_
    rintro _ _ ⟨rfl, rfl⟩
    go_wp2_with fail
    obtain ⟨V4, hV4⟩ : ∃ V4, w2.alloc (.cells #[.int .u64 (lo : Int), .int .u64 (hi : Int)] 41) = V4 := ⟨_, rfl⟩
    have uV4 : Up w2 V4 := by rw [← hV4]; first | exact (Up.refl _).alloc _ | exact ((Up.refl _).alloc _).alloc _ | exact (((Up.refl _).alloc _).alloc _).alloc _ | exact ((((Up.refl _).alloc _).alloc _).alloc _).alloc _
    have nl : Nw V4 w2.heap.size 2 (.slice (some ⟨w2.heap.size, 0, none⟩) 2 2) (M.sig k) := by rw [← hV4]; exact lit2 w2 lo hi (M.sig k) _ _ rfl rfl (by omega) (by omega) Q9.out
    rw [hV4]
    clear hV4
    replace U := U.trans uV4
    clear uV4
    refine (norm_any _ _ _ _ _ nl).mono ?_
    rintro _ w5 ⟨vp, rfl, np, h5⟩
    replace nl := nl.up h5
    replace U := U.trans h5
    clear h5
    clear nl
    go_wp2_with fail
    refine (pow10_call _ k N P1).mono ?_
    rintro _ w6 ⟨va, rfl, na, h6⟩
    replace np := np.up h6
    replace U := U.trans h6
    clear h6
    go_wp2_with fail
    refine (shl_any _ _ _ _ _ na.nw (by omega) (-e) N2 P2.out).mono ?_
    rintro _ w7 ⟨vb, rfl, nb, h7⟩
    replace np := np.up h7
    replace na := na.up h7
    replace U := U.trans h7
    clear h7
    clear na
    go_wp2_with fail
    refine (cmp_same _ _ _ _ _ _ _ _ _ nb.nw np.nw HS.out).mono ?_
    rintro _ w8 ⟨rfl, kk, hk⟩
    have h8 : Up w7 w8 := by rw [hk]; exact (Up.refl _).drewN _
    clear hk
    replace np := np.up h8
    replace nb := nb.up h8
    replace U := U.trans h8
    clear h8
    clear nb
    go_wp2_with fail
    obtain ⟨V9, hV9⟩ : ∃ V9, w8.alloc (.cells #[.int .u64 1] 41) = V9 := ⟨_, rfl⟩
    have uV9 : Up w8 V9 := by rw [← hV9]; first | exact (Up.refl _).alloc _ | exact ((Up.refl _).alloc _).alloc _ | exact (((Up.refl _).alloc _).alloc _).alloc _ | exact ((((Up.refl _).alloc _).alloc _).alloc _).alloc _
    have n1 : Nw V9 w8.heap.size 1 (.slice (some ⟨w8.heap.size, 0, none⟩) 1 1) 1 := by rw [← hV9]; exact lit1 w8 1 1 rfl (by omega)
    rw [hV9]
    clear hV9
    replace np := np.up uV9
    replace U := U.trans uV9
    clear uV9
    refine (cmp_at _ _ _ _ _ _ _ _ _ _ n1 np.nw HL).mono ?_
    rintro _ w10 ⟨rfl, kk, hk⟩
    have h10 : Up V9 w10 := by rw [hk]; exact (Up.refl _).drewN _
    clear hk
    replace np := np.up h10
    replace n1 := n1.up h10
    replace U := U.trans h10
    clear h10
    go_wp2_with fail
    go_ret
    exact ⟨rfl, U⟩
end Go.Proofs.YteeepfhjbemgoaaDoor
