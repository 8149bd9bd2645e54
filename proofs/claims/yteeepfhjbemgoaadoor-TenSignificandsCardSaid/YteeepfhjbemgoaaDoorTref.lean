/-
  TenPowers, TenSignificands: true, and nothing that was there has turned.
-/
import Derived.Test.YteeepfhjbemgoaaDoorTtops
import Derived.Test.YteeepfhjbemgoaaDoorRef6
namespace Go.Proofs.YteeepfhjbemgoaaDoor
open Go.RowKit Go.Shelf

set_option maxHeartbeats 4000000 in
set_option maxRecDepth 100000 in
theorem powers_walk3 (w : World) (hTW : TabW w) (x0 : Int) (_wx0 : (Lit.int .i64 x0).wf = true) :
    Calls Tryd.prog 6 #[.int .i64 x0] w (True_ w) := by
  obtain ⟨n, hn, n1, n2⟩ := tmod_rng_of x0 1201 (by omega)
  have r : -4000 ≤ M.lg2 n ∧ M.lg2 n ≤ 4000 ∧ -400 ≤ M.lg10 n ∧ M.lg10 n ≤ 400 := by
    unfold M.lg2 M.lg10
    omega
  obtain ⟨k, hk⟩ : ∃ k, M.lg10 n = k := ⟨_, rfl⟩
  obtain ⟨e, he⟩ : ∃ k, M.lg2 n = k := ⟨_, rfl⟩
  rw [hk, he] at r
  have HK := Lib.hid hk
  have HE := Lib.hid he
  have Lk : Hid (M.lg10 (max (-5000) (min n 5000)) = k) := by rw [show max (-5000) (min n 5000) = n by omega]; exact hk
  have Le : Hid (M.lg2 (max (-5000) (min n 5000)) = e) := by rw [show max (-5000) (min n 5000) = n by omega]; exact he
  obtain ⟨N, hN⟩ : ∃ N, n.toNat = N := ⟨_, rfl⟩
  have PN : Hid (max 0 (min n 5000) = (N : Int)) := by show _ = _; omega
  have bN : N ≤ 1200 := by omega
  have d1 : decide (k < -400) = false := decide_eq_false (by omega)
  have d2 : decide (400 < k) = false := decide_eq_false (by omega)
  have d3 : decide (e < -4000) = false := decide_eq_false (by omega)
  have d4 : decide (4000 < e) = false := decide_eq_false (by omega)
  clear hk he hN
  have U := Up.refl w
  go_enter Tryd.func6, Tryd.ntmps6
  go_wp2_with fail
  refine (tshown_any _ (hTW.up U)).mono ?_
  rintro _ w1 ⟨rfl, h1⟩
  replace U := U.trans h1
  clear h1
  go_wp2_with fail
  clear hn
  refine (lg10_call _ n k Lk).mono ?_
  rintro _ _ ⟨rfl, rfl⟩
  go_wp2_with fail
  refine (lg2_call _ n e Le).mono ?_
  rintro _ _ ⟨rfl, rfl⟩
  go_wp2_with fail
  refine (pow10_call _ n N PN).mono ?_
  rintro _ w4 ⟨va, rfl, na, h4⟩
  replace U := U.trans h4
  clear h4
  go_wp2_with fail
  refine (rpow10_any _ n N PN).mono ?_
  rintro _ w5 ⟨vb, rfl, nb, h5⟩
  replace na := na.up h5
  replace U := U.trans h5
  clear h5
  go_wp2_with fail
  refine (cmp_same _ _ _ _ _ _ _ _ _ na.nw nb.nw rfl).mono ?_
  rintro _ w6 ⟨rfl, kk, hk⟩
  have h6 : Up w5 w6 := by rw [hk]; exact (Up.refl _).drewN _
  clear hk
  replace na := na.up h6
  replace nb := nb.up h6
  replace U := U.trans h6
  clear h6
  clear na
  clear nb
  go_wp2_with fail
  refine (pow5_call _ n N PN).mono ?_
  rintro _ w7 ⟨va, rfl, na, h7⟩
  replace U := U.trans h7
  clear h7
  go_wp2_with fail
  refine (rpow5_any _ n N PN).mono ?_
  rintro _ w8 ⟨vb, rfl, nb, h8⟩
  replace na := na.up h8
  replace U := U.trans h8
  clear h8
  go_wp2_with fail
  refine (cmp_same _ _ _ _ _ _ _ _ _ na.nw nb.nw rfl).mono ?_
  rintro _ w9 ⟨rfl, kk, hk⟩
  have h9 : Up w8 w9 := by rw [hk]; exact (Up.refl _).drewN _
  clear hk
  replace na := na.up h9
  replace nb := nb.up h9
  replace U := U.trans h9
  clear h9
  clear na
  clear nb
  go_wp2_with fail
  refine (rlog10_any _ n (by omega) (by omega) k HK).mono ?_
  rintro _ w10 ⟨rfl, h10⟩
  replace U := U.trans h10
  clear h10
  go_wp2_with fail
  refine (rlog2_any _ n (by omega) (by omega) e HE).mono ?_
  rintro _ w11 ⟨rfl, h11⟩
  replace U := U.trans h11
  clear h11
  go_wp2_with fail
  go_ret
  exact ⟨rfl, U⟩

set_option maxHeartbeats 4000000 in
set_option maxRecDepth 100000 in
theorem signif_walk (w : World) (hTW : TabW w) (x0 : Int) (_wx0 : (Lit.int .i64 x0).wf = true) :
    Calls Tryd.prog 7 #[.int .i64 x0] w (True_ w) := by
  obtain ⟨k, hk, k1, k2⟩ := tmod_rng_of x0 421 (by omega)
  by_cases h : k < -400 ∨ 400 < k
  · have U := Up.refl w
    go_enter Tryd.func7, Tryd.ntmps7
    go_wp2_with fail
    refine (tshown_any _ (hTW.up U)).mono ?_
    rintro _ w1 ⟨rfl, h1⟩
    replace U := U.trans h1
    clear h1
    go_wp2_with fail
    clear hk
    refine (sig_out _ k h).mono ?_
    rintro _ w2 ⟨rfl, h2⟩
    replace U := U.trans h2
    clear h2
    go_wp2_with fail
    refine (rsig_out _ k h).mono ?_
    rintro _ w3 ⟨rfl, h3⟩
    replace U := U.trans h3
    clear h3
    go_wp2_with fail
    go_ret
    exact ⟨rfl, U⟩
  · have h1 : -400 ≤ k := by omega
    have h2 : k ≤ 400 := by omega
    clear h
    obtain ⟨hi, lo, e, q1, q2, q3, q4, q5, q6, q7, q8, q9⟩ := M.sig_parts (k := k) h1 h2
    have Q1 := Lib.hid q1
    have Q4 := Lib.hid q4
    have Q5 := Lib.hid q5
    have Q9 := Lib.hid q9
    clear q1 q4 q5 q9
    have U := Up.refl w
    go_enter Tryd.func7, Tryd.ntmps7
    go_wp2_with fail
    refine (tshown_any _ (hTW.up U)).mono ?_
    rintro _ w1 ⟨rfl, h1⟩
    replace U := U.trans h1
    clear h1
    go_wp2_with fail
    clear hk
    refine (sig_any _ k e h1 h2 Q1 hi lo Q4 Q5).mono ?_
    rintro _ w2 ⟨rfl, h2⟩
    replace U := U.trans h2
    clear h2
    go_wp2_with fail
    refine (rsig_any _ k e h1 h2 hi lo Q1 q2 q3 q6 q7 q8 Q9).mono ?_
    rintro _ w3 ⟨rfl, h3⟩
    replace U := U.trans h3
    clear h3
    go_wp2_with fail
    go_ret
    exact ⟨rfl, U⟩
end Go.Proofs.YteeepfhjbemgoaaDoor
