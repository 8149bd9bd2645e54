/-
  TenProducts, TenCut, TenGoes, TenBits: true, and nothing that was there has turned.
-/
import Derived.Test.YteeepfhjbemgoaaDoorTtops
namespace Go.Proofs.YteeepfhjbemgoaaDoor
open Go.RowKit Go.Shelf

theorem and_16 (x : Int) : ∃ m : Nat, Go.bits BinOp.and IntKind.i64 x 65535 = (m : Int) ∧ m ≤ 65535 := by
  refine ⟨((BitVec.ofInt 64 x).toNat &&& 65535), ?_, ?_⟩
  · show IntKind.i64.wrap ((BitVec.ofInt 64 x &&& BitVec.ofInt 64 65535).toNat : Int) = _
    rw [BitVec.toNat_and, show (BitVec.ofInt 64 65535).toNat = 65535 from rfl]
    have : (BitVec.ofInt 64 x).toNat &&& 65535 ≤ 65535 := Nat.and_le_right
    exact IntWalk.i64_in _ (by omega)
  · exact Nat.and_le_right
/-- What 'x & 0xFFFF % n' comes to. -/
theorem few_16 (x : Int) (n : Nat) (hn : 0 < n) : ∃ m a : Nat, Go.bits BinOp.and IntKind.i64 x 65535 = (m : Int) ∧ m ≤ 65535 ∧ (m : Int).tmod n = (a : Int) ∧ (m : Int) % n = (a : Int) ∧ a < n := by
  obtain ⟨m, h1, h2⟩ := and_16 x
  refine ⟨m, m % n, h1, h2, ?_, by simp, Nat.mod_lt _ hn⟩
  rw [Int.tmod_eq_emod_of_nonneg (by omega)]
  simp
theorem pow_lit (w : World) (x N : Nat) (n X : Int) (hX : X = (x : Int)) (hx : x < 18446744073709551616) (hN : Hid (max 0 (min n 10000) = (N : Int))) :
    Calls Tryd.prog 52 #[.int .u64 X, .int .i64 n] w (Res (N + 1) (x ^ N) w) := by
  subst hX
  exact pow_any w x N n hx hN.out
theorem M.digits_pow : ∀ k, (Lib.decDigits (10 ^ k)).length = k + 1
  | 0 => by simp [Lib.decDigits]
  | k + 1 => by
    have h : 0 < 10 ^ k := Nat.pow_pos (by omega)
    rw [Nat.pow_succ, Lib.decDigits, dif_neg (by omega), List.length_append, show 10 ^ k * 10 / 10 = 10 ^ k by omega, M.digits_pow k]
    simp

set_option maxHeartbeats 4000000 in
set_option maxRecDepth 100000 in
theorem products_walk (w : World) (hTW : TabW w) (x0 : Int) (_wx0 : (Lit.int .i64 x0).wf = true) (x1 : Int) (_wx1 : (Lit.int .i64 x1).wf = true) :
    Calls Tryd.prog 13 #[.int .i64 x0, .int .i64 x1] w (True_ w) := by
  obtain ⟨ma, a, hma, bma, ta, ra, ba⟩ := few_16 x0 801 (by omega)
  simp only [Int.cast_ofNat_Int] at ta ra
  obtain ⟨mb, b, hmb, bmb, tb, rb, bb⟩ := few_16 x1 801 (by omega)
  simp only [Int.cast_ofNat_Int] at tb rb
  have e1 : Hid (10 ^ a * 10 ^ b = 10 ^ (a + b)) := (Nat.pow_add _ _ _).symm
  have e2 : Hid (5 ^ a * 2 ^ a = 10 ^ a) := (M.ten_split a).symm
  have U := Up.refl w
  go_enter Tryd.func13, Tryd.ntmps13
  go_wp2_with fail
  refine (tshown_any _ (hTW.up U)).mono ?_
  rintro _ w1 ⟨rfl, h1⟩
  replace U := U.trans h1
  clear h1
  go_wp2_with fail
  refine (pow10_call _ (a : Int) a (by show _ = _; omega)).mono ?_
  rintro _ w2 ⟨va, rfl, na, h2⟩
  replace U := U.trans h2
  clear h2
  go_wp2_with fail
  refine (pow10_call _ (b : Int) b (by show _ = _; omega)).mono ?_
  rintro _ w3 ⟨vb, rfl, nb, h3⟩
  replace na := na.up h3
  replace U := U.trans h3
  clear h3
  go_wp2_with fail
  refine (mul_any _ _ _ _ _ _ _ _ _ na.nw nb.nw (by omega) (by omega)).mono ?_
  rintro _ w4 ⟨vc, rfl, nc, h4⟩
  replace na := na.up h4
  replace nb := nb.up h4
  replace U := U.trans h4
  clear h4
  clear na
  clear nb
  go_wp2_with fail
  refine (pow10_call _ ((a : Int) + (b : Int)) (a + b) (by show _ = _; omega)).mono ?_
  rintro _ w5 ⟨vd, rfl, nd, h5⟩
  replace nc := nc.up h5
  replace U := U.trans h5
  clear h5
  go_wp2_with fail
  refine (cmp_same _ _ _ _ _ _ _ _ _ nc.nw nd.nw e1.out).mono ?_
  rintro _ w6 ⟨rfl, kk, hk⟩
  have h6 : Up w5 w6 := by rw [hk]; exact (Up.refl _).drewN _
  clear hk
  replace nc := nc.up h6
  replace nd := nd.up h6
  replace U := U.trans h6
  clear h6
  clear nc
  clear nd
  go_wp2_with fail
  refine (pow5_call _ (a : Int) a (by show _ = _; omega)).mono ?_
  rintro _ w7 ⟨ve, rfl, ne, h7⟩
  replace U := U.trans h7
  clear h7
  go_wp2_with fail
  refine (pow_lit _ 2 a (a : Int) _ rfl (by omega) (by show _ = _; omega)).mono ?_
  rintro _ w8 ⟨vf, rfl, nf, h8⟩
  replace ne := ne.up h8
  replace U := U.trans h8
  clear h8
  go_wp2_with fail
  refine (mul_any _ _ _ _ _ _ _ _ _ ne.nw nf.nw (by omega) (by omega)).mono ?_
  rintro _ w9 ⟨vg, rfl, ng, h9⟩
  replace ne := ne.up h9
  replace nf := nf.up h9
  replace U := U.trans h9
  clear h9
  clear ne
  clear nf
  go_wp2_with fail
  refine (pow10_call _ (a : Int) a (by show _ = _; omega)).mono ?_
  rintro _ w10 ⟨vh, rfl, nh, h10⟩
  replace ng := ng.up h10
  replace U := U.trans h10
  clear h10
  go_wp2_with fail
  refine (cmp_same _ _ _ _ _ _ _ _ _ ng.nw nh.nw e2.out).mono ?_
  rintro _ w11 ⟨rfl, kk, hk⟩
  have h11 : Up w10 w11 := by rw [hk]; exact (Up.refl _).drewN _
  clear hk
  replace ng := ng.up h11
  replace nh := nh.up h11
  replace U := U.trans h11
  clear h11
  go_wp2_with fail
  go_ret
  exact ⟨rfl, U⟩

set_option maxHeartbeats 4000000 in
set_option maxRecDepth 100000 in
theorem cut_walk (w : World) (hTW : TabW w) (x0 : Int) (_wx0 : (Lit.int .i64 x0).wf = true) :
    Calls Tryd.prog 10 #[.int .i64 x0] w (True_ w) := by
  rcases (show (-5000 ≤ x0 ∧ x0 ≤ 5000) ∨ 5000 < x0 ∨ x0 < -5000 by omega) with ⟨h, h'⟩ | h | h
  · have d1 : decide (-5000 ≤ x0) = true := decide_eq_true h
    have d2 : decide (x0 ≤ 5000) = true := decide_eq_true h'
    have U := Up.refl w
    go_enter Tryd.func10, Tryd.ntmps10
    go_wp2_with fail
    refine (tshown_any _ (hTW.up U)).mono ?_
    rintro _ w1 ⟨rfl, h1⟩
    replace U := U.trans h1
    clear h1
    go_wp2_with fail
    go_ret
    exact ⟨rfl, U⟩
  · have d1 : decide (-5000 ≤ x0) = true := decide_eq_true (by omega)
    have d2 : decide (x0 ≤ 5000) = false := decide_eq_false (by omega)
    have d3 : decide (x0 < 0) = false := decide_eq_false (by omega)
    have d4 : decide (0 < x0) = true := decide_eq_true (by omega)
    obtain ⟨N, hN⟩ : ∃ N : Nat, N = 5000 := ⟨_, rfl⟩
    have P1 : Hid (max 0 (min x0 5000) = (N : Int)) := by show _ = _; omega
    have P2 : Hid (max 0 (min 5000 5000) = (N : Int)) := by show _ = _; omega
    have BN : N ≤ 5000 := by omega
    have L1 : Hid (M.lg10 (max (-5000) (min x0 5000)) = 1505) := by rw [show max (-5000) (min x0 5000) = 5000 by omega]; show _ = _; decide +kernel
    have L2 : Hid (M.lg10 (max (-5000) (min 5000 5000)) = 1505) := by show _ = _; decide +kernel
    have L3 : Hid (M.lg2 (max (-5000) (min x0 5000)) = 16609) := by rw [show max (-5000) (min x0 5000) = 5000 by omega]; show _ = _; decide +kernel
    have L4 : Hid (M.lg2 (max (-5000) (min 5000 5000)) = 16609) := by show _ = _; decide +kernel
    have E1 : Hid (10 ^ N = 1) ∨ N ≠ 0 := by
      rcases Nat.eq_zero_or_pos N with h0 | h0
      · exact .inl (by show _ = _; rw [h0, Nat.pow_zero])
      · exact .inr (by omega)
    obtain ⟨z5, hz5⟩ : ∃ z : Int, ((M.bits (5 ^ N) : Nat) : Int) = z := ⟨_, rfl⟩
    obtain ⟨z6, hz6⟩ : ∃ z : Int, ((M.bits (10 ^ N) : Nat) : Int) = z := ⟨_, rfl⟩
    have Z5 := Lib.hid hz5
    have Z6 := Lib.hid hz6
    clear hz5 hz6
    clear E1 hN
    have U := Up.refl w
    go_enter Tryd.func10, Tryd.ntmps10
    go_wp2_with fail
    refine (tshown_any _ (hTW.up U)).mono ?_
    rintro _ w1 ⟨rfl, h1⟩
    replace U := U.trans h1
    clear h1
    go_wp2_with fail
    refine (sig_out _ x0 (by omega)).mono ?_
    rintro _ w2 ⟨rfl, h2⟩
    replace U := U.trans h2
    clear h2
    go_wp2_with fail
    refine (lg10_call _ x0 1505 L1).mono ?_
    rintro _ _ ⟨rfl, rfl⟩
    go_wp2_with fail
    refine (lg10_call _ 5000 1505 L2).mono ?_
    rintro _ _ ⟨rfl, rfl⟩
    go_wp2_with fail
    refine (lg2_call _ x0 16609 L3).mono ?_
    rintro _ _ ⟨rfl, rfl⟩
    go_wp2_with fail
    refine (lg2_call _ 5000 16609 L4).mono ?_
    rintro _ _ ⟨rfl, rfl⟩
    go_wp2_with fail
    refine (pow5_call _ x0 N P1).mono ?_
    rintro _ w7 ⟨va, rfl, na, h7⟩
    replace U := U.trans h7
    clear h7
    go_wp2_with fail
    refine (bits_at2 _ _ _ _ _ _ na.nw Z5).mono ?_
    rintro _ _ ⟨rfl, rfl⟩
    clear na
    go_wp2_with fail
    refine (pow5_call _ 5000 N P2).mono ?_
    rintro _ w9 ⟨va, rfl, na, h9⟩
    replace U := U.trans h9
    clear h9
    go_wp2_with fail
    refine (bits_at2 _ _ _ _ _ _ na.nw Z5).mono ?_
    rintro _ _ ⟨rfl, rfl⟩
    clear na
    go_wp2_with fail
    refine (pow10_call _ x0 N P1).mono ?_
    rintro _ w11 ⟨va, rfl, na, h11⟩
    replace U := U.trans h11
    clear h11
    go_wp2_with fail
    refine (bits_at2 _ _ _ _ _ _ na.nw Z6).mono ?_
    rintro _ _ ⟨rfl, rfl⟩
    clear na
    go_wp2_with fail
    refine (pow10_call _ 5000 N P2).mono ?_
    rintro _ w13 ⟨va, rfl, na, h13⟩
    replace U := U.trans h13
    clear h13
    go_wp2_with fail
    refine (bits_at2 _ _ _ _ _ _ na.nw Z6).mono ?_
    rintro _ _ ⟨rfl, rfl⟩
    clear na
    go_wp2_with fail
    go_ret
    exact ⟨rfl, U⟩
  · have d1 : decide (-5000 ≤ x0) = false := decide_eq_false (by omega)
    have d3 : decide (x0 < 0) = true := decide_eq_true (by omega)
    have d4 : decide (0 < x0) = false := decide_eq_false (by omega)
    obtain ⟨N, hN⟩ : ∃ N : Nat, N = 0 := ⟨_, rfl⟩
    have P1 : Hid (max 0 (min x0 5000) = (N : Int)) := by show _ = _; omega
    have P2 : Hid (max 0 (min (-5000) 5000) = (N : Int)) := by show _ = _; omega
    have BN : N ≤ 5000 := by omega
    have L1 : Hid (M.lg10 (max (-5000) (min x0 5000)) = (-1506)) := by rw [show max (-5000) (min x0 5000) = (-5000) by omega]; show _ = _; decide +kernel
    have L2 : Hid (M.lg10 (max (-5000) (min (-5000) 5000)) = (-1506)) := by show _ = _; decide +kernel
    have L3 : Hid (M.lg2 (max (-5000) (min x0 5000)) = (-16610)) := by rw [show max (-5000) (min x0 5000) = (-5000) by omega]; show _ = _; decide +kernel
    have L4 : Hid (M.lg2 (max (-5000) (min (-5000) 5000)) = (-16610)) := by show _ = _; decide +kernel
    have E1 : Hid (10 ^ N = 1) ∨ N ≠ 0 := by
      rcases Nat.eq_zero_or_pos N with h0 | h0
      · exact .inl (by show _ = _; rw [h0, Nat.pow_zero])
      · exact .inr (by omega)
    obtain ⟨z5, hz5⟩ : ∃ z : Int, ((M.bits (5 ^ N) : Nat) : Int) = z := ⟨_, rfl⟩
    obtain ⟨z6, hz6⟩ : ∃ z : Int, ((M.bits (10 ^ N) : Nat) : Int) = z := ⟨_, rfl⟩
    have Z5 := Lib.hid hz5
    have Z6 := Lib.hid hz6
    clear hz5 hz6
    have E2 : Hid (10 ^ N = 1) := by
      rcases E1 with h | h
      · exact h
      · exact absurd hN h
    clear E1 hN
    have U := Up.refl w
    go_enter Tryd.func10, Tryd.ntmps10
    go_wp2_with fail
    refine (tshown_any _ (hTW.up U)).mono ?_
    rintro _ w1 ⟨rfl, h1⟩
    replace U := U.trans h1
    clear h1
    go_wp2_with fail
    refine (sig_out _ x0 (by omega)).mono ?_
    rintro _ w2 ⟨rfl, h2⟩
    replace U := U.trans h2
    clear h2
    go_wp2_with fail
    refine (lg10_call _ x0 (-1506) L1).mono ?_
    rintro _ _ ⟨rfl, rfl⟩
    go_wp2_with fail
    refine (lg10_call _ (-5000) (-1506) L2).mono ?_
    rintro _ _ ⟨rfl, rfl⟩
    go_wp2_with fail
    refine (lg2_call _ x0 (-16610) L3).mono ?_
    rintro _ _ ⟨rfl, rfl⟩
    go_wp2_with fail
    refine (lg2_call _ (-5000) (-16610) L4).mono ?_
    rintro _ _ ⟨rfl, rfl⟩
    go_wp2_with fail
    refine (pow5_call _ x0 N P1).mono ?_
    rintro _ w7 ⟨va, rfl, na, h7⟩
    replace U := U.trans h7
    clear h7
    go_wp2_with fail
    refine (bits_at2 _ _ _ _ _ _ na.nw Z5).mono ?_
    rintro _ _ ⟨rfl, rfl⟩
    clear na
    go_wp2_with fail
    refine (pow5_call _ (-5000) N P2).mono ?_
    rintro _ w9 ⟨va, rfl, na, h9⟩
    replace U := U.trans h9
    clear h9
    go_wp2_with fail
    refine (bits_at2 _ _ _ _ _ _ na.nw Z5).mono ?_
    rintro _ _ ⟨rfl, rfl⟩
    clear na
    go_wp2_with fail
    refine (pow10_call _ x0 N P1).mono ?_
    rintro _ w11 ⟨va, rfl, na, h11⟩
    replace U := U.trans h11
    clear h11
    go_wp2_with fail
    refine (bits_at2 _ _ _ _ _ _ na.nw Z6).mono ?_
    rintro _ _ ⟨rfl, rfl⟩
    clear na
    go_wp2_with fail
    refine (pow10_call _ (-5000) N P2).mono ?_
    rintro _ w13 ⟨va, rfl, na, h13⟩
    replace U := U.trans h13
    clear h13
    go_wp2_with fail
    refine (bits_at2 _ _ _ _ _ _ na.nw Z6).mono ?_
    rintro _ _ ⟨rfl, rfl⟩
    clear na
    go_wp2_with fail
    refine (pow10_call _ x0 N P1).mono ?_
    rintro _ w15 ⟨va, rfl, na, h15⟩
    replace U := U.trans h15
    clear h15
    go_wp2_with fail
    obtain ⟨V16, hV16⟩ : ∃ V16, w15.alloc (.cells #[.int .u64 1] 41) = V16 := ⟨_, rfl⟩
    have uV16 : Up w15 V16 := by rw [← hV16]; first | exact (Up.refl _).alloc _ | exact ((Up.refl _).alloc _).alloc _ | exact (((Up.refl _).alloc _).alloc _).alloc _ | exact ((((Up.refl _).alloc _).alloc _).alloc _).alloc _
    have n1 : Nw V16 w15.heap.size 1 (.slice (some ⟨w15.heap.size, 0, none⟩) 1 1) 1 := by rw [← hV16]; exact lit1 w15 1 1 rfl (by omega)
    rw [hV16]
    clear hV16
    replace na := na.up uV16
    replace U := U.trans uV16
    clear uV16
    refine (cmp_same _ _ _ _ _ _ _ _ _ na.nw n1 E2.out).mono ?_
    rintro _ w17 ⟨rfl, kk, hk⟩
    have h17 : Up V16 w17 := by rw [hk]; exact (Up.refl _).drewN _
    clear hk
    replace na := na.up h17
    replace n1 := n1.up h17
    replace U := U.trans h17
    clear h17
    go_wp2_with fail
    go_ret
    exact ⟨rfl, U⟩

set_option maxHeartbeats 4000000 in
set_option maxRecDepth 100000 in
theorem goes_walk (w : World) (hTW : TabW w) (x0 : Int) (_wx0 : (Lit.int .i64 x0).wf = true) (x1 : Int) (_wx1 : (Lit.int .i64 x1).wf = true) :
    Calls Tryd.prog 9 #[.int .i64 x0, .int .i64 x1] w (True_ w) := by
  obtain ⟨mn, n, hmn, bmn, tn, rn, bn⟩ := few_16 x0 1001 (by omega)
  simp only [Int.cast_ofNat_Int] at tn rn
  obtain ⟨e, he, e1, e2⟩ := tmod_rng_of x1 1500 (by omega)
  obtain ⟨g1, g2, g3, g4, g5, g6⟩ := M.goes e1 e2
  have rg := M.lg_rng (e := e) (by omega) (by omega)
  have rc : -5000 ≤ M.lg2 e ∧ M.lg2 e ≤ 5000 := by unfold M.lg2; omega
  obtain ⟨a, ha⟩ : ∃ a, M.lg10 e = a := ⟨_, rfl⟩
  obtain ⟨b, hb⟩ : ∃ a, M.lg10 (e + 1) = a := ⟨_, rfl⟩
  obtain ⟨c, hc⟩ : ∃ a, M.lg2 e = a := ⟨_, rfl⟩
  obtain ⟨d, hd⟩ : ∃ a, M.lg2 (e + 1) = a := ⟨_, rfl⟩
  rw [ha, hb] at g1
  rw [hc, hd] at g2
  rw [ha] at g3 g4
  rw [hc] at g5 g6 rc
  rw [ha, hc] at rg
  obtain ⟨f, hf⟩ : ∃ f, M.lg2 a = f := ⟨_, rfl⟩
  obtain ⟨k, hk⟩ : ∃ f, M.lg10 c = f := ⟨_, rfl⟩
  rw [hf] at g4
  rw [hk] at g5 g6
  have La : Hid (M.lg10 (max (-5000) (min e 5000)) = a) := by rw [show max (-5000) (min e 5000) = e by omega]; exact ha
  have Lb : Hid (M.lg10 (max (-5000) (min (e + 1) 5000)) = b) := by rw [show max (-5000) (min (e + 1) 5000) = e + 1 by omega]; exact hb
  have Lc : Hid (M.lg2 (max (-5000) (min e 5000)) = c) := by rw [show max (-5000) (min e 5000) = e by omega]; exact hc
  have Ld : Hid (M.lg2 (max (-5000) (min (e + 1) 5000)) = d) := by rw [show max (-5000) (min (e + 1) 5000) = e + 1 by omega]; exact hd
  have Lf : Hid (M.lg2 (max (-5000) (min a 5000)) = f) := by rw [show max (-5000) (min a 5000) = a by omega]; exact hf
  have Lk : Hid (M.lg10 (max (-5000) (min c 5000)) = k) := by rw [show max (-5000) (min c 5000) = c by omega]; exact hk
  clear ha hb hc hd hf hk
  have d3 : decide (a ≤ max e (-1)) = true := decide_eq_true g3
  have d4 : decide (f ≤ e) = true := decide_eq_true g4
  have d5 : decide (k ≤ e) = true := decide_eq_true g5
  have d6 : decide (e - 1 ≤ k) = true := decide_eq_true g6
  have d7 : decide (e ≤ k + 1) = true := decide_eq_true (by omega)
  clear g3
  have E1 : Hid (10 ^ (n + 1) = 10 ^ n * 10) := Nat.pow_succ _ _
  have E2 : Hid (10 ^ n = 5 ^ n * 2 ^ n) := M.ten_split n
  have U := Up.refl w
  go_enter Tryd.func9, Tryd.ntmps9
  go_wp2_with fail
  refine (tshown_any _ (hTW.up U)).mono ?_
  rintro _ w1 ⟨rfl, h1⟩
  replace U := U.trans h1
  clear h1
  go_wp2_with fail
  refine (pow10_call _ ((n : Int) + 1) (n + 1) (by show _ = _; omega)).mono ?_
  rintro _ w2 ⟨va, rfl, na, h2⟩
  replace U := U.trans h2
  clear h2
  go_wp2_with fail
  refine (pow10_call _ (n : Int) n (by show _ = _; omega)).mono ?_
  rintro _ w3 ⟨vb, rfl, nb, h3⟩
  replace na := na.up h3
  replace U := U.trans h3
  clear h3
  go_wp2_with fail
  obtain ⟨V4, hV4⟩ : ∃ V4, w3.alloc (.cells #[.int .u64 10] 41) = V4 := ⟨_, rfl⟩
  have uV4 : Up w3 V4 := by rw [← hV4]; first | exact (Up.refl _).alloc _ | exact ((Up.refl _).alloc _).alloc _ | exact (((Up.refl _).alloc _).alloc _).alloc _ | exact ((((Up.refl _).alloc _).alloc _).alloc _).alloc _
  have nl : Nw V4 w3.heap.size 1 (.slice (some ⟨w3.heap.size, 0, none⟩) 1 1) 10 := by rw [← hV4]; exact lit1 w3 10 10 rfl (by omega)
  rw [hV4]
  clear hV4
  replace na := na.up uV4
  replace nb := nb.up uV4
  replace U := U.trans uV4
  clear uV4
  refine (mul_any _ _ _ _ _ _ _ _ _ nb.nw nl (by omega) (by omega)).mono ?_
  rintro _ w5 ⟨vc, rfl, nc, h5⟩
  replace na := na.up h5
  replace nb := nb.up h5
  replace nl := nl.up h5
  replace U := U.trans h5
  clear h5
  clear nb
  clear nl
  go_wp2_with fail
  refine (cmp_same _ _ _ _ _ _ _ _ _ na.nw nc.nw E1.out).mono ?_
  rintro _ w6 ⟨rfl, kk, hk⟩
  have h6 : Up w5 w6 := by rw [hk]; exact (Up.refl _).drewN _
  clear hk
  replace na := na.up h6
  replace nc := nc.up h6
  replace U := U.trans h6
  clear h6
  clear na
  clear nc
  go_wp2_with fail
  refine (pow10_call _ (n : Int) n (by show _ = _; omega)).mono ?_
  rintro _ w7 ⟨va, rfl, na, h7⟩
  replace U := U.trans h7
  clear h7
  go_wp2_with fail
  refine (pow5_call _ (n : Int) n (by show _ = _; omega)).mono ?_
  rintro _ w8 ⟨vb, rfl, nb, h8⟩
  replace na := na.up h8
  replace U := U.trans h8
  clear h8
  go_wp2_with fail
  refine (shl_any _ _ _ _ _ nb.nw (by omega) (n : Int) n (by omega)).mono ?_
  rintro _ w9 ⟨vc, rfl, nc, h9⟩
  replace na := na.up h9
  replace nb := nb.up h9
  replace U := U.trans h9
  clear h9
  clear nb
  go_wp2_with fail
  refine (cmp_same _ _ _ _ _ _ _ _ _ na.nw nc.nw E2.out).mono ?_
  rintro _ w10 ⟨rfl, kk, hk⟩
  have h10 : Up w9 w10 := by rw [hk]; exact (Up.refl _).drewN _
  clear hk
  replace na := na.up h10
  replace nc := nc.up h10
  replace U := U.trans h10
  clear h10
  clear na
  clear nc
  go_wp2_with fail
  clear he
  refine (lg10_call _ e a La).mono ?_
  rintro _ _ ⟨rfl, rfl⟩
  go_wp2_with fail
  refine (lg10_call _ (e + 1) b Lb).mono ?_
  rintro _ _ ⟨rfl, rfl⟩
  go_wp2_with fail
  refine (lg2_call _ e c Lc).mono ?_
  rintro _ _ ⟨rfl, rfl⟩
  go_wp2_with fail
  refine (lg2_call _ (e + 1) d Ld).mono ?_
  rintro _ _ ⟨rfl, rfl⟩
  rcases g1 with rfl | rfl <;> rcases g2 with rfl | rfl
  all_goals
    go_wp2_with fail
    refine (lg2_call _ _ f Lf).mono ?_
    rintro _ _ ⟨rfl, rfl⟩
    go_wp2_with fail
    refine (lg10_call _ _ k Lk).mono ?_
    rintro _ _ ⟨rfl, rfl⟩
    go_wp2_with fail
    refine (lg10_call _ _ k Lk).mono ?_
    rintro _ _ ⟨rfl, rfl⟩
    go_wp2_with fail
    go_ret
    exact ⟨rfl, U⟩

set_option maxHeartbeats 4000000 in
set_option maxRecDepth 100000 in
theorem bits_walk (w : World) (hTW : TabW w) (x0 : Int) (_wx0 : (Lit.int .i64 x0).wf = true) :
    Calls Tryd.prog 12 #[.int .i64 x0] w (True_ w) := by
  obtain ⟨mk, k, hmk, bmk, tk, rk, bk⟩ := few_16 x0 1501 (by omega)
  simp only [Int.cast_ofNat_Int] at tk rk
  have hb := M.ten_bits (k := k) (by omega)
  have h5 := M.five_bits k
  obtain ⟨z, hz⟩ : ∃ z : Int, ((M.bits (10 ^ k) : Nat) : Int) = z := ⟨_, rfl⟩
  obtain ⟨y, hy⟩ : ∃ z : Int, ((M.bits (5 ^ k) : Nat) : Int) = z := ⟨_, rfl⟩
  rw [hz] at hb h5
  rw [hy] at h5
  have r := M.lg_rng (e := (k : Int)) (by omega) (by omega)
  obtain ⟨l, hl⟩ : ∃ l, M.lg2 (k : Int) = l := ⟨_, rfl⟩
  have HL : Hid (M.lg2 (max (-5000) (min (k : Int) 5000)) = l) := by rw [show max (-5000) (min (k : Int) 5000) = (k : Int) by omega]; exact hl
  rw [hl] at hb r
  subst hb h5
  have HZ := Lib.hid hz
  have HY := Lib.hid hy
  clear hz hy hl
  obtain ⟨S, hS⟩ : ∃ S, (⟨(Lib.decDigits (10 ^ k)).toArray⟩ : ByteArray) = S := ⟨_, rfl⟩
  have hSl : S.size = k + 1 := by rw [← hS]; show (Lib.decDigits (10 ^ k)).toArray.size = _; rw [List.size_toArray, M.digits_pow]
  have HS := Lib.hid hS
  have HSL := Lib.hid hSl
  clear hS hSl
  have U := Up.refl w
  go_enter Tryd.func12, Tryd.ntmps12
  go_wp2_with fail
  refine (tshown_any _ (hTW.up U)).mono ?_
  rintro _ w1 ⟨rfl, h1⟩
  replace U := U.trans h1
  clear h1
  go_wp2_with fail
  refine (pow10_call _ (k : Int) k (by show _ = _; omega)).mono ?_
  rintro _ w2 ⟨vp, rfl, np, h2⟩
  replace U := U.trans h2
  clear h2
  go_wp2_with fail
  go_loop [5] (fun v => ∃ j : Nat, j ≤ k ∧ v = .int .i64 j) (fun v => k - (intOf v).toNat)
  case atStart => exact ⟨0, by omega, rfl⟩
  case round =>
    obtain ⟨j, hj, rfl⟩ := hrel
    have dj : decide ((j : Int) ≤ (k : Int)) = true := decide_eq_true (by omega)
    by_cases hjk : j < k
    · have HB : Hid ((10 ^ k).testBit j = false) := M.ten_bit_low hjk
      go_wp2_with fail
      refine (bit_at _ _ _ _ _ np.nw j _ rfl (by omega) false HB).mono ?_
      rintro _ _ ⟨rfl, rfl⟩
      go_wp2_with fail
      go_round
      case rel => exact ⟨j + 1, by omega, by go_num⟩
      case measure => simp [intOf]; omega
    · have hjk' : j = k := by omega
      subst hjk'
      have HB : Hid ((10 ^ j).testBit j = true) := M.ten_bit_at j
      go_wp2_with fail
      refine (bit_at _ _ _ _ _ np.nw j _ rfl (by omega) true HB).mono ?_
      rintro _ _ ⟨rfl, rfl⟩
      go_wp2_with fail
      refine (bits_at2 _ _ _ _ _ _ np.nw HZ).mono ?_
      rintro _ _ ⟨rfl, rfl⟩
      go_wp2_with fail
      refine (lg2_call _ (j : Int) l HL).mono ?_
      rintro _ _ ⟨rfl, rfl⟩
      go_wp2_with fail
      refine (text_of _ _ _ _ _ np.nw (by omega) (hTW.up U) _ HS.out).mono ?_
      rintro _ w5 ⟨rfl, h5⟩
      replace np := np.up h5
      replace U := U.trans h5
      clear h5
      have hSl := HSL.out
      go_wp2_with fail
      refine (pow5_call _ (j : Int) j (by show _ = _; omega)).mono ?_
      rintro _ w6 ⟨vq, rfl, nq, h6⟩
      replace np := np.up h6
      replace U := U.trans h6
      clear h6
      go_wp2_with fail
      refine (bits_at2 _ _ _ _ _ _ nq.nw HY).mono ?_
      rintro _ _ ⟨rfl, rfl⟩
      go_wp2_with fail
      refine (bits_at2 _ _ _ _ _ _ np.nw HZ).mono ?_
      rintro _ _ ⟨rfl, rfl⟩
      go_wp2_with fail
      go_ret
      exact ⟨rfl, U⟩
end Go.Proofs.YteeepfhjbemgoaaDoor
