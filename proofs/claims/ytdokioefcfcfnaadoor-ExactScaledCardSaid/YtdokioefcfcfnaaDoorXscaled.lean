/-
  The walk of ExactScaled: true, and nothing that was there has turned.
-/
import Derived.Test.YtdokioefcfcfnaaDoorXshown
namespace Go.Proofs.YtdokioefcfcfnaaDoor
open Go.RowKit Go.Shelf

theorem and_31 (x : Int) : ∃ m : Nat, Go.bits BinOp.and IntKind.i64 x 31 = (m : Int) ∧ m ≤ 31 := by
  refine ⟨((BitVec.ofInt 64 x).toNat &&& 31), ?_, ?_⟩
  · show IntKind.i64.wrap ((BitVec.ofInt 64 x &&& BitVec.ofInt 64 31).toNat : Int) = _
    rw [BitVec.toNat_and, show (BitVec.ofInt 64 31).toNat = 31 from rfl]
    have : (BitVec.ofInt 64 x).toNat &&& 31 ≤ 31 := Nat.and_le_right
    exact IntWalk.i64_in _ (by omega)
  · exact Nat.and_le_right
namespace M
theorem digits_ten (a : Nat) (h : 0 < a) : ∀ m, (Lib.decDigits (a * 10 ^ m)).length = (Lib.decDigits a).length + m
  | 0 => by simp
  | m + 1 => by
    rw [Nat.pow_succ, ← Nat.mul_assoc, Lib.decDigits, dif_neg (by have : 0 < a * 10 ^ m := Nat.mul_pos h (Nat.pow_pos (by omega)); omega), List.length_append, show a * 10 ^ m * 10 / 10 = a * 10 ^ m from by omega, digits_ten a h m]
    simp; omega
theorem log_scaled (a m : Nat) (k : Int) : log10 (a * 10 ^ m) 0 0 (k - m) = log10 a 0 0 k := by
  unfold log10
  rcases Nat.eq_zero_or_pos a with h | h
  · rw [h]; simp
  · rw [if_neg (by have := Nat.mul_pos h (Nat.pow_pos (n := m) (show 0 < 10 by omega)); omega), if_neg (by omega)]
    simp only [Nat.pow_zero, Nat.mul_one]
    rw [digits_ten a h m]
    omega
theorem ten_five (m : Nat) : 10 ^ m = 5 ^ m * 2 ^ m := by rw [← Nat.mul_pow]
theorem sgn_scaled (neg : Bool) (a m : Nat) : sgn neg (a * 10 ^ m) = sgn neg a := by
  unfold sgn
  have hp : 0 < 10 ^ m := Nat.pow_pos (by omega)
  have : a * 10 ^ m = 0 ↔ a = 0 := by
    rw [Nat.mul_eq_zero]
    omega
  simp only [this]
theorem rd_scaled {a m s s' a1 a2 : Nat} {k t1 f1 t2 f2 : Int} (h : Rd a k k s a1 t1 f1) (h' : Rd (a * 10 ^ m) (k - m) (k - m) s' a2 t2 f2) : a1 = a2 ∧ t1 = t2 ∧ f1 = f2 := by
  have hp : 0 < 10 ^ m := Nat.pow_pos (by omega)
  rcases Nat.eq_zero_or_pos a with h0 | h0
  · obtain ⟨e1, e2, e3⟩ := h.zero h0
    obtain ⟨g1, g2, g3⟩ := h'.zero (by rw [h0, Nat.zero_mul])
    exact ⟨by rw [e1, g1], by rw [e2, g2], by rw [e3, g3]⟩
  · obtain ⟨k2, k5, p1, p2, p3, p4, p5, _, _⟩ := h.pos h0
    obtain ⟨l2, l5, q1, q2, q3, q4, q5, _, _⟩ := h'.pos (Nat.mul_pos h0 hp)
    have e : a1 * 5 ^ (k5 + m) * 2 ^ (k2 + m) = a2 * 5 ^ l5 * 2 ^ l2 := by
      rw [q1, ← p1, ten_five, Nat.pow_add, Nat.pow_add]
      simp only [Nat.mul_assoc, Nat.mul_left_comm, Nat.mul_comm]
    obtain ⟨x1, x2, x3⟩ := red_unique e p2 p3 q2 q3
    exact ⟨x1, by rw [p4, q4]; omega, by rw [p5, q5]; omega⟩
theorem lt_w128_of {a s : Nat} (h : a < 18446744073709551616 ^ s) (hs : s ≤ 128) : a < 18446744073709551616 ^ 128 := Nat.lt_of_lt_of_le h (Nat.pow_le_pow_right (by omega) hs)
end M

set_option maxHeartbeats 16000000 in
set_option maxRecDepth 100000 in
theorem scaled_walk (w : World) (hTW : TabW w) (A0 : Option Addr) (n0 c0 : Nat) (x0 : List Nat) (h0 : Src w A0 n0 c0 x0) (x1 : Int) (_wx1 : (Lit.int .i64 x1).wf = true) (x2 : Int) (_wx2 : (Lit.int .i64 x2).wf = true) (neg : Bool) :
    Calls Tryd.prog 11 #[.slice A0 n0 c0, .int .i64 x1, .int .i64 x2, .bool neg] w (True_ w) := by
  have U := Up.refl w
  obtain ⟨kk0, hkk, hk1, hk2⟩ : ∃ kk0 : Nat, min (n0 : Int) 6 = (kk0 : Int) ∧ kk0 ≤ n0 ∧ kk0 ≤ 6 := ⟨min n0 6, by omega, by omega, by omega⟩
  obtain ⟨k, hr, hr1, hr2⟩ := tmod_rng_of x1 301 (by omega)
  obtain ⟨m, hm, hm1⟩ := and_31 x2
  have hc0 := h0.len
  replace h0 := h0.take hk1
  have wkm : IntKind.i64.wrap (k - (m : Int)) = k - (m : Int) := by simp [IntKind.wrap, IntKind.bits, IntKind.signed]; omega
  
  go_enter Tryd.func11, Tryd.ntmps11
  go_wp2_with fail
  refine (xshown_any _ hTW).mono ?_
  rintro _ w1 ⟨rfl, h1⟩
  replace h0 := h0.up h1
  replace U := U.trans h1
  clear h1
  go_wp2_with fail
  refine (norm_src _ _ _ _ _ h0 (by omega)).mono ?_
  rintro _ w2 ⟨va, rfl, na, h2⟩
  replace h0 := h0.up h2
  replace U := U.trans h2
  clear h2
  clear h0
  obtain ⟨a, ha⟩ : ∃ a, M.val (x0.take kk0) = a := ⟨_, rfl⟩
  rw [ha] at na
  replace na := na.more hk2
  clear ha hkk
  obtain ⟨Ana, sna, cna, wna, rfl, na⟩ := na
  replace na : Nt w2 _ _ (.slice Ana sna cna) (a) := ⟨Ana, sna, cna, wna, rfl, na⟩
  have hlt := na.nw.lt
  have hltm : a * 10 ^ m < 18446744073709551616 ^ 128 := by
    have h1 : 10 ^ m ≤ 10 ^ 31 := Nat.pow_le_pow_right (by omega) hm1
    have h2 : a * 10 ^ m ≤ a * 10 ^ 31 := Nat.mul_le_mul_left _ h1
    have h3 : (18446744073709551616 : Nat) ^ 6 * 18446744073709551616 ^ 2 ≤ 18446744073709551616 ^ 128 := by rw [← Nat.pow_add]; exact Nat.pow_le_pow_right (by omega) (by omega)
    omega
  have HLM := Lib.hid hltm
  have HL := Lib.hid (M.lt_w128_of hlt (by omega))
  clear hltm hlt
  go_wp2_with fail
  refine (dec_yes _ _ 6 neg _ a k na.nw HL.out ⟨by omega, by omega⟩).mono ?_
  rintro _ w3 ⟨vx, rfl, nx, h3⟩
  replace na := na.up h3
  replace U := U.trans h3
  clear h3
  obtain ⟨Anx, snx, cnx, wnx, rfl, nx⟩ := nx
  replace nx : Nt w3 _ _ (.slice Anx snx cnx) (a) := ⟨Anx, snx, cnx, wnx, rfl, nx⟩
  go_wp2_with fail
  obtain ⟨V4, hV4⟩ : ∃ V4, w3.alloc (.cells #[.bool neg, (.slice Anx snx cnx), .int .i64 (k), .int .i64 (k)] 55) = V4 := ⟨_, rfl⟩
  have uV4 : Up w3 V4 := by rw [← hV4]; first | exact (Up.refl _).alloc _ | exact ((Up.refl _).alloc _).alloc _ | exact (((Up.refl _).alloc _).alloc _).alloc _ | exact ((((Up.refl _).alloc _).alloc _).alloc _).alloc _
  have x : Bx V4 w3.heap.size neg (.slice Anx snx cnx) k k := by rw [← hV4]; exact Bx.mk_ _ _ _ _ _
  rw [hV4]
  clear hV4
  replace na := na.up uV4
  replace nx := nx.up uV4
  replace U := U.trans uV4
  clear uV4
  refine (pow_any _ 10 m (m : Int) (by omega) (by omega)).mono ?_
  rintro _ w5 ⟨vp, rfl, np, h5⟩
  replace na := na.up h5
  replace nx := nx.up h5
  replace x := x.up h5
  replace U := U.trans h5
  clear h5
  go_wp2_with fail
  refine (mul_any _ _ _ _ _ _ _ _ _ na.nw np.nw (by omega) (by omega)).mono ?_
  rintro _ w6 ⟨vm, rfl, nm, h6⟩
  replace na := na.up h6
  replace nx := nx.up h6
  replace x := x.up h6
  replace np := np.up h6
  replace U := U.trans h6
  clear h6
  clear na
  clear np
  go_wp2_with fail
  refine (dec_yes _ _ _ neg _ (a * 10 ^ m) (k - (m : Int)) nm.nw HLM.out ⟨by omega, by omega⟩).mono ?_
  rintro _ w7 ⟨vy, rfl, ny, h7⟩
  replace nx := nx.up h7
  replace x := x.up h7
  replace nm := nm.up h7
  replace U := U.trans h7
  clear h7
  clear nm
  obtain ⟨b, hb⟩ : ∃ b, a * 10 ^ m = b := ⟨_, rfl⟩
  rw [hb] at ny
  replace ny := ny.more (show 6 + (m + 1) ≤ 40 by omega)
  have HB := Lib.hid hb
  clear hb HLM HL
  obtain ⟨Any, sny, cny, wny, rfl, ny⟩ := ny
  replace ny : Nt w7 _ _ (.slice Any sny cny) (b) := ⟨Any, sny, cny, wny, rfl, ny⟩
  obtain ⟨k2, hk2e⟩ : ∃ k2 : Int, k - (m : Int) = k2 := ⟨_, rfl⟩
  rw [hk2e]
  have b2 : -331 ≤ k2 ∧ k2 ≤ 300 := by omega
  have HK := Lib.hid hk2e
  clear hk2e wkm
  go_wp2_with fail
  obtain ⟨V8, hV8⟩ : ∃ V8, w7.alloc (.cells #[.bool neg, (.slice Any sny cny), .int .i64 (k2), .int .i64 (k2)] 55) = V8 := ⟨_, rfl⟩
  have uV8 : Up w7 V8 := by rw [← hV8]; first | exact (Up.refl _).alloc _ | exact ((Up.refl _).alloc _).alloc _ | exact (((Up.refl _).alloc _).alloc _).alloc _ | exact ((((Up.refl _).alloc _).alloc _).alloc _).alloc _
  have y : Bx V8 w7.heap.size neg (.slice Any sny cny) k2 k2 := by rw [← hV8]; exact Bx.mk_ _ _ _ _ _
  rw [hV8]
  clear hV8
  replace nx := nx.up uV8
  replace x := x.up uV8
  replace ny := ny.up uV8
  replace U := U.trans uV8
  clear uV8
  have hkm := HK.out
  have HT : Hid (max 0 (min (k - k2) 131072) = (m : Int)) := by show _ = _; omega
  have HF : Hid (max 0 (min (k - k2) 10000) = (m : Int)) := by show _ = _; omega
  have HT' : Hid (max 0 (min (-(k - k2)) 131072) = ((0 : Nat) : Int)) := by show _ = _; omega
  have HF' : Hid (max 0 (min (-(k - k2)) 10000) = ((0 : Nat) : Int)) := by show _ = _; omega
  have HZ : Hid (M.cmp (a * 5 ^ m * 2 ^ m) (b * 5 ^ 0 * 2 ^ 0) = 0) := M.cmp_eq (by rw [← HB.out, M.ten_five, Nat.mul_assoc, show (5 : Nat) ^ 0 = 1 from rfl, Nat.mul_one, Nat.mul_one])
  have HR : Hid (M.csg (M.sgn neg a) (M.sgn neg b) 0 = 0) := by rw [Hid, ← HB.out, M.sgn_scaled, M.csg, if_pos rfl, Int.mul_zero]
  obtain ⟨l, hl⟩ : ∃ l, M.log10 a 0 0 k = l := ⟨_, rfl⟩
  have HL1 := Lib.hid hl
  have HL2 : Hid (M.log10 b 0 0 k2 = l) := by rw [Hid, ← HB.out, ← HK.out, M.log_scaled]; exact hl
  clear hl hkm
  have CC := Lib.hid (fun w' (hu : Up V8 w') => xcmp_any w' _ _ _ _ neg neg (.slice Anx snx cnx) (.slice Any sny cny) k k k2 k2 a b (nx.nw.up hu) (ny.nw.up hu) (by omega) (by omega) (by omega) (by omega) (by omega) (by omega) m m 0 0 HT HF HT' HF' 0 HZ)
  have CS := Lib.hid (fun w' (hu : Up V8 w') => xcmps_any w' _ _ _ _ neg neg (.slice Anx snx cnx) (.slice Any sny cny) k k k2 k2 a b (nx.nw.up hu) (ny.nw.up hu) (by omega) (by omega) (by omega) (by omega) (by omega) (by omega) m m 0 0 HT HF HT' HF' 0 HZ 0 HR)
  have CX := Lib.hid (fun w' (hu : Up V8 w') => log10_any w' ((hTW.up U).up hu) _ _ neg (.slice Anx snx cnx) k k a (nx.nw.up hu) (by omega) (by omega) (by omega) k (by show _ = _; omega) 0 0 (by show _ = _; omega) (by show _ = _; omega) l HL1)
  have CY := Lib.hid (fun w' (hu : Up V8 w') => log10_any w' ((hTW.up U).up hu) _ _ neg (.slice Any sny cny) k2 k2 b (ny.nw.up hu) (by omega) (by omega) (by omega) k2 (by show _ = _; omega) 0 0 (by show _ = _; omega) (by show _ = _; omega) l HL2)
  clear HT HF HT' HF' HZ HR HL1 HL2
  have hll : (l != l) = false := by simp
  obtain ⟨⟨x0, x1, x2, x3⟩, xf0, xf1, xf2, xf3⟩ := id x
  have x5 := World.block_lt_of_cell? _ _ x0
  simp only at x5
  obtain ⟨⟨y0, y1, y2, y3⟩, yf0, yf1, yf2, yf3⟩ := id y
  have y5 := World.block_lt_of_cell? _ _ y0
  simp only at y5
  go_region_held3 (fun w' => w'.cell? ⟨w3.heap.size, 0, none⟩ = some (.bool neg) ∧ w'.cell? ⟨w3.heap.size, 1, none⟩ = some ((.slice Anx snx cnx)) ∧ w'.cell? ⟨w3.heap.size, 2, none⟩ = some (.int .i64 (k)) ∧ w'.cell? ⟨w3.heap.size, 3, none⟩ = some (.int .i64 (k)) ∧ w'.cell? ⟨w7.heap.size, 0, none⟩ = some (.bool neg) ∧ w'.cell? ⟨w7.heap.size, 1, none⟩ = some ((.slice Any sny cny)) ∧ w'.cell? ⟨w7.heap.size, 2, none⟩ = some (.int .i64 (k2)) ∧ w'.cell? ⟨w7.heap.size, 3, none⟩ = some (.int .i64 (k2))) (go_keep) (first
      | (go_at_call 46; (with_reducible refine (CC.out _ ?_).mono ?_); (first | with_reducible assumption | exact (Up.refl _).drewN 1); rintro _ w9 ⟨rfl, h9⟩; have uw9 : Up V8 w9 := Up.trans (by first | with_reducible assumption | exact (Up.refl V8).drewN 1) h9; have xc00 := cell_up uw9 x0; have xc01 := cell_up uw9 x1; have xc02 := cell_up uw9 x2; have xc03 := cell_up uw9 x3; have yc00 := cell_up uw9 y0; have yc01 := cell_up uw9 y1; have yc02 := cell_up uw9 y2; have yc03 := cell_up uw9 y3)
      | (go_at_call 47; (with_reducible refine (CS.out _ ?_).mono ?_); (first | with_reducible assumption | exact (Up.refl _).drewN 1); rintro _ w10 ⟨rfl, h10⟩; have uw10 : Up V8 w10 := Up.trans (by first | with_reducible assumption | exact (Up.refl V8).drewN 1) h10; have xc10 := cell_up uw10 x0; have xc11 := cell_up uw10 x1; have xc12 := cell_up uw10 x2; have xc13 := cell_up uw10 x3; have yc10 := cell_up uw10 y0; have yc11 := cell_up uw10 y1; have yc12 := cell_up uw10 y2; have yc13 := cell_up uw10 y3)
      | (go_at_call_of 49 (Value.slice Anx snx cnx); (with_reducible refine (CX.out _ ?_).mono ?_); (first | with_reducible assumption | exact (Up.refl _).drewN 1); rintro _ w11 ⟨rfl, h11⟩; have uw11 : Up V8 w11 := Up.trans (by first | with_reducible assumption | exact (Up.refl V8).drewN 1) h11; have xc20 := cell_up uw11 x0; have xc21 := cell_up uw11 x1; have xc22 := cell_up uw11 x2; have xc23 := cell_up uw11 x3; have yc20 := cell_up uw11 y0; have yc21 := cell_up uw11 y1; have yc22 := cell_up uw11 y2; have yc23 := cell_up uw11 y3)
      | (go_at_call_of 49 (Value.slice Any sny cny); (with_reducible refine (CY.out _ ?_).mono ?_); (first | with_reducible assumption | exact (Up.refl _).drewN 1); rintro _ w12 ⟨rfl, h12⟩; have uw12 : Up V8 w12 := Up.trans (by first | with_reducible assumption | exact (Up.refl V8).drewN 1) h12; have xc30 := cell_up uw12 x0; have xc31 := cell_up uw12 x1; have xc32 := cell_up uw12 x2; have xc33 := cell_up uw12 x3; have yc30 := cell_up uw12 y0; have yc31 := cell_up uw12 y1; have yc32 := cell_up uw12 y2; have yc33 := cell_up uw12 y3))
  clear xc00
  clear xc01
  clear xc02
  clear xc03
  clear yc00
  clear yc01
  clear yc02
  clear yc03
  clear xc10
  clear xc11
  clear xc12
  clear xc13
  clear yc10
  clear yc11
  clear yc12
  clear yc13
  clear xc20
  clear xc21
  clear xc22
  clear xc23
  clear yc20
  clear yc21
  clear yc22
  clear yc23
  clear xc30
  clear xc31
  clear xc32
  clear xc33
  clear yc30
  clear yc31
  clear yc32
  clear yc33
  clear h9
  clear h10
  clear h11
  clear h12
  clear x0 x1 x2 x3 xf0 xf1 xf2 xf3 x5
  clear y0 y1 y2 y3 yf0 yf1 yf2 yf3 y5
  replace nx := nx.up uw12
  replace x := x.up uw12
  replace ny := ny.up uw12
  replace y := y.up uw12
  replace U := U.trans uw12
  clear uw9
  clear uw10
  clear uw11
  clear uw12
  clear CC CS CX CY
  obtain ⟨⟨x0, x1, x2, x3⟩, xf0, xf1, xf2, xf3⟩ := id x
  have x5 := World.block_lt_of_cell? _ _ x0
  simp only at x5
  go_wp2_with fail
  clear x0 x1 x2 x3 xf0 xf1 xf2 xf3 x5
  refine (reduced_any _ _ _ neg _ k k a nx.nw (by omega) (by omega) (by omega)).mono ?_
  rintro _ w13 ⟨vr, a1, t1, f1, rfl, nr, h13, hrd⟩
  replace nx := nx.up h13
  replace x := x.up h13
  replace ny := ny.up h13
  replace y := y.up h13
  replace U := U.trans h13
  clear h13
  obtain ⟨Anr, snr, cnr, wnr, rfl, nr⟩ := nr
  replace nr : Nt w13 _ _ (.slice Anr snr cnr) (a1) := ⟨Anr, snr, cnr, wnr, rfl, nr⟩
  clear nx
  clear x
  have HRD := Lib.hid hrd
  clear hrd
  obtain ⟨⟨y0, y1, y2, y3⟩, yf0, yf1, yf2, yf3⟩ := id y
  have y5 := World.block_lt_of_cell? _ _ y0
  simp only at y5
  go_wp2_with fail
  clear y0 y1 y2 y3 yf0 yf1 yf2 yf3 y5
  obtain ⟨V14, hV14⟩ : ∃ V14, w13.alloc (.cells #[.bool neg, (.slice Anr snr cnr), .int .i64 (t1), .int .i64 (f1)] 55) = V14 := ⟨_, rfl⟩
  have uV14 : Up w13 V14 := by rw [← hV14]; first | exact (Up.refl _).alloc _ | exact ((Up.refl _).alloc _).alloc _ | exact (((Up.refl _).alloc _).alloc _).alloc _ | exact ((((Up.refl _).alloc _).alloc _).alloc _).alloc _
  have r : Bx V14 w13.heap.size neg (.slice Anr snr cnr) t1 f1 := by rw [← hV14]; exact Bx.mk_ _ _ _ _ _
  rw [hV14]
  clear hV14
  replace ny := ny.up uV14
  replace y := y.up uV14
  replace nr := nr.up uV14
  replace U := U.trans uV14
  clear uV14
  refine (reduced_any _ _ _ neg _ k2 k2 b ny.nw (by omega) (by omega) (by omega)).mono ?_
  rintro _ w15 ⟨vs, a2, t2, f2, rfl, ns, h15, hrd⟩
  replace ny := ny.up h15
  replace y := y.up h15
  replace nr := nr.up h15
  replace r := r.up h15
  replace U := U.trans h15
  clear h15
  obtain ⟨Ans, sns, cns, wns, rfl, ns⟩ := ns
  replace ns : Nt w15 _ _ (.slice Ans sns cns) (a2) := ⟨Ans, sns, cns, wns, rfl, ns⟩
  clear ny
  clear y
  have hq := HRD.out
  rw [← HB.out, ← HK.out] at hrd
  obtain ⟨rfl, rfl, rfl⟩ := M.rd_scaled hq hrd
  clear hq hrd HRD HB HK
  obtain ⟨⟨r0, r1, r2, r3⟩, rf0, rf1, rf2, rf3⟩ := id r
  have r5 := World.block_lt_of_cell? _ _ r0
  simp only at r5
  go_wp2_with fail
  clear r0 r1 r2 r3 rf0 rf1 rf2 rf3 r5
  obtain ⟨V16, hV16⟩ : ∃ V16, w15.alloc (.cells #[.bool neg, (.slice Ans sns cns), .int .i64 (t1), .int .i64 (f1)] 55) = V16 := ⟨_, rfl⟩
  have uV16 : Up w15 V16 := by rw [← hV16]; first | exact (Up.refl _).alloc _ | exact ((Up.refl _).alloc _).alloc _ | exact (((Up.refl _).alloc _).alloc _).alloc _ | exact ((((Up.refl _).alloc _).alloc _).alloc _).alloc _
  rw [hV16]
  clear hV16
  replace nr := nr.up uV16
  replace r := r.up uV16
  replace ns := ns.up uV16
  replace U := U.trans uV16
  clear uV16
  refine (cmp_same _ _ _ _ _ _ _ _ _ nr.nw ns.nw rfl).mono ?_
  rintro _ w17 ⟨rfl, kk, hk⟩
  have h17 : Up V16 w17 := by rw [hk]; exact (Up.refl _).drewN _
  clear hk
  replace nr := nr.up h17
  replace r := r.up h17
  replace ns := ns.up h17
  replace U := U.trans h17
  clear h17
  go_wp2_with fail
  go_ret
  exact ⟨rfl, U⟩
end Go.Proofs.YtdokioefcfcfnaaDoor
