/-
  TenNext: true, and nothing that was there has turned.
-/
import Derived.Test.YteeepfhjbemgoaaDoorTtops
import Derived.Test.YteeepfhjbemgoaaDoorEx2
namespace Go.Proofs.YteeepfhjbemgoaaDoor
open Go.RowKit Go.Shelf

theorem few_16' (x : Int) (n : Nat) (hn : 0 < n) : ∃ m a : Nat, Go.bits BinOp.and IntKind.i64 x 65535 = (m : Int) ∧ m ≤ 65535 ∧ (m : Int).tmod n = (a : Int) ∧ (m : Int) % n = (a : Int) ∧ a < n := by
  obtain ⟨m, h1, h2⟩ : ∃ m : Nat, Go.bits BinOp.and IntKind.i64 x 65535 = (m : Int) ∧ m ≤ 65535 := by
    refine ⟨((BitVec.ofInt 64 x).toNat &&& 65535), ?_, ?_⟩
    · show IntKind.i64.wrap ((BitVec.ofInt 64 x &&& BitVec.ofInt 64 65535).toNat : Int) = _
      rw [BitVec.toNat_and, show (BitVec.ofInt 64 65535).toNat = 65535 from rfl]
      have : (BitVec.ofInt 64 x).toNat &&& 65535 ≤ 65535 := Nat.and_le_right
      exact IntWalk.i64_in _ (by omega)
    · exact Nat.and_le_right
  refine ⟨m, m % n, h1, h2, ?_, by simp, Nat.mod_lt _ hn⟩
  rw [Int.tmod_eq_emod_of_nonneg (by omega)]
  simp
theorem lit_n' (n : Nat) (w' w : World) (x : Nat) (X : Int) (hX : X = (x : Int)) (hx : x < 18446744073709551616) (h0 : x ≠ 0) (h : w'.heap.size = w.heap.size + n) : Nt (w'.alloc (.cells #[.int .u64 X] 41)) (w.heap.size + n) 1 (.slice (some ⟨w.heap.size + n, 0, none⟩) 1 1) x := by
  have := lit1n w' x X hX hx h0
  rwa [h] at this

set_option maxHeartbeats 4000000 in
set_option maxRecDepth 100000 in
theorem next_walk (w : World) (hTW : TabW w) (x0 : Int) (_wx0 : (Lit.int .i64 x0).wf = true) :
    Calls Tryd.prog 11 #[.int .i64 x0] w (True_ w) := by
  obtain ⟨m0, a0, hm0, bm0, ta0, ra0, ba0⟩ := few_16' x0 800 (by omega)
  simp only [Int.cast_ofNat_Int] at ta0 ra0
  obtain ⟨k, hk⟩ : ∃ k : Int, (a0 : Int) - 400 = k := ⟨_, rfl⟩
  have h1 : -400 ≤ k := by omega
  have h2 : k ≤ 399 := by omega
  obtain ⟨hi, lo, e, q1, q2, q3, q4, q5, q6, q7, q8, q9⟩ := M.sig_parts (k := k) h1 (by omega)
  obtain ⟨up, low, f, p1, p2, p3, p4, p5, p6, p7, p8, p9⟩ := M.sig_parts (k := k + 1) (by omega) (by omega)
  obtain ⟨x1, x2⟩ := M.sig_next h1 h2
  have hg : f = e + 3 ∨ f = e + 4 := by
    unfold M.lg2 at q1 p1
    omega
  obtain ⟨c5, hc5⟩ : ∃ c : Nat, (0 - (-2000 : Int)).toNat = c := ⟨_, rfl⟩
  have cc : ∀ (a : Nat) (t : Int), -1500 ≤ t → M.ov a t 0 (-2000) = a * 5 ^ c5 * 2 ^ (t + 2000).toNat := by
    intro a t _
    unfold M.ov
    rw [hc5, show t - -2000 = t + 2000 by omega]
  have h5 : 0 < 5 ^ c5 := Nat.pow_pos (by omega)
  have mv : ∀ a p : Nat, a * 5 ^ c5 * p = a * p * 5 ^ c5 := fun a p => by ac_rfl
  have C1 : Hid (M.cmp (M.ov (M.sig k * 10) e 0 (-2000)) (M.ov (M.sig (k + 1) + 1) f 0 (-2000)) = -1) := by
    rw [Hid, cc _ _ (by omega), cc _ _ (by omega), mv, mv, M.cmp_times _ _ _ h5]
    rw [q1, p1] at x1
    rw [show e + 2000 = e + 127 - 127 + 2000 by omega, show f + 2000 = f + 127 - 127 + 2000 by omega]
    exact M.cmp_lt x1
  have C2 : Hid (M.cmp (M.ov (M.sig (k + 1)) f 0 (-2000)) (M.ov ((M.sig k + 1) * 10) e 0 (-2000)) = -1) := by
    rw [Hid, cc _ _ (by omega), cc _ _ (by omega), mv, mv, M.cmp_times _ _ _ h5]
    rw [q1, p1] at x2
    rw [show e + 2000 = e + 127 - 127 + 2000 by omega, show f + 2000 = f + 127 - 127 + 2000 by omega]
    exact M.cmp_lt x2
  clear cc h5 mv x1 x2 hc5
  obtain ⟨s, hs⟩ : ∃ s, M.sig k = s := ⟨_, rfl⟩
  obtain ⟨u, hu⟩ : ∃ s, M.sig (k + 1) = s := ⟨_, rfl⟩
  rw [hs, hu] at C1 C2
  have Q1 := Lib.hid q1
  have Q4 := Lib.hid q4
  have Q5 := Lib.hid q5
  have Q9 : Hid (lo + 18446744073709551616 * hi = s) := by rw [← hs]; exact q9
  have P1 := Lib.hid p1
  have P4 := Lib.hid p4
  have P5 := Lib.hid p5
  have P9 : Hid (low + 18446744073709551616 * up = u) := by rw [← hu]; exact p9
  clear q1 q4 q5 q9 p1 p4 p5 p9 hs hu
  have U := Up.refl w
  go_enter Tryd.func11, Tryd.ntmps11
  go_wp2_with fail
  refine (tshown_any _ (hTW.up U)).mono ?_
  rintro _ w1 ⟨rfl, h1⟩
  replace U := U.trans h1
  clear h1
  go_wp2_with fail
  refine (sig_any _ k e h1 (by omega) Q1 hi lo Q4 Q5).mono ?_
  rintro _ w2 ⟨rfl, h2⟩
  replace U := U.trans h2
  clear h2
  clear hk hm0 ta0 ra0
  go_wp2_with fail
  refine (sig_any _ (k + 1) f (by omega) (by omega) P1 up low P4 P5).mono ?_
  rintro _ w3 ⟨rfl, h3⟩
  replace U := U.trans h3
  clear h3
  go_wp2_with fail
  obtain ⟨V4, hV4⟩ : ∃ V4, w3.alloc (.cells #[.int .u64 (lo : Int), .int .u64 (hi : Int)] 41) = V4 := ⟨_, rfl⟩
  have uV4 : Up w3 V4 := by rw [← hV4]; first | exact (Up.refl _).alloc _ | exact ((Up.refl _).alloc _).alloc _ | exact (((Up.refl _).alloc _).alloc _).alloc _ | exact ((((Up.refl _).alloc _).alloc _).alloc _).alloc _ | ((repeat (refine Up.alloc ?_ _)); exact Up.refl _)
  have ls : Nw V4 w3.heap.size 2 (.slice (some ⟨w3.heap.size, 0, none⟩) 2 2) s := by rw [← hV4]; exact lit2 w3 lo hi s _ _ rfl rfl (by omega) (by omega) Q9.out
  rw [hV4]
  clear hV4
  replace U := U.trans uV4
  clear uV4
  refine (norm_any _ _ _ _ _ ls).mono ?_
  rintro _ w5 ⟨vs, rfl, ns, h5⟩
  replace ls := ls.up h5
  replace U := U.trans h5
  clear h5
  clear ls
  obtain ⟨Ans, sns, cns, wns, rfl, ns⟩ := ns
  replace ns : Nt w5 _ _ (.slice Ans sns cns) (s) := ⟨Ans, sns, cns, wns, rfl, ns⟩
  go_wp2_with fail
  obtain ⟨V6, hV6⟩ : ∃ V6, w5.alloc (.cells #[.int .u64 (low : Int), .int .u64 (up : Int)] 41) = V6 := ⟨_, rfl⟩
  have uV6 : Up w5 V6 := by rw [← hV6]; first | exact (Up.refl _).alloc _ | exact ((Up.refl _).alloc _).alloc _ | exact (((Up.refl _).alloc _).alloc _).alloc _ | exact ((((Up.refl _).alloc _).alloc _).alloc _).alloc _ | ((repeat (refine Up.alloc ?_ _)); exact Up.refl _)
  have lu : Nw V6 w5.heap.size 2 (.slice (some ⟨w5.heap.size, 0, none⟩) 2 2) u := by rw [← hV6]; exact lit2 w5 low up u _ _ rfl rfl (by omega) (by omega) P9.out
  rw [hV6]
  clear hV6
  replace ns := ns.up uV6
  replace U := U.trans uV6
  clear uV6
  refine (norm_any _ _ _ _ _ lu).mono ?_
  rintro _ w7 ⟨vu, rfl, nu, h7⟩
  replace ns := ns.up h7
  replace lu := lu.up h7
  replace U := U.trans h7
  clear h7
  clear lu
  obtain ⟨Anu, snu, cnu, wnu, rfl, nu⟩ := nu
  replace nu : Nt w7 _ _ (.slice Anu snu cnu) (u) := ⟨Anu, snu, cnu, wnu, rfl, nu⟩
  go_wp2_with fail
  obtain ⟨V8, hV8⟩ : ∃ V8, w7.alloc (.cells #[.int .u64 10] 41) = V8 := ⟨_, rfl⟩
  have uV8 : Up w7 V8 := by rw [← hV8]; first | exact (Up.refl _).alloc _ | exact ((Up.refl _).alloc _).alloc _ | exact (((Up.refl _).alloc _).alloc _).alloc _ | exact ((((Up.refl _).alloc _).alloc _).alloc _).alloc _ | ((repeat (refine Up.alloc ?_ _)); exact Up.refl _)
  have l10 : Nt V8 w7.heap.size 1 (.slice (some ⟨w7.heap.size, 0, none⟩) 1 1) 10 := by rw [← hV8]; exact lit1n w7 10 10 rfl (by omega) (by omega)
  rw [hV8]
  clear hV8
  replace ns := ns.up uV8
  replace nu := nu.up uV8
  replace U := U.trans uV8
  clear uV8
  refine (mul_any _ _ _ _ _ _ _ _ _ ns.nw l10.nw (by omega) (by omega)).mono ?_
  rintro _ w9 ⟨va, rfl, na, h9⟩
  replace ns := ns.up h9
  replace nu := nu.up h9
  replace l10 := l10.up h9
  replace U := U.trans h9
  clear h9
  clear l10
  obtain ⟨Ana, sna, cna, wna, rfl, na⟩ := na
  replace na : Nt w9 _ _ (.slice Ana sna cna) (s * 10) := ⟨Ana, sna, cna, wna, rfl, na⟩
  go_wp2_with fail
  obtain ⟨V10, hV10⟩ : ∃ V10, (w9.alloc (.cells #[.bool false, (.slice Ana sna cna), .int .i64 (e), .int .i64 (0)] 44)).alloc (.cells #[.int .u64 1] 41) = V10 := ⟨_, rfl⟩
  have uV10 : Up w9 V10 := by rw [← hV10]; first | exact (Up.refl _).alloc _ | exact ((Up.refl _).alloc _).alloc _ | exact (((Up.refl _).alloc _).alloc _).alloc _ | exact ((((Up.refl _).alloc _).alloc _).alloc _).alloc _ | ((repeat (refine Up.alloc ?_ _)); exact Up.refl _)
  have a : Bx V10 (w9.heap.size) false (.slice Ana sna cna) (e) (0) := by rw [← hV10]; exact (Bx.mk_ _ _ _ _ _).up ((Up.refl _).alloc _)
  have l1 : Nt V10 (w9.heap.size + 1) 1 (.slice (some ⟨w9.heap.size + 1, 0, none⟩) 1 1) 1 := by rw [← hV10]; exact lit1_at _ w9 1 1 rfl (by omega) (by omega)
  rw [hV10]
  clear hV10
  replace ns := ns.up uV10
  replace nu := nu.up uV10
  replace na := na.up uV10
  replace U := U.trans uV10
  clear uV10
  refine (add_of _ _ _ _ _ 2 _ _ _ _ ns.nw l1.nw (by omega) (by omega) (by omega)).mono ?_
  rintro _ w11 ⟨vb, rfl, nb, h11⟩
  replace ns := ns.up h11
  replace nu := nu.up h11
  replace na := na.up h11
  replace a := a.up h11
  replace l1 := l1.up h11
  replace U := U.trans h11
  clear h11
  clear l1
  obtain ⟨⟨a0, a1, a2, a3⟩, af0, af1, af2, af3⟩ := id a
  have a5 := World.block_lt_of_cell? _ _ a0
  simp only at a5
  go_wp2_with fail
  clear a0 a1 a2 a3 af0 af1 af2 af3 a5
  obtain ⟨V12, hV12⟩ : ∃ V12, w11.alloc (.cells #[.int .u64 10] 41) = V12 := ⟨_, rfl⟩
  have uV12 : Up w11 V12 := by rw [← hV12]; first | exact (Up.refl _).alloc _ | exact ((Up.refl _).alloc _).alloc _ | exact (((Up.refl _).alloc _).alloc _).alloc _ | exact ((((Up.refl _).alloc _).alloc _).alloc _).alloc _ | ((repeat (refine Up.alloc ?_ _)); exact Up.refl _)
  have l10 : Nt V12 w11.heap.size 1 (.slice (some ⟨w11.heap.size, 0, none⟩) 1 1) 10 := by rw [← hV12]; exact lit1n w11 10 10 rfl (by omega) (by omega)
  rw [hV12]
  clear hV12
  replace ns := ns.up uV12
  replace nu := nu.up uV12
  replace na := na.up uV12
  replace a := a.up uV12
  replace nb := nb.up uV12
  replace U := U.trans uV12
  clear uV12
  refine (mul_any _ _ _ _ _ _ _ _ _ nb.nw l10.nw (by omega) (by omega)).mono ?_
  rintro _ w13 ⟨vc, rfl, nc, h13⟩
  replace ns := ns.up h13
  replace nu := nu.up h13
  replace na := na.up h13
  replace a := a.up h13
  replace nb := nb.up h13
  replace l10 := l10.up h13
  replace U := U.trans h13
  clear h13
  clear l10
  clear nb
  obtain ⟨Anc, snc, cnc, wnc, rfl, nc⟩ := nc
  replace nc : Nt w13 _ _ (.slice Anc snc cnc) ((s + 1) * 10) := ⟨Anc, snc, cnc, wnc, rfl, nc⟩
  obtain ⟨⟨a0, a1, a2, a3⟩, af0, af1, af2, af3⟩ := id a
  have a5 := World.block_lt_of_cell? _ _ a0
  simp only at a5
  go_wp2_with fail
  clear a0 a1 a2 a3 af0 af1 af2 af3 a5
  obtain ⟨V14, hV14⟩ : ∃ V14, ((w13.alloc (.cells #[.bool false, (.slice Anc snc cnc), .int .i64 (e), .int .i64 (0)] 44)).alloc (.cells #[.bool false, (.slice Anu snu cnu), .int .i64 (f), .int .i64 (0)] 44)).alloc (.cells #[.int .u64 1] 41) = V14 := ⟨_, rfl⟩
  have uV14 : Up w13 V14 := by rw [← hV14]; first | exact (Up.refl _).alloc _ | exact ((Up.refl _).alloc _).alloc _ | exact (((Up.refl _).alloc _).alloc _).alloc _ | exact ((((Up.refl _).alloc _).alloc _).alloc _).alloc _ | ((repeat (refine Up.alloc ?_ _)); exact Up.refl _)
  have b : Bx V14 (w13.heap.size) false (.slice Anc snc cnc) (e) (0) := by rw [← hV14]; exact ((Bx.mk_ _ _ _ _ _).up ((Up.refl _).alloc _)).up ((Up.refl _).alloc _)
  have c : Bx V14 (w13.heap.size + 1) false (.slice Anu snu cnu) (f) (0) := by rw [← hV14]; exact (bx_at _ w13 _ _ _ _).up ((Up.refl _).alloc _)
  have l1 : Nt V14 (w13.heap.size + 1 + 1) 1 (.slice (some ⟨w13.heap.size + 1 + 1, 0, none⟩) 1 1) 1 := by rw [← hV14]; exact lit_n' 2 _ w13 1 1 rfl (by omega) (by omega) (by simp)
  rw [hV14]
  clear hV14
  replace ns := ns.up uV14
  replace nu := nu.up uV14
  replace na := na.up uV14
  replace a := a.up uV14
  replace nc := nc.up uV14
  replace U := U.trans uV14
  clear uV14
  refine (add_of _ _ _ _ _ 2 _ _ _ _ nu.nw l1.nw (by omega) (by omega) (by omega)).mono ?_
  rintro _ w15 ⟨vd, rfl, nd, h15⟩
  replace ns := ns.up h15
  replace nu := nu.up h15
  replace na := na.up h15
  replace a := a.up h15
  replace nc := nc.up h15
  replace b := b.up h15
  replace c := c.up h15
  replace l1 := l1.up h15
  replace U := U.trans h15
  clear h15
  clear l1
  obtain ⟨And, snd, cnd, wnd, rfl, nd⟩ := nd
  replace nd : Nt w15 _ _ (.slice And snd cnd) (u + 1) := ⟨And, snd, cnd, wnd, rfl, nd⟩
  obtain ⟨⟨a0, a1, a2, a3⟩, af0, af1, af2, af3⟩ := id a
  have a5 := World.block_lt_of_cell? _ _ a0
  simp only at a5
  obtain ⟨⟨b0, b1, b2, b3⟩, bf0, bf1, bf2, bf3⟩ := id b
  have b5 := World.block_lt_of_cell? _ _ b0
  simp only at b5
  obtain ⟨⟨c0, c1, c2, c3⟩, cf0, cf1, cf2, cf3⟩ := id c
  have c5 := World.block_lt_of_cell? _ _ c0
  simp only at c5
  go_wp2_with fail
  clear a0 a1 a2 a3 af0 af1 af2 af3 a5
  clear b0 b1 b2 b3 bf0 bf1 bf2 bf3 b5
  clear c0 c1 c2 c3 cf0 cf1 cf2 cf3 c5
  obtain ⟨V16, hV16⟩ : ∃ V16, w15.alloc (.cells #[.bool false, (.slice And snd cnd), .int .i64 (f), .int .i64 (0)] 44) = V16 := ⟨_, rfl⟩
  have uV16 : Up w15 V16 := by rw [← hV16]; first | exact (Up.refl _).alloc _ | exact ((Up.refl _).alloc _).alloc _ | exact (((Up.refl _).alloc _).alloc _).alloc _ | exact ((((Up.refl _).alloc _).alloc _).alloc _).alloc _ | ((repeat (refine Up.alloc ?_ _)); exact Up.refl _)
  have d : Bx V16 (w15.heap.size) false (.slice And snd cnd) (f) (0) := by rw [← hV16]; exact Bx.mk_ _ _ _ _ _
  rw [hV16]
  clear hV16
  replace ns := ns.up uV16
  replace nu := nu.up uV16
  replace na := na.up uV16
  replace a := a.up uV16
  replace nc := nc.up uV16
  replace b := b.up uV16
  replace c := c.up uV16
  replace nd := nd.up uV16
  replace U := U.trans uV16
  clear uV16
  have hf3 : ((f : Int) - e == 3) = decide (f = e + 3) := by rw [Bool.eq_iff_iff, beq_iff_eq, decide_eq_true_iff]; omega
  clear hf3
  obtain ⟨⟨a0, a1, a2, a3⟩, af0, af1, af2, af3⟩ := id a
  have a5 := World.block_lt_of_cell? _ _ a0
  simp only at a5
  obtain ⟨⟨b0, b1, b2, b3⟩, bf0, bf1, bf2, bf3⟩ := id b
  have b5 := World.block_lt_of_cell? _ _ b0
  simp only at b5
  obtain ⟨⟨c0, c1, c2, c3⟩, cf0, cf1, cf2, cf3⟩ := id c
  have c5 := World.block_lt_of_cell? _ _ c0
  simp only at c5
  obtain ⟨⟨d0, d1, d2, d3⟩, df0, df1, df2, df3⟩ := id d
  have d5 := World.block_lt_of_cell? _ _ d0
  simp only at d5
  go_wp2_with fail
  clear a0 a1 a2 a3 af0 af1 af2 af3 a5
  clear b0 b1 b2 b3 bf0 bf1 bf2 bf3 b5
  clear c0 c1 c2 c3 cf0 cf1 cf2 cf3 c5
  clear d0 d1 d2 d3 df0 df1 df2 df3 d5
  refine (xcmp_ov (-2000) (by omega) _ _ _ 5 5 _ _ _ _ _ _ _ _ _ _ (na.nw.more (by omega)) (nd.nw.more (by omega)) (by omega) (by omega) ⟨by omega, by omega⟩ ⟨by omega, by omega⟩ ⟨by omega, by omega⟩ ⟨by omega, by omega⟩ (-1) C1).mono ?_
  rintro _ w17 ⟨rfl, h17⟩
  replace ns := ns.up h17
  replace nu := nu.up h17
  replace na := na.up h17
  replace a := a.up h17
  replace nc := nc.up h17
  replace b := b.up h17
  replace c := c.up h17
  replace nd := nd.up h17
  replace d := d.up h17
  replace U := U.trans h17
  clear h17
  obtain ⟨⟨a0, a1, a2, a3⟩, af0, af1, af2, af3⟩ := id a
  have a5 := World.block_lt_of_cell? _ _ a0
  simp only at a5
  obtain ⟨⟨b0, b1, b2, b3⟩, bf0, bf1, bf2, bf3⟩ := id b
  have b5 := World.block_lt_of_cell? _ _ b0
  simp only at b5
  obtain ⟨⟨c0, c1, c2, c3⟩, cf0, cf1, cf2, cf3⟩ := id c
  have c5 := World.block_lt_of_cell? _ _ c0
  simp only at c5
  obtain ⟨⟨d0, d1, d2, d3⟩, df0, df1, df2, df3⟩ := id d
  have d5 := World.block_lt_of_cell? _ _ d0
  simp only at d5
  go_wp2_with fail
  clear a0 a1 a2 a3 af0 af1 af2 af3 a5
  clear b0 b1 b2 b3 bf0 bf1 bf2 bf3 b5
  clear c0 c1 c2 c3 cf0 cf1 cf2 cf3 c5
  clear d0 d1 d2 d3 df0 df1 df2 df3 d5
  refine (xcmp_ov (-2000) (by omega) _ _ _ 5 5 _ _ _ _ _ _ _ _ _ _ (nu.nw.more (by omega)) (nc.nw.more (by omega)) (by omega) (by omega) ⟨by omega, by omega⟩ ⟨by omega, by omega⟩ ⟨by omega, by omega⟩ ⟨by omega, by omega⟩ (-1) C2).mono ?_
  rintro _ w18 ⟨rfl, h18⟩
  replace ns := ns.up h18
  replace nu := nu.up h18
  replace na := na.up h18
  replace a := a.up h18
  replace nc := nc.up h18
  replace b := b.up h18
  replace c := c.up h18
  replace nd := nd.up h18
  replace d := d.up h18
  replace U := U.trans h18
  clear h18
  rcases hg with rfl | rfl
  all_goals
    have e3 : e + 3 - e = 3 := by omega
    have e4 : e + 4 - e = 4 := by omega
    go_wp2_with fail
    go_ret
    exact ⟨rfl, U⟩
end Go.Proofs.YteeepfhjbemgoaaDoor
