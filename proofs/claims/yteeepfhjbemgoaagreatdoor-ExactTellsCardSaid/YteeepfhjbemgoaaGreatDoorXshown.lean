/-
  What each law of layer 2 shows first.
-/
import Derived.Test.YteeepfhjbemgoaaGreatDoorEx6
namespace Go.Proofs.YteeepfhjbemgoaaGreatDoor
open Go.RowKit Go.Shelf

namespace M
theorem two_unique : ∀ (l m x y : Nat), x * 2 ^ l = y * 2 ^ m → x % 2 ≠ 0 → y % 2 ≠ 0 → l = m ∧ x = y
  | 0, 0, x, y, h, _, _ => ⟨rfl, by simpa using h⟩
  | 0, m + 1, x, y, h, hx, _ => by
    exfalso
    rw [Nat.pow_succ, ← Nat.mul_assoc] at h
    omega
  | l + 1, 0, x, y, h, _, hy => by
    exfalso
    rw [Nat.pow_succ, ← Nat.mul_assoc] at h
    omega
  | l + 1, m + 1, x, y, h, hx, hy => by
    rw [Nat.pow_succ, ← Nat.mul_assoc, Nat.pow_succ, ← Nat.mul_assoc] at h
    obtain ⟨h1, h2⟩ := two_unique l m x y (by omega) hx hy
    exact ⟨by omega, h2⟩
theorem five_unique : ∀ (l m x y : Nat), x * 5 ^ l = y * 5 ^ m → x % 5 ≠ 0 → y % 5 ≠ 0 → l = m ∧ x = y
  | 0, 0, x, y, h, _, _ => ⟨rfl, by simpa using h⟩
  | 0, m + 1, x, y, h, hx, _ => by
    exfalso
    rw [Nat.pow_succ, ← Nat.mul_assoc] at h
    omega
  | l + 1, 0, x, y, h, _, hy => by
    exfalso
    rw [Nat.pow_succ, ← Nat.mul_assoc] at h
    omega
  | l + 1, m + 1, x, y, h, hx, hy => by
    rw [Nat.pow_succ, ← Nat.mul_assoc, Nat.pow_succ, ← Nat.mul_assoc] at h
    obtain ⟨h1, h2⟩ := five_unique l m x y (by omega) hx hy
    exact ⟨by omega, h2⟩
theorem odd_five {x k : Nat} (h : x % 2 ≠ 0) : x * 5 ^ k % 2 ≠ 0 := by
  induction k with
  | zero => simpa using h
  | succ k ih => rw [Nat.pow_succ, ← Nat.mul_assoc]; omega
/-- Two ways to write a number, reduced. -/
theorem red_unique {x y k l k' l' : Nat} (h : x * 5 ^ k * 2 ^ l = y * 5 ^ k' * 2 ^ l') (hx : x % 2 ≠ 0) (hx5 : x % 5 ≠ 0) (hy : y % 2 ≠ 0) (hy5 : y % 5 ≠ 0) : x = y ∧ k = k' ∧ l = l' := by
  obtain ⟨h1, h2⟩ := two_unique l l' _ _ h (odd_five hx) (odd_five hy)
  obtain ⟨h3, h4⟩ := five_unique k k' x y h2 hx5 hy5
  exact ⟨h4, h3, h1⟩
theorem big (F T : Nat) (hF : 0 < F) : 1 * 5 ^ 0 * 2 ^ 0 < 1 * 5 ^ F * 2 ^ T := by
  have h1 : 5 ^ 1 ≤ 5 ^ F := Nat.pow_le_pow_right (by omega) hF
  have h2 : 0 < 2 ^ T := Nat.pow_pos (by omega)
  have h3 : 1 * 5 ^ F * 1 ≤ 1 * 5 ^ F * 2 ^ T := Nat.mul_le_mul_left _ h2
  simp only [Nat.pow_zero] at *
  omega
end M
theorem rd125 {a : Nat} {t f : Int} (h : M.Rd 125 (-2) (-2) 1 a t f) : a = 1 ∧ t = -2 ∧ f = 1 := by
  obtain ⟨k2, k5, h1, h2, h3, h4, h5, _, _⟩ := h.pos (by omega)
  have h6 : a * 5 ^ k5 * 2 ^ k2 = 1 * 5 ^ 3 * 2 ^ 0 := by rw [h1]
  obtain ⟨e1, e2, e3⟩ := M.red_unique h6 h2 h3 (by omega) (by omega)
  subst e2 e3
  exact ⟨e1, by rw [h4]; rfl, by rw [h5]; rfl⟩
set_option maxHeartbeats 16000000 in
set_option maxRecDepth 100000 in
theorem xshown_any (w : World) (hTW : TabW w) : Calls Tryz.prog 19 #[] w (True_ w) := by
  have U := Up.refl w
  go_enter Tryz.func19, Tryz.ntmps19
  go_wp2_with fail
  obtain ⟨V1, hV1⟩ : ∃ V1, (w.alloc (.cells #[.int .u64 5] 49)).alloc (.cells #[.bool false, .slice (some ⟨w.heap.size, 0, none⟩) 1 1, .int .i64 (-2), .int .i64 (0)] 40) = V1 := ⟨_, rfl⟩
  have uV1 : Up w V1 := by rw [← hV1]; first | exact (Up.refl _).alloc _ | exact ((Up.refl _).alloc _).alloc _ | exact (((Up.refl _).alloc _).alloc _).alloc _
  have nx : Nt V1 w.heap.size 1 (.slice (some ⟨w.heap.size, 0, none⟩) 1 1) 5 := by rw [← hV1]; exact (lit1n w 5 5 rfl (by omega) (by omega)).up ((Up.refl _).alloc _)
  have x : Bx V1 (w.heap.size + 1) false (.slice (some ⟨w.heap.size, 0, none⟩) 1 1) (-2) 0 := by rw [← hV1]; exact bx_at (.cells #[.int .u64 5] 49) w _ _ _ _
  rw [hV1]
  clear hV1
  replace U := U.trans uV1
  clear uV1
  refine (floor_any _ _ 1 false _ (-2) 0 5 nx.nw (by omega) (by omega) (by omega) 0 0 (by show _ = _; omega) 0 0 2 0 (by show _ = _; omega) (by show _ = _; omega) (by show _ = _; omega) (by show _ = _; omega) 1 1 (by show _ = _; decide) (by show _ = _; decide) 1 (by show _ = _; decide)).mono ?_
  rintro _ w2 ⟨vq, rfl, q, h2⟩
  replace nx := nx.up h2
  replace x := x.up h2
  replace U := U.trans h2
  clear h2
  go_wp2_with fail
  refine (xof_fin _ true 5 (-2) (by omega) (by decide)).mono ?_
  rintro _ w3 ⟨vy, rfl, ny, h3⟩
  replace nx := nx.up h3
  replace x := x.up h3
  replace q := q.up h3
  replace U := U.trans h3
  clear h3
  obtain ⟨Any, sny, cny, wny, rfl, ny⟩ := ny
  replace ny : Nt w3 _ _ (.slice Any sny cny) 5 := ⟨Any, sny, cny, wny, rfl, ny⟩
  go_wp2_with fail
  obtain ⟨V4, hV4⟩ : ∃ V4, w3.alloc (.cells #[.bool true, (.slice Any sny cny), .int .i64 (-2), .int .i64 (0)] 40) = V4 := ⟨_, rfl⟩
  have uV4 : Up w3 V4 := by rw [← hV4]; first | exact (Up.refl _).alloc _ | exact ((Up.refl _).alloc _).alloc _ | exact (((Up.refl _).alloc _).alloc _).alloc _
  have y : Bx V4 w3.heap.size true (.slice Any sny cny) (-2) 0 := by rw [← hV4]; exact Bx.mk_ _ _ _ _ _
  rw [hV4]
  clear hV4
  replace nx := nx.up uV4
  replace x := x.up uV4
  replace q := q.up uV4
  replace ny := ny.up uV4
  replace U := U.trans uV4
  clear uV4
  refine (xof_zero _ true 0 0).mono ?_
  rintro _ w5 ⟨vz, rfl, nz, h5⟩
  replace nx := nx.up h5
  replace x := x.up h5
  replace q := q.up h5
  replace ny := ny.up h5
  replace y := y.up h5
  replace U := U.trans h5
  clear h5
  obtain ⟨Anz, snz, cnz, wnz, rfl, nz⟩ := nz
  replace nz : Nt w5 _ _ (.slice Anz snz cnz) 0 := ⟨Anz, snz, cnz, wnz, rfl, nz⟩
  go_wp2_with fail
  obtain ⟨V6, hV6⟩ : ∃ V6, w5.alloc (.cells #[.bool true, (.slice Anz snz cnz), .int .i64 (0), .int .i64 (0)] 40) = V6 := ⟨_, rfl⟩
  have uV6 : Up w5 V6 := by rw [← hV6]; first | exact (Up.refl _).alloc _ | exact ((Up.refl _).alloc _).alloc _ | exact (((Up.refl _).alloc _).alloc _).alloc _
  have zz : Bx V6 w5.heap.size true (.slice Anz snz cnz) 0 0 := by rw [← hV6]; exact Bx.mk_ _ _ _ _ _
  rw [hV6]
  clear hV6
  replace nx := nx.up uV6
  replace x := x.up uV6
  replace q := q.up uV6
  replace ny := ny.up uV6
  replace y := y.up uV6
  replace nz := nz.up uV6
  replace U := U.trans uV6
  clear uV6
  refine (xof_none _ 4 false 0 0 (by decide) (by decide)).mono ?_
  rintro _ w7 ⟨vn, rfl, nn, h7⟩
  replace nx := nx.up h7
  replace x := x.up h7
  replace q := q.up h7
  replace ny := ny.up h7
  replace y := y.up h7
  replace nz := nz.up h7
  replace zz := zz.up h7
  replace U := U.trans h7
  clear h7
  obtain ⟨Ann, snn, cnn, wnn, rfl, nn⟩ := nn
  replace nn : Nt w7 _ _ (.slice Ann snn cnn) 0 := ⟨Ann, snn, cnn, wnn, rfl, nn⟩
  clear nn
  go_wp2_with fail
  obtain ⟨V8, hV8⟩ : ∃ V8, (w7.alloc (.cells #[.bool false, (.slice Ann snn cnn), .int .i64 (0), .int .i64 (0)] 40)).alloc (.cells #[.int .u64 125] 49) = V8 := ⟨_, rfl⟩
  have uV8 : Up w7 V8 := by rw [← hV8]; first | exact (Up.refl _).alloc _ | exact ((Up.refl _).alloc _).alloc _ | exact (((Up.refl _).alloc _).alloc _).alloc _
  have nl : Nt V8 (w7.heap.size + 1) 1 (.slice (some ⟨w7.heap.size + 1, 0, none⟩) 1 1) 125 := by rw [← hV8]; exact lit1_at (.cells #[.bool false, (.slice Ann snn cnn), .int .i64 (0), .int .i64 (0)] 40) w7 125 125 rfl (by omega) (by omega)
  rw [hV8]
  clear hV8
  replace nx := nx.up uV8
  replace x := x.up uV8
  replace q := q.up uV8
  replace ny := ny.up uV8
  replace y := y.up uV8
  replace nz := nz.up uV8
  replace zz := zz.up uV8
  replace U := U.trans uV8
  clear uV8
  refine (dec_yes _ _ 1 false _ 125 (-2) nl.nw (lt_w128 (by omega)) (by decide)).mono ?_
  rintro _ w9 ⟨vd, rfl, nd, h9⟩
  replace nx := nx.up h9
  replace x := x.up h9
  replace q := q.up h9
  replace ny := ny.up h9
  replace y := y.up h9
  replace nz := nz.up h9
  replace zz := zz.up h9
  replace nl := nl.up h9
  replace U := U.trans h9
  clear h9
  clear nl
  obtain ⟨And, snd, cnd, wnd, rfl, nd⟩ := nd
  replace nd : Nt w9 _ _ (.slice And snd cnd) 125 := ⟨And, snd, cnd, wnd, rfl, nd⟩
  go_wp2_with fail
  obtain ⟨V10, hV10⟩ : ∃ V10, (w9.alloc (.cells #[.bool false, (.slice And snd cnd), .int .i64 (-2), .int .i64 (-2)] 40)).alloc (.cells #[.int .u64 1] 49) = V10 := ⟨_, rfl⟩
  have uV10 : Up w9 V10 := by rw [← hV10]; first | exact (Up.refl _).alloc _ | exact ((Up.refl _).alloc _).alloc _ | exact (((Up.refl _).alloc _).alloc _).alloc _
  have nl : Nt V10 (w9.heap.size + 1) 1 (.slice (some ⟨w9.heap.size + 1, 0, none⟩) 1 1) 1 := by rw [← hV10]; exact lit1_at (.cells #[.bool false, (.slice And snd cnd), .int .i64 (-2), .int .i64 (-2)] 40) w9 1 1 rfl (by omega) (by omega)
  have d : Bx V10 w9.heap.size false (.slice And snd cnd) (-2) (-2) := by rw [← hV10]; exact (Bx.mk_ _ _ _ _ _).up ((Up.refl _).alloc _)
  rw [hV10]
  clear hV10
  replace nx := nx.up uV10
  replace x := x.up uV10
  replace q := q.up uV10
  replace ny := ny.up uV10
  replace y := y.up uV10
  replace nz := nz.up uV10
  replace zz := zz.up uV10
  replace nd := nd.up uV10
  replace U := U.trans uV10
  clear uV10
  refine (dec_no _ _ 1 false _ 1 5001 nl.nw (fun h => by have := h.2; omega)).mono ?_
  rintro _ w11 ⟨vf, rfl, nf, h11⟩
  replace nx := nx.up h11
  replace x := x.up h11
  replace q := q.up h11
  replace ny := ny.up h11
  replace y := y.up h11
  replace nz := nz.up h11
  replace zz := zz.up h11
  replace nd := nd.up h11
  replace nl := nl.up h11
  replace d := d.up h11
  replace U := U.trans h11
  clear h11
  clear nl
  obtain ⟨Anf, snf, cnf, wnf, rfl, nf⟩ := nf
  replace nf : Nt w11 _ _ (.slice Anf snf cnf) 0 := ⟨Anf, snf, cnf, wnf, rfl, nf⟩
  clear nf
  obtain ⟨⟨d0, d1, d2, d3⟩, d4⟩ := id d
  have d5 := World.block_lt_of_cell? _ _ d0
  simp only at d5
  go_wp2_with fail
  clear d0 d1 d2 d3 d4 d5
  obtain ⟨V12, hV12⟩ : ∃ V12, w11.alloc (.cells #[.bool false, (.slice Anf snf cnf), .int .i64 (0), .int .i64 (0)] 40) = V12 := ⟨_, rfl⟩
  have uV12 : Up w11 V12 := by rw [← hV12]; first | exact (Up.refl _).alloc _ | exact ((Up.refl _).alloc _).alloc _ | exact (((Up.refl _).alloc _).alloc _).alloc _
  rw [hV12]
  clear hV12
  replace nx := nx.up uV12
  replace x := x.up uV12
  replace q := q.up uV12
  replace ny := ny.up uV12
  replace y := y.up uV12
  replace nz := nz.up uV12
  replace zz := zz.up uV12
  replace nd := nd.up uV12
  replace d := d.up uV12
  replace U := U.trans uV12
  clear uV12
  refine (reduced_any _ _ 1 false _ (-2) (-2) 125 nd.nw (by omega) (by omega) (by omega)).mono ?_
  rintro _ w13 ⟨vr, ar, tr, fr, rfl, nr, h13, hrd⟩
  replace nx := nx.up h13
  replace x := x.up h13
  replace q := q.up h13
  replace ny := ny.up h13
  replace y := y.up h13
  replace nz := nz.up h13
  replace zz := zz.up h13
  replace nd := nd.up h13
  replace d := d.up h13
  replace U := U.trans h13
  clear h13
  obtain ⟨rfl, rfl, rfl⟩ := rd125 hrd
  clear hrd
  obtain ⟨Anr, snr, cnr, wnr, rfl, nr⟩ := nr
  replace nr : Nt w13 _ _ (.slice Anr snr cnr) 1 := ⟨Anr, snr, cnr, wnr, rfl, nr⟩
  go_wp2_with fail
  obtain ⟨V14, hV14⟩ : ∃ V14, (w13.alloc (.cells #[.bool false, (.slice Anr snr cnr), .int .i64 (-2), .int .i64 (1)] 40)).alloc (.cells #[.int .u64 1] 49) = V14 := ⟨_, rfl⟩
  have uV14 : Up w13 V14 := by rw [← hV14]; first | exact (Up.refl _).alloc _ | exact ((Up.refl _).alloc _).alloc _ | exact (((Up.refl _).alloc _).alloc _).alloc _
  have nl : Nt V14 (w13.heap.size + 1) 1 (.slice (some ⟨w13.heap.size + 1, 0, none⟩) 1 1) 1 := by rw [← hV14]; exact lit1_at (.cells #[.bool false, (.slice Anr snr cnr), .int .i64 (-2), .int .i64 (1)] 40) w13 1 1 rfl (by omega) (by omega)
  have rr : Bx V14 w13.heap.size false (.slice Anr snr cnr) (-2) 1 := by rw [← hV14]; exact (Bx.mk_ _ _ _ _ _).up ((Up.refl _).alloc _)
  rw [hV14]
  clear hV14
  replace nx := nx.up uV14
  replace x := x.up uV14
  replace q := q.up uV14
  replace ny := ny.up uV14
  replace y := y.up uV14
  replace nz := nz.up uV14
  replace zz := zz.up uV14
  replace nd := nd.up uV14
  replace d := d.up uV14
  replace nr := nr.up uV14
  replace U := U.trans uV14
  clear uV14
  refine (cmp_at _ _ _ _ _ _ _ 1 1 0 q.nw nl.nw (by show _ = _; decide)).mono ?_
  rintro _ w15 ⟨rfl, kk, hk⟩
  have h15 : Up V14 w15 := by rw [hk]; exact (Up.refl _).drewN _
  clear hk
  replace nx := nx.up h15
  replace x := x.up h15
  replace q := q.up h15
  replace ny := ny.up h15
  replace y := y.up h15
  replace nz := nz.up h15
  replace zz := zz.up h15
  replace nd := nd.up h15
  replace d := d.up h15
  replace nr := nr.up h15
  replace nl := nl.up h15
  replace rr := rr.up h15
  replace U := U.trans h15
  clear h15
  clear nl
  obtain ⟨⟨x0, x1, x2, x3⟩, x4⟩ := id x
  have x5 := World.block_lt_of_cell? _ _ x0
  simp only at x5
  obtain ⟨⟨y0, y1, y2, y3⟩, y4⟩ := id y
  have y5 := World.block_lt_of_cell? _ _ y0
  simp only at y5
  go_wp2_with fail
  clear x0 x1 x2 x3 x4 x5
  clear y0 y1 y2 y3 y4 y5
  refine (xcmp_any _ _ _ _ _ false true _ _ (-2) 0 (-2) 0 5 5 nx.nw ny.nw (by omega) (by omega) (by omega) (by omega) (by omega) (by omega) 0 0 0 0 (by show _ = _; omega) (by show _ = _; omega) (by show _ = _; omega) (by show _ = _; omega) 0 (by show _ = _; decide)).mono ?_
  rintro _ w16 ⟨rfl, h16⟩
  replace nx := nx.up h16
  replace x := x.up h16
  replace q := q.up h16
  replace ny := ny.up h16
  replace y := y.up h16
  replace nz := nz.up h16
  replace zz := zz.up h16
  replace nd := nd.up h16
  replace d := d.up h16
  replace nr := nr.up h16
  replace rr := rr.up h16
  replace U := U.trans h16
  clear h16
  obtain ⟨⟨x0, x1, x2, x3⟩, x4⟩ := id x
  have x5 := World.block_lt_of_cell? _ _ x0
  simp only at x5
  obtain ⟨⟨y0, y1, y2, y3⟩, y4⟩ := id y
  have y5 := World.block_lt_of_cell? _ _ y0
  simp only at y5
  go_wp2_with fail
  clear x0 x1 x2 x3 x4 x5
  clear y0 y1 y2 y3 y4 y5
  refine (xcmps_any _ _ _ _ _ false true _ _ (-2) 0 (-2) 0 5 5 nx.nw ny.nw (by omega) (by omega) (by omega) (by omega) (by omega) (by omega) 0 0 0 0 (by show _ = _; omega) (by show _ = _; omega) (by show _ = _; omega) (by show _ = _; omega) 0 (by show _ = _; decide) 1 (by show _ = _; decide)).mono ?_
  rintro _ w17 ⟨rfl, h17⟩
  replace nx := nx.up h17
  replace x := x.up h17
  replace q := q.up h17
  replace ny := ny.up h17
  replace y := y.up h17
  replace nz := nz.up h17
  replace zz := zz.up h17
  replace nd := nd.up h17
  replace d := d.up h17
  replace nr := nr.up h17
  replace rr := rr.up h17
  replace U := U.trans h17
  clear h17
  obtain ⟨⟨zz0, zz1, zz2, zz3⟩, zz4⟩ := id zz
  have zz5 := World.block_lt_of_cell? _ _ zz0
  simp only at zz5
  go_wp2_with fail
  clear zz0 zz1 zz2 zz3 zz4 zz5
  have nz0 : Nt w17 0 0 (.slice none 0 0) 0 := Nt.nil _ _ _
  refine (xcmps_any _ _ _ _ _ true false _ _ 0 0 0 0 0 0 nz.nw nz0.nw (by omega) (by omega) (by omega) (by omega) (by omega) (by omega) 0 0 0 0 (by show _ = _; omega) (by show _ = _; omega) (by show _ = _; omega) (by show _ = _; omega) 0 (by show _ = _; decide) 0 (by show _ = _; decide)).mono ?_
  rintro _ w18 ⟨rfl, h18⟩
  replace nx := nx.up h18
  replace x := x.up h18
  replace q := q.up h18
  replace ny := ny.up h18
  replace y := y.up h18
  replace nz := nz.up h18
  replace zz := zz.up h18
  replace nd := nd.up h18
  replace d := d.up h18
  replace nr := nr.up h18
  replace rr := rr.up h18
  replace U := U.trans h18
  clear h18
  clear nz0
  clear nz
  clear zz
  clear ny
  clear y
  obtain ⟨⟨d0, d1, d2, d3⟩, d4⟩ := id d
  have d5 := World.block_lt_of_cell? _ _ d0
  simp only at d5
  obtain ⟨⟨x0, x1, x2, x3⟩, x4⟩ := id x
  have x5 := World.block_lt_of_cell? _ _ x0
  simp only at x5
  go_wp2_with fail
  clear d0 d1 d2 d3 d4 d5
  clear x0 x1 x2 x3 x4 x5
  refine (xcmp_any _ _ _ _ _ false false _ _ (-2) (-2) (-2) 0 125 5 nd.nw nx.nw (by omega) (by omega) (by omega) (by omega) (by omega) (by omega) 0 0 0 2 (by show _ = _; omega) (by show _ = _; omega) (by show _ = _; omega) (by show _ = _; omega) 0 (by show _ = _; decide)).mono ?_
  rintro _ w19 ⟨rfl, h19⟩
  replace nx := nx.up h19
  replace x := x.up h19
  replace q := q.up h19
  replace nd := nd.up h19
  replace d := d.up h19
  replace nr := nr.up h19
  replace rr := rr.up h19
  replace U := U.trans h19
  clear h19
  obtain ⟨⟨rr0, rr1, rr2, rr3⟩, rr4⟩ := id rr
  have rr5 := World.block_lt_of_cell? _ _ rr0
  simp only at rr5
  go_wp2_with fail
  clear rr0 rr1 rr2 rr3 rr4 rr5
  obtain ⟨V20, hV20⟩ : ∃ V20, w19.alloc (.cells #[.int .u64 1] 49) = V20 := ⟨_, rfl⟩
  have uV20 : Up w19 V20 := by rw [← hV20]; first | exact (Up.refl _).alloc _ | exact ((Up.refl _).alloc _).alloc _ | exact (((Up.refl _).alloc _).alloc _).alloc _
  have nl : Nt V20 w19.heap.size 1 (.slice (some ⟨w19.heap.size, 0, none⟩) 1 1) 1 := by rw [← hV20]; exact lit1n w19 1 1 rfl (by omega) (by omega)
  rw [hV20]
  clear hV20
  replace nx := nx.up uV20
  replace x := x.up uV20
  replace q := q.up uV20
  replace nd := nd.up uV20
  replace d := d.up uV20
  replace nr := nr.up uV20
  replace rr := rr.up uV20
  replace U := U.trans uV20
  clear uV20
  refine (cmp_at _ _ _ _ _ _ _ 1 1 0 nr.nw nl.nw (by show _ = _; decide)).mono ?_
  rintro _ w21 ⟨rfl, kk, hk⟩
  have h21 : Up V20 w21 := by rw [hk]; exact (Up.refl _).drewN _
  clear hk
  replace nx := nx.up h21
  replace x := x.up h21
  replace q := q.up h21
  replace nd := nd.up h21
  replace d := d.up h21
  replace nr := nr.up h21
  replace rr := rr.up h21
  replace nl := nl.up h21
  replace U := U.trans h21
  clear h21
  clear nl
  obtain ⟨⟨rr0, rr1, rr2, rr3⟩, rr4⟩ := id rr
  have rr5 := World.block_lt_of_cell? _ _ rr0
  simp only at rr5
  obtain ⟨⟨x0, x1, x2, x3⟩, x4⟩ := id x
  have x5 := World.block_lt_of_cell? _ _ x0
  simp only at x5
  go_wp2_with fail
  clear rr0 rr1 rr2 rr3 rr4 rr5
  clear x0 x1 x2 x3 x4 x5
  refine (log10_any _ (hTW.up U) _ _ false _ (-2) 0 5 nx.nw (by omega) (by omega) (by omega) (-2) (by show _ = _; omega) 0 2 (by show _ = _; omega) (by show _ = _; omega) 0 (by simp [Hid, M.log10, Lib.decDigits])).mono ?_
  rintro _ w22 ⟨rfl, h22⟩
  replace nx := nx.up h22
  replace x := x.up h22
  replace q := q.up h22
  replace nd := nd.up h22
  replace d := d.up h22
  replace nr := nr.up h22
  replace rr := rr.up h22
  replace U := U.trans h22
  clear h22
  go_wp2_with fail
  refine (ten_any _ (-3)).mono ?_
  rintro _ w23 ⟨vt, rfl, nt, h23⟩
  replace nx := nx.up h23
  replace x := x.up h23
  replace q := q.up h23
  replace nd := nd.up h23
  replace d := d.up h23
  replace nr := nr.up h23
  replace rr := rr.up h23
  replace U := U.trans h23
  clear h23
  go_wp2_with fail
  refine (log10_any _ (hTW.up U) _ _ false _ (-3) (-3) 1 nt (by omega) (by omega) (by omega) (-3) (by show _ = _; omega) 0 0 (by show _ = _; omega) (by show _ = _; omega) (-3) (by simp [Hid, M.log10, Lib.decDigits])).mono ?_
  rintro _ w24 ⟨rfl, h24⟩
  replace nx := nx.up h24
  replace x := x.up h24
  replace q := q.up h24
  replace nd := nd.up h24
  replace d := d.up h24
  replace nr := nr.up h24
  replace rr := rr.up h24
  replace nt := nt.up h24
  replace U := U.trans h24
  clear h24
  clear nt
  obtain ⟨⟨x0, x1, x2, x3⟩, x4⟩ := id x
  have x5 := World.block_lt_of_cell? _ _ x0
  simp only at x5
  go_wp2_with fail
  clear x0 x1 x2 x3 x4 x5
  refine (right_nt _ _ _ false _ 5 (-2) 0 nx true (decide_eq_true ⟨lt_w128 (by omega), by decide, by decide⟩)).mono ?_
  rintro _ w25 ⟨rfl, h25⟩
  replace nx := nx.up h25
  replace x := x.up h25
  replace q := q.up h25
  replace nd := nd.up h25
  replace d := d.up h25
  replace nr := nr.up h25
  replace rr := rr.up h25
  replace U := U.trans h25
  clear h25
  go_wp2_with fail
  obtain ⟨V26, hV26⟩ : ∃ V26, w25.alloc (.cells #[.int .u64 0] 49) = V26 := ⟨_, rfl⟩
  have uV26 : Up w25 V26 := by rw [← hV26]; first | exact (Up.refl _).alloc _ | exact ((Up.refl _).alloc _).alloc _ | exact (((Up.refl _).alloc _).alloc _).alloc _
  have hc0 : V26.cell? ((⟨w25.heap.size, 0, none⟩ : Addr).add (1 - 1)) = some (u64 0) := by rw [← hV26]; simp [Addr.add]
  rw [hV26]
  clear hV26
  replace nx := nx.up uV26
  replace x := x.up uV26
  replace q := q.up uV26
  replace nd := nd.up uV26
  replace d := d.up uV26
  replace nr := nr.up uV26
  replace rr := rr.up uV26
  replace U := U.trans uV26
  clear uV26
  refine (right_any _ false _ 1 1 0 0 0 (by omega) (fun _ => ⟨_, rfl, hc0⟩) false (decide_eq_false (fun h => by rcases h.1 with h | h <;> omega))).mono ?_
  rintro _ w27 ⟨rfl, h27⟩
  replace nx := nx.up h27
  replace x := x.up h27
  replace q := q.up h27
  replace nd := nd.up h27
  replace d := d.up h27
  replace nr := nr.up h27
  replace rr := rr.up h27
  replace U := U.trans h27
  clear h27
  clear hc0
  go_wp2_with fail
  refine (ten_any _ 5000).mono ?_
  rintro _ w28 ⟨va, rfl, na, h28⟩
  replace nx := nx.up h28
  replace x := x.up h28
  replace q := q.up h28
  replace nd := nd.up h28
  replace d := d.up h28
  replace nr := nr.up h28
  replace rr := rr.up h28
  replace U := U.trans h28
  clear h28
  go_wp2_with fail
  refine (ten_any _ (-5000)).mono ?_
  rintro _ w29 ⟨vb, rfl, nb, h29⟩
  replace nx := nx.up h29
  replace x := x.up h29
  replace q := q.up h29
  replace nd := nd.up h29
  replace d := d.up h29
  replace nr := nr.up h29
  replace rr := rr.up h29
  replace na := na.up h29
  replace U := U.trans h29
  clear h29
  go_wp2_with fail
  refine (xcmp_any _ _ _ _ _ false false _ _ 5000 5000 (-5000) (-5000) 1 1 na nb (by omega) (by omega) (by omega) (by omega) (by omega) (by omega) 10000 10000 0 0 (by show _ = _; omega) (by show _ = _; omega) (by show _ = _; omega) (by show _ = _; omega) 1 (M.cmp_gt (M.big 10000 10000 (by omega)))).mono ?_
  rintro _ w30 ⟨rfl, h30⟩
  replace nx := nx.up h30
  replace x := x.up h30
  replace q := q.up h30
  replace nd := nd.up h30
  replace d := d.up h30
  replace nr := nr.up h30
  replace rr := rr.up h30
  replace na := na.up h30
  replace nb := nb.up h30
  replace U := U.trans h30
  clear h30
  go_wp2_with fail
  go_ret
  exact ⟨rfl, U⟩
end Go.Proofs.YteeepfhjbemgoaaGreatDoor
