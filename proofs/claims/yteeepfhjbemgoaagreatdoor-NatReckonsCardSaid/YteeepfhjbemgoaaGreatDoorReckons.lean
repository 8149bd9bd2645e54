/-
  The walk of NatReckons: true, and nothing that was there has turned.
-/
import Derived.Test.YteeepfhjbemgoaaGreatDoorFirst
import Derived.Test.YteeepfhjbemgoaaGreatDoorUse
import Derived.Test.YteeepfhjbemgoaaGreatDoorRef4
namespace Go.Proofs.YteeepfhjbemgoaaGreatDoor
open Go.RowKit Go.Shelf

theorem nt_len0 {w : World} {lo s : Nat} {A : Option Addr} {n c a : Nat} (h : Nt w lo s (.slice A n c) a) : (n = 0 ↔ a = 0) := by
  obtain ⟨A', n', c', xs, e, h1, h2, _, h4⟩ := h
  injection e with _ e2 _
  subst e2
  constructor
  · intro h
    have e : xs = [] := List.eq_nil_of_length_eq_zero (by rw [h1.num, h])
    rw [← h2, e]
    rfl
  · intro h
    rw [← h1.num, M.val_zero h4 (by rw [h2, h])]
    rfl
theorem nh_len0 {w : World} {lo s : Nat} {A : Option Addr} {n c a : Nat} (h : Nh w lo s (.slice A n c) a) : (n = 0 ↔ a = 0) := by
  obtain ⟨A', n', c', xs, e, h1, h2, h3, _, h4⟩ := h
  injection e with _ e2 _
  subst e2
  constructor
  · intro h
    have e : xs = [] := List.eq_nil_of_length_eq_zero (by rw [h1.num, h])
    rw [← h3, e]
    rfl
  · intro h
    have := M.hlen_of_lt (k := 0) h2 h4 (by rw [h3, h]; exact Nat.lt_of_lt_of_le Nat.zero_lt_one (Nat.le_refl _))
    rw [← h1.num]
    omega

set_option maxHeartbeats 16000000 in
set_option maxRecDepth 100000 in
theorem reckons_walk (w : World) (hTW : TabW w) (hEW : ErrW w) (A0 : Option Addr) (n0 c0 : Nat) (x0 : List Nat) (e0 : Src w A0 n0 c0 x0) (A1 : Option Addr) (n1 c1 : Nat) (x1 : List Nat) (e1 : Src w A1 n1 c1 x1) :
    Calls Tryz.prog 3 #[.slice A0 n0 c0, .slice A1 n1 c1] w (True_ w) := by
  have U := Up.refl w
  go_enter Tryz.func3, Tryz.ntmps3
  go_wp2_with fail
  refine (shown_any _ hTW hEW).mono ?_
  rintro _ w1 ⟨rfl, h1⟩
  replace e0 := e0.up h1
  replace e1 := e1.up h1
  replace U := U.trans h1
  clear h1
  go_wp2_with fail
  refine (few_lit _ _ _ _ _ e0 30 _ rfl (by omega)).mono ?_
  rintro _ w2 ⟨va, na, rfl, a, h2⟩
  replace e0 := e0.up h2
  replace e1 := e1.up h2
  replace U := U.trans h2
  clear h2
  clear e0
  go_wp2_with fail
  refine (few_lit _ _ _ _ _ e1 30 _ rfl (by omega)).mono ?_
  rintro _ w3 ⟨vb, nb, rfl, b, h3⟩
  replace e1 := e1.up h3
  replace a := a.up h3
  replace U := U.trans h3
  clear h3
  clear e1
  go_wp2_with fail
  refine (halves_of _ _ _ _ _ a (by omega)).mono ?_
  rintro _ w4 ⟨vx, rfl, x, h4⟩
  replace a := a.up h4
  replace b := b.up h4
  replace U := U.trans h4
  clear h4
  go_wp2_with fail
  refine (halves_of _ _ _ _ _ b (by omega)).mono ?_
  rintro _ w5 ⟨vy, rfl, y, h5⟩
  replace a := a.up h5
  replace b := b.up h5
  replace x := x.up h5
  replace U := U.trans h5
  clear h5
  obtain ⟨Ay, sy, cy, wy, rfl, y⟩ := y
  replace y : Nh w5 _ _ (.slice Ay sy cy) (nb) := ⟨Ay, sy, cy, wy, rfl, y⟩
  have hy0 := nh_len0 y
  go_wp2_with fail
  obtain ⟨z, hz⟩ : ∃ z, M.cmp na nb = z := ⟨_, rfl⟩
  have HZ := Lib.hid hz
  have zl := M.cmp_le (a := nb) (b := na)
  have zs := M.cmp_swap nb na
  rw [hz] at zs
  clear hz
  refine (rcmp_of _ _ _ _ _ _ _ _ _ x y z HZ).mono ?_
  rintro _ _ ⟨rfl, rfl⟩
  rcases (show na < nb ∨ (nb ≤ na ∧ nb = 0) ∨ (nb ≤ na ∧ 0 < nb) by omega) with hc | ⟨hc, hb⟩ | ⟨hc, hb⟩
  ·
    have hb : 0 < nb := by omega
    have dz : decide (0 ≤ z) = false := decide_eq_false (fun h => by have := zl.1 (by omega); omega)
    have hsy : 0 < sy := by rcases Nat.eq_zero_or_pos sy with e | e; (have := hy0.1 e; omega); exact e
    clear zl zs hy0
    go_wp2_with fail
    have ed : na - nb = 0 := by omega
    have ed2 : decide (nb ≤ na) = false := decide_eq_false (by omega)
    have cs := sub_any _ _ _ _ _ _ _ _ _ a b
    rw [ed, ed2] at cs
    have CS := Lib.hid cs
    clear cs ed ed2
    refine (CS.out).mono ?_
    rintro _ w7 ⟨vd, rfl, d, h7⟩
    replace a := a.up h7
    replace b := b.up h7
    replace x := x.up h7
    replace y := y.up h7
    replace U := U.trans h7
    clear h7
    clear CS
    obtain ⟨Ad, sd, cd, wd, rfl, d⟩ := d
    replace d : Nt w7 _ _ (.slice Ad sd cd) (0) := ⟨Ad, sd, cd, wd, rfl, d⟩
    obtain rfl := (nt_len0 d).2 rfl
    go_wp2_with fail
    refine (add_of _ _ _ _ _ 30 _ _ _ _ a b (by omega) (by omega) (by omega)).mono ?_
    rintro _ w8 ⟨vp, rfl, p, h8⟩
    replace a := a.up h8
    replace b := b.up h8
    replace x := x.up h8
    replace y := y.up h8
    replace d := d.up h8
    replace U := U.trans h8
    clear h8
    go_wp2_with fail
    refine (plus_of _ _ _ _ _ 60 _ _ _ _ x y (by omega) (by omega) (by omega)).mono ?_
    rintro _ w9 ⟨vq, rfl, q, h9⟩
    replace a := a.up h9
    replace b := b.up h9
    replace x := x.up h9
    replace y := y.up h9
    replace d := d.up h9
    replace p := p.up h9
    replace U := U.trans h9
    clear h9
    go_wp2_with fail
    refine (same_law _ _ _ _ _ _ _ _ _ p q (rfl) (by omega)).mono ?_
    rintro _ w10 ⟨rfl, h10⟩
    replace a := a.up h10
    replace b := b.up h10
    replace x := x.up h10
    replace y := y.up h10
    replace d := d.up h10
    replace p := p.up h10
    replace q := q.up h10
    replace U := U.trans h10
    clear h10
    go_wp2_with fail
    clear p
    clear q
    refine (mul_any _ _ _ _ _ _ _ _ _ a b (by omega) (by omega)).mono ?_
    rintro _ w11 ⟨vp, rfl, p, h11⟩
    replace a := a.up h11
    replace b := b.up h11
    replace x := x.up h11
    replace y := y.up h11
    replace d := d.up h11
    replace U := U.trans h11
    clear h11
    go_wp2_with fail
    refine (times_of _ _ _ _ _ _ _ _ _ x y (by omega) (by omega)).mono ?_
    rintro _ w12 ⟨vq, rfl, q, h12⟩
    replace a := a.up h12
    replace b := b.up h12
    replace x := x.up h12
    replace y := y.up h12
    replace d := d.up h12
    replace p := p.up h12
    replace U := U.trans h12
    clear h12
    go_wp2_with fail
    refine (same_law _ _ _ _ _ _ _ _ _ p q (rfl) (by omega)).mono ?_
    rintro _ w13 ⟨rfl, h13⟩
    replace a := a.up h13
    replace b := b.up h13
    replace x := x.up h13
    replace y := y.up h13
    replace d := d.up h13
    replace p := p.up h13
    replace q := q.up h13
    replace U := U.trans h13
    clear h13
    go_wp2_with fail
    clear p
    clear q
    refine (cmp_at _ _ _ _ _ _ _ _ _ z a b HZ).mono ?_
    rintro _ w14 ⟨rfl, kk, hk⟩
    have h14 : Up w13 w14 := by rw [hk]; exact (Up.refl _).drewN _
    clear hk
    replace a := a.up h14
    replace b := b.up h14
    replace x := x.up h14
    replace y := y.up h14
    replace d := d.up h14
    replace U := U.trans h14
    clear h14
    go_wp2_with fail
    clear d
    refine (div_any _ _ _ _ _ _ _ _ _ a b hb (by omega)).mono ?_
    rintro _ w15 ⟨vq, vr, rfl, q, r, h15⟩
    replace a := a.up h15
    replace b := b.up h15
    replace x := x.up h15
    replace y := y.up h15
    replace U := U.trans h15
    clear h15
    obtain ⟨Aq, sq, cq, wq, rfl, q⟩ := q
    replace q : Nt w15 _ _ (.slice Aq sq cq) (na / nb) := ⟨Aq, sq, cq, wq, rfl, q⟩
    obtain ⟨Ar, sr, cr, wr, rfl, r⟩ := r
    replace r : Nt w15 _ _ (.slice Ar sr cr) (na % nb) := ⟨Ar, sr, cr, wr, rfl, r⟩
    go_wp2_with fail
    refine (over_of _ _ _ _ _ _ _ _ _ x y hb (by omega) (by omega)).mono ?_
    rintro _ w16 ⟨vp, vs, rfl, p, s, h16⟩
    replace a := a.up h16
    replace b := b.up h16
    replace x := x.up h16
    replace y := y.up h16
    replace q := q.up h16
    replace r := r.up h16
    replace U := U.trans h16
    clear h16
    go_wp2_with fail
    refine (same_law _ _ _ _ _ _ _ _ _ q p (rfl) (by omega)).mono ?_
    rintro _ w17 ⟨rfl, h17⟩
    replace a := a.up h17
    replace b := b.up h17
    replace x := x.up h17
    replace y := y.up h17
    replace q := q.up h17
    replace r := r.up h17
    replace p := p.up h17
    replace s := s.up h17
    replace U := U.trans h17
    clear h17
    go_wp2_with fail
    refine (same_law _ _ _ _ _ _ _ _ _ r s (rfl) (by omega)).mono ?_
    rintro _ w18 ⟨rfl, h18⟩
    replace a := a.up h18
    replace b := b.up h18
    replace x := x.up h18
    replace y := y.up h18
    replace q := q.up h18
    replace r := r.up h18
    replace p := p.up h18
    replace s := s.up h18
    replace U := U.trans h18
    clear h18
    go_wp2_with fail
    clear q
    clear r
    clear p
    clear s
    refine (halves_of _ _ _ _ _ a (by omega)).mono ?_
    rintro _ w19 ⟨vp, rfl, p, h19⟩
    replace a := a.up h19
    replace b := b.up h19
    replace x := x.up h19
    replace y := y.up h19
    replace U := U.trans h19
    clear h19
    go_wp2_with fail
    refine (rcmp_of _ _ _ _ _ _ _ _ _ p x 0 (M.cmp_eq rfl)).mono ?_
    rintro _ _ ⟨rfl, rfl⟩
    go_wp2_with fail
    clear p
    refine (halves_of _ _ _ _ _ b (by omega)).mono ?_
    rintro _ w21 ⟨vp, rfl, p, h21⟩
    replace a := a.up h21
    replace b := b.up h21
    replace x := x.up h21
    replace y := y.up h21
    replace U := U.trans h21
    clear h21
    go_wp2_with fail
    refine (rcmp_of _ _ _ _ _ _ _ _ _ p y 0 (M.cmp_eq rfl)).mono ?_
    rintro _ _ ⟨rfl, rfl⟩
    go_wp2_with fail
    go_ret
    exact ⟨rfl, U⟩
  ·
    have dz : decide (0 ≤ z) = true := decide_eq_true (by have := zl.2 hc; omega)
    obtain rfl := hy0.2 hb
    have HB := Lib.hid hb
    clear zl zs hy0 hb
    go_wp2_with fail
    refine (sub_ok _ _ _ _ _ _ _ _ _ a b hc).mono ?_
    rintro _ w23 ⟨vd, rfl, d, h23⟩
    replace a := a.up h23
    replace b := b.up h23
    replace x := x.up h23
    replace y := y.up h23
    replace U := U.trans h23
    clear h23
    obtain ⟨Ad, sd, cd, wd, rfl, d⟩ := d
    replace d : Nt w23 _ _ (.slice Ad sd cd) (na - nb) := ⟨Ad, sd, cd, wd, rfl, d⟩
    go_wp2_with fail
    refine (add_of _ _ _ _ _ 30 _ _ _ _ a b (by omega) (by omega) (by omega)).mono ?_
    rintro _ w24 ⟨vp, rfl, p, h24⟩
    replace a := a.up h24
    replace b := b.up h24
    replace x := x.up h24
    replace y := y.up h24
    replace d := d.up h24
    replace U := U.trans h24
    clear h24
    go_wp2_with fail
    refine (plus_of _ _ _ _ _ 60 _ _ _ _ x y (by omega) (by omega) (by omega)).mono ?_
    rintro _ w25 ⟨vq, rfl, q, h25⟩
    replace a := a.up h25
    replace b := b.up h25
    replace x := x.up h25
    replace y := y.up h25
    replace d := d.up h25
    replace p := p.up h25
    replace U := U.trans h25
    clear h25
    go_wp2_with fail
    refine (same_law _ _ _ _ _ _ _ _ _ p q (rfl) (by omega)).mono ?_
    rintro _ w26 ⟨rfl, h26⟩
    replace a := a.up h26
    replace b := b.up h26
    replace x := x.up h26
    replace y := y.up h26
    replace d := d.up h26
    replace p := p.up h26
    replace q := q.up h26
    replace U := U.trans h26
    clear h26
    go_wp2_with fail
    clear p
    clear q
    refine (mul_any _ _ _ _ _ _ _ _ _ a b (by omega) (by omega)).mono ?_
    rintro _ w27 ⟨vp, rfl, p, h27⟩
    replace a := a.up h27
    replace b := b.up h27
    replace x := x.up h27
    replace y := y.up h27
    replace d := d.up h27
    replace U := U.trans h27
    clear h27
    go_wp2_with fail
    refine (times_of _ _ _ _ _ _ _ _ _ x y (by omega) (by omega)).mono ?_
    rintro _ w28 ⟨vq, rfl, q, h28⟩
    replace a := a.up h28
    replace b := b.up h28
    replace x := x.up h28
    replace y := y.up h28
    replace d := d.up h28
    replace p := p.up h28
    replace U := U.trans h28
    clear h28
    go_wp2_with fail
    refine (same_law _ _ _ _ _ _ _ _ _ p q (rfl) (by omega)).mono ?_
    rintro _ w29 ⟨rfl, h29⟩
    replace a := a.up h29
    replace b := b.up h29
    replace x := x.up h29
    replace y := y.up h29
    replace d := d.up h29
    replace p := p.up h29
    replace q := q.up h29
    replace U := U.trans h29
    clear h29
    go_wp2_with fail
    clear p
    clear q
    refine (cmp_at _ _ _ _ _ _ _ _ _ z a b HZ).mono ?_
    rintro _ w30 ⟨rfl, kk, hk⟩
    have h30 : Up w29 w30 := by rw [hk]; exact (Up.refl _).drewN _
    clear hk
    replace a := a.up h30
    replace b := b.up h30
    replace x := x.up h30
    replace y := y.up h30
    replace d := d.up h30
    replace U := U.trans h30
    clear h30
    go_wp2_with fail
    refine (minus_of _ _ _ _ _ _ _ _ _ x y hc (by omega)).mono ?_
    rintro _ w31 ⟨vp, rfl, p, h31⟩
    replace a := a.up h31
    replace b := b.up h31
    replace x := x.up h31
    replace y := y.up h31
    replace d := d.up h31
    replace U := U.trans h31
    clear h31
    go_wp2_with fail
    refine (same_law _ _ _ _ _ _ _ _ _ d p (rfl) (by omega)).mono ?_
    rintro _ w32 ⟨rfl, h32⟩
    replace a := a.up h32
    replace b := b.up h32
    replace x := x.up h32
    replace y := y.up h32
    replace d := d.up h32
    replace p := p.up h32
    replace U := U.trans h32
    clear h32
    go_wp2_with fail
    clear p
    clear d
    have bz := b
    rw [HB.out] at bz
    refine (div_zero _ _ _ _ _ _ _ _ a bz).mono ?_
    rintro _ w33 ⟨vq, vr, rfl, q, r, h33⟩
    replace a := a.up h33
    replace b := b.up h33
    replace x := x.up h33
    replace y := y.up h33
    replace U := U.trans h33
    clear h33
    clear bz
    obtain ⟨Aq, sq, cq, wq, rfl, q⟩ := q
    replace q : Nt w33 _ _ (.slice Aq sq cq) (0) := ⟨Aq, sq, cq, wq, rfl, q⟩
    obtain ⟨Ar, sr, cr, wr, rfl, r⟩ := r
    replace r : Nt w33 _ _ (.slice Ar sr cr) (0) := ⟨Ar, sr, cr, wr, rfl, r⟩
    obtain rfl := (nt_len0 q).2 rfl
    obtain rfl := (nt_len0 r).2 rfl
    go_wp2_with fail
    clear q
    clear r
    refine (halves_of _ _ _ _ _ a (by omega)).mono ?_
    rintro _ w34 ⟨vp, rfl, p, h34⟩
    replace a := a.up h34
    replace b := b.up h34
    replace x := x.up h34
    replace y := y.up h34
    replace U := U.trans h34
    clear h34
    go_wp2_with fail
    refine (rcmp_of _ _ _ _ _ _ _ _ _ p x 0 (M.cmp_eq rfl)).mono ?_
    rintro _ _ ⟨rfl, rfl⟩
    go_wp2_with fail
    clear p
    refine (halves_of _ _ _ _ _ b (by omega)).mono ?_
    rintro _ w36 ⟨vp, rfl, p, h36⟩
    replace a := a.up h36
    replace b := b.up h36
    replace x := x.up h36
    replace y := y.up h36
    replace U := U.trans h36
    clear h36
    go_wp2_with fail
    refine (rcmp_of _ _ _ _ _ _ _ _ _ p y 0 (M.cmp_eq rfl)).mono ?_
    rintro _ _ ⟨rfl, rfl⟩
    go_wp2_with fail
    go_ret
    exact ⟨rfl, U⟩
  ·
    have dz : decide (0 ≤ z) = true := decide_eq_true (by have := zl.2 hc; omega)
    have hsy : 0 < sy := by rcases Nat.eq_zero_or_pos sy with e | e; (have := hy0.1 e; omega); exact e
    clear zl zs hy0
    go_wp2_with fail
    refine (sub_ok _ _ _ _ _ _ _ _ _ a b hc).mono ?_
    rintro _ w38 ⟨vd, rfl, d, h38⟩
    replace a := a.up h38
    replace b := b.up h38
    replace x := x.up h38
    replace y := y.up h38
    replace U := U.trans h38
    clear h38
    obtain ⟨Ad, sd, cd, wd, rfl, d⟩ := d
    replace d : Nt w38 _ _ (.slice Ad sd cd) (na - nb) := ⟨Ad, sd, cd, wd, rfl, d⟩
    go_wp2_with fail
    refine (add_of _ _ _ _ _ 30 _ _ _ _ a b (by omega) (by omega) (by omega)).mono ?_
    rintro _ w39 ⟨vp, rfl, p, h39⟩
    replace a := a.up h39
    replace b := b.up h39
    replace x := x.up h39
    replace y := y.up h39
    replace d := d.up h39
    replace U := U.trans h39
    clear h39
    go_wp2_with fail
    refine (plus_of _ _ _ _ _ 60 _ _ _ _ x y (by omega) (by omega) (by omega)).mono ?_
    rintro _ w40 ⟨vq, rfl, q, h40⟩
    replace a := a.up h40
    replace b := b.up h40
    replace x := x.up h40
    replace y := y.up h40
    replace d := d.up h40
    replace p := p.up h40
    replace U := U.trans h40
    clear h40
    go_wp2_with fail
    refine (same_law _ _ _ _ _ _ _ _ _ p q (rfl) (by omega)).mono ?_
    rintro _ w41 ⟨rfl, h41⟩
    replace a := a.up h41
    replace b := b.up h41
    replace x := x.up h41
    replace y := y.up h41
    replace d := d.up h41
    replace p := p.up h41
    replace q := q.up h41
    replace U := U.trans h41
    clear h41
    go_wp2_with fail
    clear p
    clear q
    refine (mul_any _ _ _ _ _ _ _ _ _ a b (by omega) (by omega)).mono ?_
    rintro _ w42 ⟨vp, rfl, p, h42⟩
    replace a := a.up h42
    replace b := b.up h42
    replace x := x.up h42
    replace y := y.up h42
    replace d := d.up h42
    replace U := U.trans h42
    clear h42
    go_wp2_with fail
    refine (times_of _ _ _ _ _ _ _ _ _ x y (by omega) (by omega)).mono ?_
    rintro _ w43 ⟨vq, rfl, q, h43⟩
    replace a := a.up h43
    replace b := b.up h43
    replace x := x.up h43
    replace y := y.up h43
    replace d := d.up h43
    replace p := p.up h43
    replace U := U.trans h43
    clear h43
    go_wp2_with fail
    refine (same_law _ _ _ _ _ _ _ _ _ p q (rfl) (by omega)).mono ?_
    rintro _ w44 ⟨rfl, h44⟩
    replace a := a.up h44
    replace b := b.up h44
    replace x := x.up h44
    replace y := y.up h44
    replace d := d.up h44
    replace p := p.up h44
    replace q := q.up h44
    replace U := U.trans h44
    clear h44
    go_wp2_with fail
    clear p
    clear q
    refine (cmp_at _ _ _ _ _ _ _ _ _ z a b HZ).mono ?_
    rintro _ w45 ⟨rfl, kk, hk⟩
    have h45 : Up w44 w45 := by rw [hk]; exact (Up.refl _).drewN _
    clear hk
    replace a := a.up h45
    replace b := b.up h45
    replace x := x.up h45
    replace y := y.up h45
    replace d := d.up h45
    replace U := U.trans h45
    clear h45
    go_wp2_with fail
    refine (minus_of _ _ _ _ _ _ _ _ _ x y hc (by omega)).mono ?_
    rintro _ w46 ⟨vp, rfl, p, h46⟩
    replace a := a.up h46
    replace b := b.up h46
    replace x := x.up h46
    replace y := y.up h46
    replace d := d.up h46
    replace U := U.trans h46
    clear h46
    go_wp2_with fail
    refine (same_law _ _ _ _ _ _ _ _ _ d p (rfl) (by omega)).mono ?_
    rintro _ w47 ⟨rfl, h47⟩
    replace a := a.up h47
    replace b := b.up h47
    replace x := x.up h47
    replace y := y.up h47
    replace d := d.up h47
    replace p := p.up h47
    replace U := U.trans h47
    clear h47
    go_wp2_with fail
    clear p
    clear d
    refine (div_any _ _ _ _ _ _ _ _ _ a b hb (by omega)).mono ?_
    rintro _ w48 ⟨vq, vr, rfl, q, r, h48⟩
    replace a := a.up h48
    replace b := b.up h48
    replace x := x.up h48
    replace y := y.up h48
    replace U := U.trans h48
    clear h48
    obtain ⟨Aq, sq, cq, wq, rfl, q⟩ := q
    replace q : Nt w48 _ _ (.slice Aq sq cq) (na / nb) := ⟨Aq, sq, cq, wq, rfl, q⟩
    obtain ⟨Ar, sr, cr, wr, rfl, r⟩ := r
    replace r : Nt w48 _ _ (.slice Ar sr cr) (na % nb) := ⟨Ar, sr, cr, wr, rfl, r⟩
    go_wp2_with fail
    refine (over_of _ _ _ _ _ _ _ _ _ x y hb (by omega) (by omega)).mono ?_
    rintro _ w49 ⟨vp, vs, rfl, p, s, h49⟩
    replace a := a.up h49
    replace b := b.up h49
    replace x := x.up h49
    replace y := y.up h49
    replace q := q.up h49
    replace r := r.up h49
    replace U := U.trans h49
    clear h49
    go_wp2_with fail
    refine (same_law _ _ _ _ _ _ _ _ _ q p (rfl) (by omega)).mono ?_
    rintro _ w50 ⟨rfl, h50⟩
    replace a := a.up h50
    replace b := b.up h50
    replace x := x.up h50
    replace y := y.up h50
    replace q := q.up h50
    replace r := r.up h50
    replace p := p.up h50
    replace s := s.up h50
    replace U := U.trans h50
    clear h50
    go_wp2_with fail
    refine (same_law _ _ _ _ _ _ _ _ _ r s (rfl) (by omega)).mono ?_
    rintro _ w51 ⟨rfl, h51⟩
    replace a := a.up h51
    replace b := b.up h51
    replace x := x.up h51
    replace y := y.up h51
    replace q := q.up h51
    replace r := r.up h51
    replace p := p.up h51
    replace s := s.up h51
    replace U := U.trans h51
    clear h51
    go_wp2_with fail
    clear q
    clear r
    clear p
    clear s
    refine (halves_of _ _ _ _ _ a (by omega)).mono ?_
    rintro _ w52 ⟨vp, rfl, p, h52⟩
    replace a := a.up h52
    replace b := b.up h52
    replace x := x.up h52
    replace y := y.up h52
    replace U := U.trans h52
    clear h52
    go_wp2_with fail
    refine (rcmp_of _ _ _ _ _ _ _ _ _ p x 0 (M.cmp_eq rfl)).mono ?_
    rintro _ _ ⟨rfl, rfl⟩
    go_wp2_with fail
    clear p
    refine (halves_of _ _ _ _ _ b (by omega)).mono ?_
    rintro _ w54 ⟨vp, rfl, p, h54⟩
    replace a := a.up h54
    replace b := b.up h54
    replace x := x.up h54
    replace y := y.up h54
    replace U := U.trans h54
    clear h54
    go_wp2_with fail
    refine (rcmp_of _ _ _ _ _ _ _ _ _ p y 0 (M.cmp_eq rfl)).mono ?_
    rintro _ _ ⟨rfl, rfl⟩
    go_wp2_with fail
    go_ret
    exact ⟨rfl, U⟩
end Go.Proofs.YteeepfhjbemgoaaGreatDoor
