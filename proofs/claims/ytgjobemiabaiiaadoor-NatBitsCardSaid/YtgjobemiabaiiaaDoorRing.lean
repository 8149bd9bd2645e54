/-
  The walk of NatRing: true, and nothing that was there has turned.
-/
import Derived.Test.YtgjobemiabaiiaaDoorFirst
namespace Go.Proofs.YtgjobemiabaiiaaDoor
open Go.RowKit Go.Shelf

/-- Add, of numbers of at most so many words each. -/
theorem add_of (w : World) (lo lo' s s' S : Nat) (v v' : Value) (a b : Nat) (h : Nw w lo s v a) (h' : Nw w lo' s' v' b) (h1 : s ≤ S) (h2 : s' ≤ S) (hS : S ≤ 1000000000) :
    Calls Tryd.prog 34 #[v, v'] w (Res (S + 1) (a + b) w) := add_any w lo lo' S v v' a b (h.more h1) (h'.more h2) hS
/-- Cmp, of equal numbers. -/
theorem cmp_same (w : World) (lo lo' s s' : Nat) (v v' : Value) (a b : Nat) (h : Nw w lo s v a) (h' : Nw w lo' s' v' b) (e : a = b) :
    Calls Tryd.prog 35 #[v, v'] w (Val (.int .i64 0) w) := by
  have := cmp_any w lo lo' s s' v v' a b h h'
  rwa [M.cmp_eq e] at this
/-- Sub, of no more than there is. -/
theorem sub_ok (w : World) (lo lo' s s' : Nat) (v v' : Value) (a b : Nat) (h : Nw w lo s v a) (h' : Nw w lo' s' v' b) (e : b ≤ a) :
    Calls Tryd.prog 37 #[v, v'] w (Opt s (a - b) true w) := by
  have := sub_any w lo lo' s s' v v' a b h h'
  rwa [decide_eq_true e] at this

set_option maxHeartbeats 8000000 in
set_option maxRecDepth 100000 in
theorem ring_walk (w : World) (hTW : TabW w) (hEW : ErrW w) (A0 : Option Addr) (n0 c0 : Nat) (x0 : List Nat) (h0 : Src w A0 n0 c0 x0) (A1 : Option Addr) (n1 c1 : Nat) (x1 : List Nat) (h1 : Src w A1 n1 c1 x1) (A2 : Option Addr) (n2 c2 : Nat) (x2 : List Nat) (h2 : Src w A2 n2 c2 x2) :
    Calls Tryd.prog 6 #[.slice A0 n0 c0, .slice A1 n1 c1, .slice A2 n2 c2] w (True_ w) := by
  have U := Up.refl w
  go_enter Tryd.func6, Tryd.ntmps6
  go_wp2_with fail
  refine (shown_any _ hTW hEW).mono ?_
  rintro _ w1 ⟨rfl, hu1⟩
  replace h0 := h0.up hu1
  replace h1 := h1.up hu1
  replace h2 := h2.up hu1
  replace U := U.trans hu1
  clear hu1
  go_wp2_with fail
  refine (few_lit _ _ _ _ _ h0 20 _ rfl (by omega)).mono ?_
  rintro _ w2 ⟨va, na, rfl, a, hu2⟩
  replace h1 := h1.up hu2
  replace h2 := h2.up hu2
  replace U := U.trans hu2
  clear hu2
  go_wp2_with fail
  refine (few_lit _ _ _ _ _ h1 20 _ rfl (by omega)).mono ?_
  rintro _ w3 ⟨vb, nb, rfl, b, hu3⟩
  replace h2 := h2.up hu3
  replace a := a.up hu3
  replace U := U.trans hu3
  clear hu3
  go_wp2_with fail
  refine (few_lit _ _ _ _ _ h2 20 _ rfl (by omega)).mono ?_
  rintro _ w4 ⟨vc, nc, rfl, c, hu4⟩
  replace a := a.up hu4
  replace b := b.up hu4
  replace U := U.trans hu4
  clear hu4
  go_wp2_with fail
  refine (add_of _ _ _ _ _ 20 _ _ _ _ a b (by omega) (by omega) (by omega)).mono ?_
  rintro _ w5 ⟨vx, rfl, x, hu5⟩
  replace a := a.up hu5
  replace b := b.up hu5
  replace c := c.up hu5
  replace U := U.trans hu5
  clear hu5
  go_wp2_with fail
  refine (add_of _ _ _ _ _ 20 _ _ _ _ b a (by omega) (by omega) (by omega)).mono ?_
  rintro _ w6 ⟨vy, rfl, y, hu6⟩
  replace a := a.up hu6
  replace b := b.up hu6
  replace c := c.up hu6
  replace x := x.up hu6
  replace U := U.trans hu6
  clear hu6
  go_wp2_with fail
  refine (cmp_same _ _ _ _ _ _ _ _ _ x.nw y.nw (Nat.add_comm _ _)).mono ?_
  rintro _ w7 ⟨rfl, kk, hk⟩
  have hu7 : Up w6 w7 := by rw [hk]; exact (Up.refl _).drewN _
  clear hk
  replace a := a.up hu7
  replace b := b.up hu7
  replace c := c.up hu7
  replace x := x.up hu7
  replace U := U.trans hu7
  clear hu7
  go_wp2_with fail
  refine (mul_any _ _ _ _ _ _ _ _ _ a b (by omega) (by omega)).mono ?_
  rintro _ w8 ⟨vp, rfl, p, hu8⟩
  replace a := a.up hu8
  replace b := b.up hu8
  replace c := c.up hu8
  replace x := x.up hu8
  replace U := U.trans hu8
  clear hu8
  go_wp2_with fail
  refine (mul_any _ _ _ _ _ _ _ _ _ b a (by omega) (by omega)).mono ?_
  rintro _ w9 ⟨vq, rfl, q, hu9⟩
  replace a := a.up hu9
  replace b := b.up hu9
  replace c := c.up hu9
  replace x := x.up hu9
  replace p := p.up hu9
  replace U := U.trans hu9
  clear hu9
  go_wp2_with fail
  refine (cmp_same _ _ _ _ _ _ _ _ _ p.nw q.nw (Nat.mul_comm _ _)).mono ?_
  rintro _ w10 ⟨rfl, kk, hk⟩
  have hu10 : Up w9 w10 := by rw [hk]; exact (Up.refl _).drewN _
  clear hk
  replace a := a.up hu10
  replace b := b.up hu10
  replace c := c.up hu10
  replace x := x.up hu10
  replace U := U.trans hu10
  clear hu10
  go_wp2_with fail
  refine (add_of _ _ _ _ _ 21 _ _ _ _ x.nw c (by omega) (by omega) (by omega)).mono ?_
  rintro _ w11 ⟨ve, rfl, e, hu11⟩
  replace a := a.up hu11
  replace b := b.up hu11
  replace c := c.up hu11
  replace x := x.up hu11
  replace U := U.trans hu11
  clear hu11
  go_wp2_with fail
  refine (add_of _ _ _ _ _ 20 _ _ _ _ b c (by omega) (by omega) (by omega)).mono ?_
  rintro _ w12 ⟨vf, rfl, f, hu12⟩
  replace a := a.up hu12
  replace b := b.up hu12
  replace c := c.up hu12
  replace x := x.up hu12
  replace e := e.up hu12
  replace U := U.trans hu12
  clear hu12
  go_wp2_with fail
  refine (add_of _ _ _ _ _ 21 _ _ _ _ a f.nw (by omega) (by omega) (by omega)).mono ?_
  rintro _ w13 ⟨vg, rfl, g, hu13⟩
  replace a := a.up hu13
  replace b := b.up hu13
  replace c := c.up hu13
  replace x := x.up hu13
  replace e := e.up hu13
  replace U := U.trans hu13
  clear hu13
  go_wp2_with fail
  refine (cmp_same _ _ _ _ _ _ _ _ _ e.nw g.nw (Nat.add_assoc _ _ _)).mono ?_
  rintro _ w14 ⟨rfl, kk, hk⟩
  have hu14 : Up w13 w14 := by rw [hk]; exact (Up.refl _).drewN _
  clear hk
  replace a := a.up hu14
  replace b := b.up hu14
  replace c := c.up hu14
  replace x := x.up hu14
  replace U := U.trans hu14
  clear hu14
  go_wp2_with fail
  refine (mul_any _ _ _ _ _ _ _ _ _ a b (by omega) (by omega)).mono ?_
  rintro _ w15 ⟨vi, rfl, i, hu15⟩
  replace a := a.up hu15
  replace b := b.up hu15
  replace c := c.up hu15
  replace x := x.up hu15
  replace U := U.trans hu15
  clear hu15
  go_wp2_with fail
  refine (mul_any _ _ _ _ _ _ _ _ _ i.nw c (by omega) (by omega)).mono ?_
  rintro _ w16 ⟨vj, rfl, j, hu16⟩
  replace a := a.up hu16
  replace b := b.up hu16
  replace c := c.up hu16
  replace x := x.up hu16
  replace U := U.trans hu16
  clear hu16
  go_wp2_with fail
  refine (mul_any _ _ _ _ _ _ _ _ _ b c (by omega) (by omega)).mono ?_
  rintro _ w17 ⟨vk, rfl, k, hu17⟩
  replace a := a.up hu17
  replace b := b.up hu17
  replace c := c.up hu17
  replace x := x.up hu17
  replace j := j.up hu17
  replace U := U.trans hu17
  clear hu17
  go_wp2_with fail
  refine (mul_any _ _ _ _ _ _ _ _ _ a k.nw (by omega) (by omega)).mono ?_
  rintro _ w18 ⟨vl, rfl, l, hu18⟩
  replace a := a.up hu18
  replace b := b.up hu18
  replace c := c.up hu18
  replace x := x.up hu18
  replace j := j.up hu18
  replace U := U.trans hu18
  clear hu18
  go_wp2_with fail
  refine (cmp_same _ _ _ _ _ _ _ _ _ j.nw l.nw (Nat.mul_assoc _ _ _)).mono ?_
  rintro _ w19 ⟨rfl, kk, hk⟩
  have hu19 : Up w18 w19 := by rw [hk]; exact (Up.refl _).drewN _
  clear hk
  replace a := a.up hu19
  replace b := b.up hu19
  replace c := c.up hu19
  replace x := x.up hu19
  replace U := U.trans hu19
  clear hu19
  go_wp2_with fail
  refine (sub_ok _ _ _ _ _ _ _ _ _ x.nw b (Nat.le_add_left _ _)).mono ?_
  rintro _ w20 ⟨vd, rfl, d, hu20⟩
  replace a := a.up hu20
  replace b := b.up hu20
  replace c := c.up hu20
  replace x := x.up hu20
  replace U := U.trans hu20
  clear hu20
  go_wp2_with fail
  refine (cmp_same _ _ _ _ _ _ _ _ _ d.nw a (Nat.add_sub_cancel _ _)).mono ?_
  rintro _ w21 ⟨rfl, kk, hk⟩
  have hu21 : Up w20 w21 := by rw [hk]; exact (Up.refl _).drewN _
  clear hk
  replace a := a.up hu21
  replace b := b.up hu21
  replace c := c.up hu21
  replace x := x.up hu21
  replace U := U.trans hu21
  clear hu21
  go_wp2_with fail
  refine (mul_any _ _ _ _ _ _ _ _ _ x.nw c (by omega) (by omega)).mono ?_
  rintro _ w22 ⟨vm, rfl, m, hu22⟩
  replace a := a.up hu22
  replace b := b.up hu22
  replace c := c.up hu22
  replace U := U.trans hu22
  clear hu22
  go_wp2_with fail
  refine (mul_any _ _ _ _ _ _ _ _ _ a c (by omega) (by omega)).mono ?_
  rintro _ w23 ⟨vn, rfl, n, hu23⟩
  replace b := b.up hu23
  replace c := c.up hu23
  replace m := m.up hu23
  replace U := U.trans hu23
  clear hu23
  go_wp2_with fail
  refine (mul_any _ _ _ _ _ _ _ _ _ b c (by omega) (by omega)).mono ?_
  rintro _ w24 ⟨vo, rfl, o, hu24⟩
  replace m := m.up hu24
  replace n := n.up hu24
  replace U := U.trans hu24
  clear hu24
  go_wp2_with fail
  refine (add_of _ _ _ _ _ 40 _ _ _ _ n.nw o.nw (by omega) (by omega) (by omega)).mono ?_
  rintro _ w25 ⟨vr, rfl, r, hu25⟩
  replace m := m.up hu25
  replace U := U.trans hu25
  clear hu25
  go_wp2_with fail
  refine (cmp_same _ _ _ _ _ _ _ _ _ m.nw r.nw (Nat.add_mul _ _ _)).mono ?_
  rintro _ w26 ⟨rfl, kk, hk⟩
  have hu26 : Up w25 w26 := by rw [hk]; exact (Up.refl _).drewN _
  clear hk
  replace U := U.trans hu26
  clear hu26
  go_wp2_with fail
  go_ret
  exact ⟨rfl, U⟩
end Go.Proofs.YtgjobemiabaiiaaDoor
