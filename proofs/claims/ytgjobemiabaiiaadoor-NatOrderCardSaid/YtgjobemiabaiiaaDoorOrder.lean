/-
  The walk of NatOrder: true, and nothing that was there has turned.
-/
import Derived.Test.YtgjobemiabaiiaaDoorRing
namespace Go.Proofs.YtgjobemiabaiiaaDoor
open Go.RowKit Go.Shelf

namespace M
theorem cmp_le {a b : Nat} : cmp a b ≤ 0 ↔ a ≤ b := by
  rcases Nat.lt_trichotomy a b with h | h | h
  · rw [cmp_lt h]; omega
  · rw [cmp_eq h]; omega
  · rw [cmp_gt h]; omega
theorem cmp_swap (a b : Nat) : cmp b a = -cmp a b := by
  rcases Nat.lt_trichotomy a b with h | h | h
  · rw [cmp_lt h, cmp_gt h]; rfl
  · rw [cmp_eq h, cmp_eq h.symm]; rfl
  · rw [cmp_gt h, cmp_lt h]
theorem cmp_rng (a b : Nat) : -1 ≤ cmp a b ∧ cmp a b ≤ 1 := by
  rcases Nat.lt_trichotomy a b with h | h | h
  · rw [cmp_lt h]; omega
  · rw [cmp_eq h]; omega
  · rw [cmp_gt h]; omega
theorem cmp_plus (a b c : Nat) : cmp (a + c) (b + c) = cmp a b := by
  rcases Nat.lt_trichotomy a b with h | h | h
  · rw [cmp_lt h, cmp_lt (by omega)]
  · rw [cmp_eq h, cmp_eq (by omega)]
  · rw [cmp_gt h, cmp_gt (by omega)]
theorem cmp_times (a b c : Nat) (hc : 0 < c) : cmp (a * c) (b * c) = cmp a b := by
  rcases Nat.lt_trichotomy a b with h | h | h
  · rw [cmp_lt h, cmp_lt (Nat.mul_lt_mul_of_pos_right h hc)]
  · rw [cmp_eq h, cmp_eq (by rw [h])]
  · rw [cmp_gt h, cmp_gt (Nat.mul_lt_mul_of_pos_right h hc)]
end M
/-- Cmp, where it is known what it tells. -/
theorem cmp_at (w : World) (lo lo' s s' : Nat) (v v' : Value) (a b : Nat) (z : Int) (h : Nw w lo s v a) (h' : Nw w lo' s' v' b) (e : Hid (M.cmp a b = z)) :
    Calls Tryd.prog 35 #[v, v'] w (Val (.int .i64 z) w) := by
  have := cmp_any w lo lo' s s' v v' a b h h'
  rwa [e.out] at this
/-- Bits, where it is known what it tells. -/
theorem bits_at (w : World) (lo s : Nat) (v : Value) (a : Nat) (z : Int) (h : Nw w lo s v a) (e : Hid (M.bits a = z)) : Calls Tryd.prog 21 #[v] w (Same (.int .i64 z) w) := by
  have := bits_any w lo s v a h
  rwa [e.out] at this

set_option maxHeartbeats 16000000 in
set_option maxRecDepth 100000 in
theorem order_walk (w : World) (hTW : TabW w) (hEW : ErrW w) (A0 : Option Addr) (n0 c0 : Nat) (x0 : List Nat) (h0 : Src w A0 n0 c0 x0) (A1 : Option Addr) (n1 c1 : Nat) (x1 : List Nat) (h1 : Src w A1 n1 c1 x1) (A2 : Option Addr) (n2 c2 : Nat) (x2 : List Nat) (h2 : Src w A2 n2 c2 x2) :
    Calls Tryd.prog 8 #[.slice A0 n0 c0, .slice A1 n1 c1, .slice A2 n2 c2] w (True_ w) := by
  have U := Up.refl w
  go_enter Tryd.func8, Tryd.ntmps8
  go_wp2_with fail
  refine (shown_any _ hTW hEW).mono ?_
  rintro _ w1 ⟨rfl, hu1⟩
  replace h0 := h0.up hu1
  replace h1 := h1.up hu1
  replace h2 := h2.up hu1
  replace U := U.trans hu1
  clear hu1
  go_wp2_with fail
  refine (few_lit _ _ _ _ _ h0 20 _ rfl (by omega)).mono ?_
  rintro _ w2 ⟨va, na, rfl, a, hu2⟩
  replace h1 := h1.up hu2
  replace h2 := h2.up hu2
  replace U := U.trans hu2
  clear hu2
  go_wp2_with fail
  refine (few_lit _ _ _ _ _ h1 20 _ rfl (by omega)).mono ?_
  rintro _ w3 ⟨vb, nb, rfl, b, hu3⟩
  replace h2 := h2.up hu3
  replace a := a.up hu3
  replace U := U.trans hu3
  clear hu3
  go_wp2_with fail
  refine (few_lit _ _ _ _ _ h2 20 _ rfl (by omega)).mono ?_
  rintro _ w4 ⟨vc, nc, rfl, c, hu4⟩
  replace a := a.up hu4
  replace b := b.up hu4
  replace U := U.trans hu4
  clear hu4
  obtain ⟨z, hz, hz1, hz2⟩ : ∃ z : Int, M.cmp na nb = z ∧ -1 ≤ z ∧ z ≤ 1 := ⟨_, rfl, (M.cmp_rng _ _).1, (M.cmp_rng _ _).2⟩
  have hba : Hid (M.cmp nb na = -z) := by rw [Hid, M.cmp_swap na nb, hz]
  have haa : Hid (M.cmp na na = 0) := M.cmp_eq rfl
  have hp : Hid (M.cmp (na + nc) (nb + nc) = z) := by rw [Hid, M.cmp_plus, hz]
  obtain ⟨t, ht, ht0, ht1⟩ := M.cmp_ge (Nat.le_add_right na nb)
  have HT := Lib.hid ht
  have hm : Hid (0 < nc → M.cmp (na * nc) (nb * nc) = z) := fun h => by rw [M.cmp_times _ _ _ h, hz]
  have hle : Hid (z ≤ 0 ↔ na ≤ nb) := by rw [Hid, ← hz]; exact M.cmp_le
  have HZ := Lib.hid hz
  clear hz ht
  rcases (show 0 < z ∨ z ≤ 0 by omega) with z0 | z0
  · clear hle
    go_wp2_with fail
    refine (cmp_at _ _ _ _ _ _ _ _ _ _ a b HZ).mono ?_
    rintro _ w5 ⟨rfl, kk, hk⟩
    have hu5 : Up w4 w5 := by rw [hk]; exact (Up.refl _).drewN _
    clear hk
    replace a := a.up hu5
    replace b := b.up hu5
    replace c := c.up hu5
    replace U := U.trans hu5
    clear hu5
    go_wp2_with fail
    refine (cmp_at _ _ _ _ _ _ _ _ _ _ b a hba).mono ?_
    rintro _ w6 ⟨rfl, kk, hk⟩
    have hu6 : Up w5 w6 := by rw [hk]; exact (Up.refl _).drewN _
    clear hk
    replace a := a.up hu6
    replace b := b.up hu6
    replace c := c.up hu6
    replace U := U.trans hu6
    clear hu6
    go_wp2_with fail
    refine (cmp_at _ _ _ _ _ _ _ _ _ _ a a haa).mono ?_
    rintro _ w7 ⟨rfl, kk, hk⟩
    have hu7 : Up w6 w7 := by rw [hk]; exact (Up.refl _).drewN _
    clear hk
    replace a := a.up hu7
    replace b := b.up hu7
    replace c := c.up hu7
    replace U := U.trans hu7
    clear hu7
    go_wp2_with fail
    refine (cmp_at _ _ _ _ _ _ _ _ _ _ a b HZ).mono ?_
    rintro _ w8 ⟨rfl, kk, hk⟩
    have hu8 : Up w7 w8 := by rw [hk]; exact (Up.refl _).drewN _
    clear hk
    replace a := a.up hu8
    replace b := b.up hu8
    replace c := c.up hu8
    replace U := U.trans hu8
    clear hu8
    rcases Nat.eq_zero_or_pos nc with hc | hc
    · have hbits : Hid (((M.bits nc : Nat) : Int) = 0) := by rw [hc]; rfl
      clear hc
      go_wp2_with fail
      refine (add_of _ _ _ _ _ 20 _ _ _ _ a c (by omega) (by omega) (by omega)).mono ?_
      rintro _ w9 ⟨vp, rfl, p, hu9⟩
      replace a := a.up hu9
      replace b := b.up hu9
      replace c := c.up hu9
      replace U := U.trans hu9
      clear hu9
      go_wp2_with fail
      refine (add_of _ _ _ _ _ 20 _ _ _ _ b c (by omega) (by omega) (by omega)).mono ?_
      rintro _ w10 ⟨vq, rfl, q, hu10⟩
      replace a := a.up hu10
      replace b := b.up hu10
      replace c := c.up hu10
      replace p := p.up hu10
      replace U := U.trans hu10
      clear hu10
      go_wp2_with fail
      refine (cmp_at _ _ _ _ _ _ _ _ _ _ p.nw q.nw hp).mono ?_
      rintro _ w11 ⟨rfl, kk, hk⟩
      have hu11 : Up w10 w11 := by rw [hk]; exact (Up.refl _).drewN _
      clear hk
      replace a := a.up hu11
      replace b := b.up hu11
      replace c := c.up hu11
      replace U := U.trans hu11
      clear hu11
      go_wp2_with fail
      refine (cmp_at _ _ _ _ _ _ _ _ _ _ a b HZ).mono ?_
      rintro _ w12 ⟨rfl, kk, hk⟩
      have hu12 : Up w11 w12 := by rw [hk]; exact (Up.refl _).drewN _
      clear hk
      replace a := a.up hu12
      replace b := b.up hu12
      replace c := c.up hu12
      replace U := U.trans hu12
      clear hu12
      go_wp2_with fail
      refine (add_of _ _ _ _ _ 20 _ _ _ _ a b (by omega) (by omega) (by omega)).mono ?_
      rintro _ w13 ⟨vr, rfl, r, hu13⟩
      replace a := a.up hu13
      replace c := c.up hu13
      replace U := U.trans hu13
      clear hu13
      go_wp2_with fail
      refine (cmp_at _ _ _ _ _ _ _ _ _ _ r.nw a HT).mono ?_
      rintro _ w14 ⟨rfl, kk, hk⟩
      have hu14 : Up w13 w14 := by rw [hk]; exact (Up.refl _).drewN _
      clear hk
      replace c := c.up hu14
      replace U := U.trans hu14
      clear hu14
      go_wp2_with fail
      refine (bits_at _ _ _ _ _ _ c hbits).mono ?_
      rintro _ _ ⟨rfl, rfl⟩
      go_wp2_with fail
      go_ret
      exact ⟨rfl, U⟩
    · obtain ⟨y, hy, hy1⟩ : ∃ y : Int, M.bits nc = y ∧ 0 < y := ⟨_, rfl, by have := M.bits_pos (a := nc) (by omega); omega⟩
      have hbits := Lib.hid hy
      have hm2 := Lib.hid (hm.out hc)
      clear hc hy
      go_wp2_with fail
      refine (add_of _ _ _ _ _ 20 _ _ _ _ a c (by omega) (by omega) (by omega)).mono ?_
      rintro _ w9 ⟨vp, rfl, p, hu9⟩
      replace a := a.up hu9
      replace b := b.up hu9
      replace c := c.up hu9
      replace U := U.trans hu9
      clear hu9
      go_wp2_with fail
      refine (add_of _ _ _ _ _ 20 _ _ _ _ b c (by omega) (by omega) (by omega)).mono ?_
      rintro _ w10 ⟨vq, rfl, q, hu10⟩
      replace a := a.up hu10
      replace b := b.up hu10
      replace c := c.up hu10
      replace p := p.up hu10
      replace U := U.trans hu10
      clear hu10
      go_wp2_with fail
      refine (cmp_at _ _ _ _ _ _ _ _ _ _ p.nw q.nw hp).mono ?_
      rintro _ w11 ⟨rfl, kk, hk⟩
      have hu11 : Up w10 w11 := by rw [hk]; exact (Up.refl _).drewN _
      clear hk
      replace a := a.up hu11
      replace b := b.up hu11
      replace c := c.up hu11
      replace U := U.trans hu11
      clear hu11
      go_wp2_with fail
      refine (cmp_at _ _ _ _ _ _ _ _ _ _ a b HZ).mono ?_
      rintro _ w12 ⟨rfl, kk, hk⟩
      have hu12 : Up w11 w12 := by rw [hk]; exact (Up.refl _).drewN _
      clear hk
      replace a := a.up hu12
      replace b := b.up hu12
      replace c := c.up hu12
      replace U := U.trans hu12
      clear hu12
      go_wp2_with fail
      refine (add_of _ _ _ _ _ 20 _ _ _ _ a b (by omega) (by omega) (by omega)).mono ?_
      rintro _ w13 ⟨vr, rfl, r, hu13⟩
      replace a := a.up hu13
      replace b := b.up hu13
      replace c := c.up hu13
      replace U := U.trans hu13
      clear hu13
      go_wp2_with fail
      refine (cmp_at _ _ _ _ _ _ _ _ _ _ r.nw a HT).mono ?_
      rintro _ w14 ⟨rfl, kk, hk⟩
      have hu14 : Up w13 w14 := by rw [hk]; exact (Up.refl _).drewN _
      clear hk
      replace a := a.up hu14
      replace b := b.up hu14
      replace c := c.up hu14
      replace U := U.trans hu14
      clear hu14
      go_wp2_with fail
      refine (bits_at _ _ _ _ _ _ c hbits).mono ?_
      rintro _ _ ⟨rfl, rfl⟩
      go_wp2_with fail
      refine (mul_any _ _ _ _ _ _ _ _ _ a c (by omega) (by omega)).mono ?_
      rintro _ w16 ⟨vi, rfl, i, hu16⟩
      replace a := a.up hu16
      replace b := b.up hu16
      replace c := c.up hu16
      replace U := U.trans hu16
      clear hu16
      go_wp2_with fail
      refine (mul_any _ _ _ _ _ _ _ _ _ b c (by omega) (by omega)).mono ?_
      rintro _ w17 ⟨vj, rfl, j, hu17⟩
      replace a := a.up hu17
      replace b := b.up hu17
      replace i := i.up hu17
      replace U := U.trans hu17
      clear hu17
      go_wp2_with fail
      refine (cmp_at _ _ _ _ _ _ _ _ _ _ i.nw j.nw hm2).mono ?_
      rintro _ w18 ⟨rfl, kk, hk⟩
      have hu18 : Up w17 w18 := by rw [hk]; exact (Up.refl _).drewN _
      clear hk
      replace a := a.up hu18
      replace b := b.up hu18
      replace U := U.trans hu18
      clear hu18
      go_wp2_with fail
      refine (cmp_at _ _ _ _ _ _ _ _ _ _ a b HZ).mono ?_
      rintro _ w19 ⟨rfl, kk, hk⟩
      have hu19 : Up w18 w19 := by rw [hk]; exact (Up.refl _).drewN _
      clear hk
      replace U := U.trans hu19
      clear hu19
      go_wp2_with fail
      go_ret
      exact ⟨rfl, U⟩
  · have hab := hle.out.1 z0
    clear hle
    rcases Nat.lt_or_ge nc nb with y0 | y0
    · have hbc : Hid (M.cmp nb nc = 1) := M.cmp_gt y0
      clear y0 hab
      go_wp2_with fail
      refine (cmp_at _ _ _ _ _ _ _ _ _ _ a b HZ).mono ?_
      rintro _ w5 ⟨rfl, kk, hk⟩
      have hu5 : Up w4 w5 := by rw [hk]; exact (Up.refl _).drewN _
      clear hk
      replace a := a.up hu5
      replace b := b.up hu5
      replace c := c.up hu5
      replace U := U.trans hu5
      clear hu5
      go_wp2_with fail
      refine (cmp_at _ _ _ _ _ _ _ _ _ _ b a hba).mono ?_
      rintro _ w6 ⟨rfl, kk, hk⟩
      have hu6 : Up w5 w6 := by rw [hk]; exact (Up.refl _).drewN _
      clear hk
      replace a := a.up hu6
      replace b := b.up hu6
      replace c := c.up hu6
      replace U := U.trans hu6
      clear hu6
      go_wp2_with fail
      refine (cmp_at _ _ _ _ _ _ _ _ _ _ a a haa).mono ?_
      rintro _ w7 ⟨rfl, kk, hk⟩
      have hu7 : Up w6 w7 := by rw [hk]; exact (Up.refl _).drewN _
      clear hk
      replace a := a.up hu7
      replace b := b.up hu7
      replace c := c.up hu7
      replace U := U.trans hu7
      clear hu7
      go_wp2_with fail
      refine (cmp_at _ _ _ _ _ _ _ _ _ _ a b HZ).mono ?_
      rintro _ w8 ⟨rfl, kk, hk⟩
      have hu8 : Up w7 w8 := by rw [hk]; exact (Up.refl _).drewN _
      clear hk
      replace a := a.up hu8
      replace b := b.up hu8
      replace c := c.up hu8
      replace U := U.trans hu8
      clear hu8
      go_wp2_with fail
      refine (cmp_at _ _ _ _ _ _ _ _ _ _ b c hbc).mono ?_
      rintro _ w9 ⟨rfl, kk, hk⟩
      have hu9 : Up w8 w9 := by rw [hk]; exact (Up.refl _).drewN _
      clear hk
      replace a := a.up hu9
      replace b := b.up hu9
      replace c := c.up hu9
      replace U := U.trans hu9
      clear hu9
      rcases Nat.eq_zero_or_pos nc with hc | hc
      · have hbits : Hid (((M.bits nc : Nat) : Int) = 0) := by rw [hc]; rfl
        clear hc
        go_wp2_with fail
        refine (add_of _ _ _ _ _ 20 _ _ _ _ a c (by omega) (by omega) (by omega)).mono ?_
        rintro _ w10 ⟨vp, rfl, p, hu10⟩
        replace a := a.up hu10
        replace b := b.up hu10
        replace c := c.up hu10
        replace U := U.trans hu10
        clear hu10
        go_wp2_with fail
        refine (add_of _ _ _ _ _ 20 _ _ _ _ b c (by omega) (by omega) (by omega)).mono ?_
        rintro _ w11 ⟨vq, rfl, q, hu11⟩
        replace a := a.up hu11
        replace b := b.up hu11
        replace c := c.up hu11
        replace p := p.up hu11
        replace U := U.trans hu11
        clear hu11
        go_wp2_with fail
        refine (cmp_at _ _ _ _ _ _ _ _ _ _ p.nw q.nw hp).mono ?_
        rintro _ w12 ⟨rfl, kk, hk⟩
        have hu12 : Up w11 w12 := by rw [hk]; exact (Up.refl _).drewN _
        clear hk
        replace a := a.up hu12
        replace b := b.up hu12
        replace c := c.up hu12
        replace U := U.trans hu12
        clear hu12
        go_wp2_with fail
        refine (cmp_at _ _ _ _ _ _ _ _ _ _ a b HZ).mono ?_
        rintro _ w13 ⟨rfl, kk, hk⟩
        have hu13 : Up w12 w13 := by rw [hk]; exact (Up.refl _).drewN _
        clear hk
        replace a := a.up hu13
        replace b := b.up hu13
        replace c := c.up hu13
        replace U := U.trans hu13
        clear hu13
        go_wp2_with fail
        refine (add_of _ _ _ _ _ 20 _ _ _ _ a b (by omega) (by omega) (by omega)).mono ?_
        rintro _ w14 ⟨vr, rfl, r, hu14⟩
        replace a := a.up hu14
        replace c := c.up hu14
        replace U := U.trans hu14
        clear hu14
        go_wp2_with fail
        refine (cmp_at _ _ _ _ _ _ _ _ _ _ r.nw a HT).mono ?_
        rintro _ w15 ⟨rfl, kk, hk⟩
        have hu15 : Up w14 w15 := by rw [hk]; exact (Up.refl _).drewN _
        clear hk
        replace c := c.up hu15
        replace U := U.trans hu15
        clear hu15
        go_wp2_with fail
        refine (bits_at _ _ _ _ _ _ c hbits).mono ?_
        rintro _ _ ⟨rfl, rfl⟩
        go_wp2_with fail
        go_ret
        exact ⟨rfl, U⟩
      · obtain ⟨y, hy, hy1⟩ : ∃ y : Int, M.bits nc = y ∧ 0 < y := ⟨_, rfl, by have := M.bits_pos (a := nc) (by omega); omega⟩
        have hbits := Lib.hid hy
        have hm2 := Lib.hid (hm.out hc)
        clear hc hy
        go_wp2_with fail
        refine (add_of _ _ _ _ _ 20 _ _ _ _ a c (by omega) (by omega) (by omega)).mono ?_
        rintro _ w10 ⟨vp, rfl, p, hu10⟩
        replace a := a.up hu10
        replace b := b.up hu10
        replace c := c.up hu10
        replace U := U.trans hu10
        clear hu10
        go_wp2_with fail
        refine (add_of _ _ _ _ _ 20 _ _ _ _ b c (by omega) (by omega) (by omega)).mono ?_
        rintro _ w11 ⟨vq, rfl, q, hu11⟩
        replace a := a.up hu11
        replace b := b.up hu11
        replace c := c.up hu11
        replace p := p.up hu11
        replace U := U.trans hu11
        clear hu11
        go_wp2_with fail
        refine (cmp_at _ _ _ _ _ _ _ _ _ _ p.nw q.nw hp).mono ?_
        rintro _ w12 ⟨rfl, kk, hk⟩
        have hu12 : Up w11 w12 := by rw [hk]; exact (Up.refl _).drewN _
        clear hk
        replace a := a.up hu12
        replace b := b.up hu12
        replace c := c.up hu12
        replace U := U.trans hu12
        clear hu12
        go_wp2_with fail
        refine (cmp_at _ _ _ _ _ _ _ _ _ _ a b HZ).mono ?_
        rintro _ w13 ⟨rfl, kk, hk⟩
        have hu13 : Up w12 w13 := by rw [hk]; exact (Up.refl _).drewN _
        clear hk
        replace a := a.up hu13
        replace b := b.up hu13
        replace c := c.up hu13
        replace U := U.trans hu13
        clear hu13
        go_wp2_with fail
        refine (add_of _ _ _ _ _ 20 _ _ _ _ a b (by omega) (by omega) (by omega)).mono ?_
        rintro _ w14 ⟨vr, rfl, r, hu14⟩
        replace a := a.up hu14
        replace b := b.up hu14
        replace c := c.up hu14
        replace U := U.trans hu14
        clear hu14
        go_wp2_with fail
        refine (cmp_at _ _ _ _ _ _ _ _ _ _ r.nw a HT).mono ?_
        rintro _ w15 ⟨rfl, kk, hk⟩
        have hu15 : Up w14 w15 := by rw [hk]; exact (Up.refl _).drewN _
        clear hk
        replace a := a.up hu15
        replace b := b.up hu15
        replace c := c.up hu15
        replace U := U.trans hu15
        clear hu15
        go_wp2_with fail
        refine (bits_at _ _ _ _ _ _ c hbits).mono ?_
        rintro _ _ ⟨rfl, rfl⟩
        go_wp2_with fail
        refine (mul_any _ _ _ _ _ _ _ _ _ a c (by omega) (by omega)).mono ?_
        rintro _ w17 ⟨vi, rfl, i, hu17⟩
        replace a := a.up hu17
        replace b := b.up hu17
        replace c := c.up hu17
        replace U := U.trans hu17
        clear hu17
        go_wp2_with fail
        refine (mul_any _ _ _ _ _ _ _ _ _ b c (by omega) (by omega)).mono ?_
        rintro _ w18 ⟨vj, rfl, j, hu18⟩
        replace a := a.up hu18
        replace b := b.up hu18
        replace i := i.up hu18
        replace U := U.trans hu18
        clear hu18
        go_wp2_with fail
        refine (cmp_at _ _ _ _ _ _ _ _ _ _ i.nw j.nw hm2).mono ?_
        rintro _ w19 ⟨rfl, kk, hk⟩
        have hu19 : Up w18 w19 := by rw [hk]; exact (Up.refl _).drewN _
        clear hk
        replace a := a.up hu19
        replace b := b.up hu19
        replace U := U.trans hu19
        clear hu19
        go_wp2_with fail
        refine (cmp_at _ _ _ _ _ _ _ _ _ _ a b HZ).mono ?_
        rintro _ w20 ⟨rfl, kk, hk⟩
        have hu20 : Up w19 w20 := by rw [hk]; exact (Up.refl _).drewN _
        clear hk
        replace U := U.trans hu20
        clear hu20
        go_wp2_with fail
        go_ret
        exact ⟨rfl, U⟩
    · obtain ⟨y, hy, hy1, hy2⟩ : ∃ y : Int, M.cmp nb nc = y ∧ -1 ≤ y ∧ y ≤ 0 := ⟨_, rfl, (M.cmp_rng _ _).1, M.cmp_le.2 y0⟩
      obtain ⟨x, hx, hx1, hx2⟩ : ∃ x : Int, M.cmp na nc = x ∧ -1 ≤ x ∧ x ≤ 0 := ⟨_, rfl, (M.cmp_rng _ _).1, M.cmp_le.2 (by omega)⟩
      have hbc := Lib.hid hy
      have hac := Lib.hid hx
      clear y0 hab hy hx
      go_wp2_with fail
      refine (cmp_at _ _ _ _ _ _ _ _ _ _ a b HZ).mono ?_
      rintro _ w5 ⟨rfl, kk, hk⟩
      have hu5 : Up w4 w5 := by rw [hk]; exact (Up.refl _).drewN _
      clear hk
      replace a := a.up hu5
      replace b := b.up hu5
      replace c := c.up hu5
      replace U := U.trans hu5
      clear hu5
      go_wp2_with fail
      refine (cmp_at _ _ _ _ _ _ _ _ _ _ b a hba).mono ?_
      rintro _ w6 ⟨rfl, kk, hk⟩
      have hu6 : Up w5 w6 := by rw [hk]; exact (Up.refl _).drewN _
      clear hk
      replace a := a.up hu6
      replace b := b.up hu6
      replace c := c.up hu6
      replace U := U.trans hu6
      clear hu6
      go_wp2_with fail
      refine (cmp_at _ _ _ _ _ _ _ _ _ _ a a haa).mono ?_
      rintro _ w7 ⟨rfl, kk, hk⟩
      have hu7 : Up w6 w7 := by rw [hk]; exact (Up.refl _).drewN _
      clear hk
      replace a := a.up hu7
      replace b := b.up hu7
      replace c := c.up hu7
      replace U := U.trans hu7
      clear hu7
      go_wp2_with fail
      refine (cmp_at _ _ _ _ _ _ _ _ _ _ a b HZ).mono ?_
      rintro _ w8 ⟨rfl, kk, hk⟩
      have hu8 : Up w7 w8 := by rw [hk]; exact (Up.refl _).drewN _
      clear hk
      replace a := a.up hu8
      replace b := b.up hu8
      replace c := c.up hu8
      replace U := U.trans hu8
      clear hu8
      go_wp2_with fail
      refine (cmp_at _ _ _ _ _ _ _ _ _ _ b c hbc).mono ?_
      rintro _ w9 ⟨rfl, kk, hk⟩
      have hu9 : Up w8 w9 := by rw [hk]; exact (Up.refl _).drewN _
      clear hk
      replace a := a.up hu9
      replace b := b.up hu9
      replace c := c.up hu9
      replace U := U.trans hu9
      clear hu9
      go_wp2_with fail
      refine (cmp_at _ _ _ _ _ _ _ _ _ _ a c hac).mono ?_
      rintro _ w10 ⟨rfl, kk, hk⟩
      have hu10 : Up w9 w10 := by rw [hk]; exact (Up.refl _).drewN _
      clear hk
      replace a := a.up hu10
      replace b := b.up hu10
      replace c := c.up hu10
      replace U := U.trans hu10
      clear hu10
      rcases Nat.eq_zero_or_pos nc with hc | hc
      · have hbits : Hid (((M.bits nc : Nat) : Int) = 0) := by rw [hc]; rfl
        clear hc
        go_wp2_with fail
        refine (add_of _ _ _ _ _ 20 _ _ _ _ a c (by omega) (by omega) (by omega)).mono ?_
        rintro _ w11 ⟨vp, rfl, p, hu11⟩
        replace a := a.up hu11
        replace b := b.up hu11
        replace c := c.up hu11
        replace U := U.trans hu11
        clear hu11
        go_wp2_with fail
        refine (add_of _ _ _ _ _ 20 _ _ _ _ b c (by omega) (by omega) (by omega)).mono ?_
        rintro _ w12 ⟨vq, rfl, q, hu12⟩
        replace a := a.up hu12
        replace b := b.up hu12
        replace c := c.up hu12
        replace p := p.up hu12
        replace U := U.trans hu12
        clear hu12
        go_wp2_with fail
        refine (cmp_at _ _ _ _ _ _ _ _ _ _ p.nw q.nw hp).mono ?_
        rintro _ w13 ⟨rfl, kk, hk⟩
        have hu13 : Up w12 w13 := by rw [hk]; exact (Up.refl _).drewN _
        clear hk
        replace a := a.up hu13
        replace b := b.up hu13
        replace c := c.up hu13
        replace U := U.trans hu13
        clear hu13
        go_wp2_with fail
        refine (cmp_at _ _ _ _ _ _ _ _ _ _ a b HZ).mono ?_
        rintro _ w14 ⟨rfl, kk, hk⟩
        have hu14 : Up w13 w14 := by rw [hk]; exact (Up.refl _).drewN _
        clear hk
        replace a := a.up hu14
        replace b := b.up hu14
        replace c := c.up hu14
        replace U := U.trans hu14
        clear hu14
        go_wp2_with fail
        refine (add_of _ _ _ _ _ 20 _ _ _ _ a b (by omega) (by omega) (by omega)).mono ?_
        rintro _ w15 ⟨vr, rfl, r, hu15⟩
        replace a := a.up hu15
        replace c := c.up hu15
        replace U := U.trans hu15
        clear hu15
        go_wp2_with fail
        refine (cmp_at _ _ _ _ _ _ _ _ _ _ r.nw a HT).mono ?_
        rintro _ w16 ⟨rfl, kk, hk⟩
        have hu16 : Up w15 w16 := by rw [hk]; exact (Up.refl _).drewN _
        clear hk
        replace c := c.up hu16
        replace U := U.trans hu16
        clear hu16
        go_wp2_with fail
        refine (bits_at _ _ _ _ _ _ c hbits).mono ?_
        rintro _ _ ⟨rfl, rfl⟩
        go_wp2_with fail
        go_ret
        exact ⟨rfl, U⟩
      · obtain ⟨y, hy, hy1⟩ : ∃ y : Int, M.bits nc = y ∧ 0 < y := ⟨_, rfl, by have := M.bits_pos (a := nc) (by omega); omega⟩
        have hbits := Lib.hid hy
        have hm2 := Lib.hid (hm.out hc)
        clear hc hy
        go_wp2_with fail
        refine (add_of _ _ _ _ _ 20 _ _ _ _ a c (by omega) (by omega) (by omega)).mono ?_
        rintro _ w11 ⟨vp, rfl, p, hu11⟩
        replace a := a.up hu11
        replace b := b.up hu11
        replace c := c.up hu11
        replace U := U.trans hu11
        clear hu11
        go_wp2_with fail
        refine (add_of _ _ _ _ _ 20 _ _ _ _ b c (by omega) (by omega) (by omega)).mono ?_
        rintro _ w12 ⟨vq, rfl, q, hu12⟩
        replace a := a.up hu12
        replace b := b.up hu12
        replace c := c.up hu12
        replace p := p.up hu12
        replace U := U.trans hu12
        clear hu12
        go_wp2_with fail
        refine (cmp_at _ _ _ _ _ _ _ _ _ _ p.nw q.nw hp).mono ?_
        rintro _ w13 ⟨rfl, kk, hk⟩
        have hu13 : Up w12 w13 := by rw [hk]; exact (Up.refl _).drewN _
        clear hk
        replace a := a.up hu13
        replace b := b.up hu13
        replace c := c.up hu13
        replace U := U.trans hu13
        clear hu13
        go_wp2_with fail
        refine (cmp_at _ _ _ _ _ _ _ _ _ _ a b HZ).mono ?_
        rintro _ w14 ⟨rfl, kk, hk⟩
        have hu14 : Up w13 w14 := by rw [hk]; exact (Up.refl _).drewN _
        clear hk
        replace a := a.up hu14
        replace b := b.up hu14
        replace c := c.up hu14
        replace U := U.trans hu14
        clear hu14
        go_wp2_with fail
        refine (add_of _ _ _ _ _ 20 _ _ _ _ a b (by omega) (by omega) (by omega)).mono ?_
        rintro _ w15 ⟨vr, rfl, r, hu15⟩
        replace a := a.up hu15
        replace b := b.up hu15
        replace c := c.up hu15
        replace U := U.trans hu15
        clear hu15
        go_wp2_with fail
        refine (cmp_at _ _ _ _ _ _ _ _ _ _ r.nw a HT).mono ?_
        rintro _ w16 ⟨rfl, kk, hk⟩
        have hu16 : Up w15 w16 := by rw [hk]; exact (Up.refl _).drewN _
        clear hk
        replace a := a.up hu16
        replace b := b.up hu16
        replace c := c.up hu16
        replace U := U.trans hu16
        clear hu16
        go_wp2_with fail
        refine (bits_at _ _ _ _ _ _ c hbits).mono ?_
        rintro _ _ ⟨rfl, rfl⟩
        go_wp2_with fail
        refine (mul_any _ _ _ _ _ _ _ _ _ a c (by omega) (by omega)).mono ?_
        rintro _ w18 ⟨vi, rfl, i, hu18⟩
        replace a := a.up hu18
        replace b := b.up hu18
        replace c := c.up hu18
        replace U := U.trans hu18
        clear hu18
        go_wp2_with fail
        refine (mul_any _ _ _ _ _ _ _ _ _ b c (by omega) (by omega)).mono ?_
        rintro _ w19 ⟨vj, rfl, j, hu19⟩
        replace a := a.up hu19
        replace b := b.up hu19
        replace i := i.up hu19
        replace U := U.trans hu19
        clear hu19
        go_wp2_with fail
        refine (cmp_at _ _ _ _ _ _ _ _ _ _ i.nw j.nw hm2).mono ?_
        rintro _ w20 ⟨rfl, kk, hk⟩
        have hu20 : Up w19 w20 := by rw [hk]; exact (Up.refl _).drewN _
        clear hk
        replace a := a.up hu20
        replace b := b.up hu20
        replace U := U.trans hu20
        clear hu20
        go_wp2_with fail
        refine (cmp_at _ _ _ _ _ _ _ _ _ _ a b HZ).mono ?_
        rintro _ w21 ⟨rfl, kk, hk⟩
        have hu21 : Up w20 w21 := by rw [hk]; exact (Up.refl _).drewN _
        clear hk
        replace U := U.trans hu21
        clear hu21
        go_wp2_with fail
        go_ret
        exact ⟨rfl, U⟩
end Go.Proofs.YtgjobemiabaiiaaDoor
