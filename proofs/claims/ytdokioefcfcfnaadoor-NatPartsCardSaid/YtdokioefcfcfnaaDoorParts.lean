/-
  The walk of NatParts: true, and nothing that was there has turned.
-/
import Derived.Test.YtdokioefcfcfnaaDoorFirst
import Derived.Test.YtdokioefcfcfnaaDoorUse
namespace Go.Proofs.YtdokioefcfcfnaaDoor
open Go.RowKit Go.Shelf

set_option maxHeartbeats 8000000 in
set_option maxRecDepth 100000 in
theorem parts_walk (w : World) (hTW : TabW w) (hEW : ErrW w) (A0 : Option Addr) (n0 c0 : Nat) (x0 : List Nat) (h0 : Src w A0 n0 c0 x0) (A1 : Option Addr) (n1 c1 : Nat) (x1 : List Nat) (h1 : Src w A1 n1 c1 x1) :
    Calls Tryd.prog 5 #[.slice A0 n0 c0, .slice A1 n1 c1] w (True_ w) := by
  have U := Up.refl w
  go_enter Tryd.func5, Tryd.ntmps5
  go_wp2_with fail
  refine (shown_any _ hTW hEW).mono ?_
  rintro _ w1 ⟨rfl, hu1⟩
  replace h0 := h0.up hu1
  replace h1 := h1.up hu1
  replace U := U.trans hu1
  clear hu1
  go_wp2_with fail
  refine (few_lit _ _ _ _ _ h0 30 _ rfl (by omega)).mono ?_
  rintro _ w2 ⟨va, na, rfl, a, hu2⟩
  replace h1 := h1.up hu2
  replace U := U.trans hu2
  clear hu2
  go_wp2_with fail
  refine (few_lit _ _ _ _ _ h1 30 _ rfl (by omega)).mono ?_
  rintro _ w3 ⟨vb, nb, rfl, b, hu3⟩
  replace a := a.up hu3
  replace U := U.trans hu3
  clear hu3
  rcases Nat.eq_zero_or_pos nb with hb | hb
  · have hbits : Hid (((M.bits nb : Nat) : Int) = 0) := by rw [hb]; rfl
    have b' := b
    rw [hb] at b'
    clear hb
    go_wp2_with fail
    refine (div_zero _ _ _ _ _ _ _ _ a b').mono ?_
    rintro _ w4 ⟨vq, vr, rfl, q, r, hu4⟩
    replace b := b.up hu4
    replace U := U.trans hu4
    clear hu4
    go_wp2_with fail
    refine (bits_at2 _ _ _ _ _ _ b hbits).mono ?_
    rintro _ _ ⟨rfl, rfl⟩
    go_wp2_with fail
    go_ret
    exact ⟨rfl, U⟩
  · obtain ⟨y, hy, hy1⟩ : ∃ y : Int, M.bits nb = y ∧ 0 < y := ⟨_, rfl, by have := M.bits_pos (a := nb) (by omega); omega⟩
    have hbits := Lib.hid hy
    have hlt : Hid (M.cmp (na % nb) nb = -1) := M.cmp_lt (Nat.mod_lt _ hb)
    have heq : Hid (na / nb * nb + na % nb = na) := by rw [Hid, Nat.mul_comm]; exact Nat.div_add_mod na nb
    have hy2 : ((y : Int) == 0) = false := by rw [beq_eq_false_iff_ne]; omega
    clear hy
    go_wp2_with fail
    refine (div_any _ _ _ _ _ _ _ _ _ a b hb (by omega)).mono ?_
    rintro _ w4 ⟨vq, vr, rfl, q, r, hu4⟩
    replace a := a.up hu4
    replace b := b.up hu4
    replace U := U.trans hu4
    clear hu4
    go_wp2_with fail
    refine (bits_at2 _ _ _ _ _ _ b hbits).mono ?_
    rintro _ _ ⟨rfl, rfl⟩
    go_wp2_with fail
    refine (cmp_at _ _ _ _ _ _ _ _ _ _ r.nw b hlt).mono ?_
    rintro _ w6 ⟨rfl, kk, hk⟩
    have hu6 : Up w4 w6 := by rw [hk]; exact (Up.refl _).drewN _
    clear hk
    replace a := a.up hu6
    replace b := b.up hu6
    replace q := q.up hu6
    replace r := r.up hu6
    replace U := U.trans hu6
    clear hu6
    go_wp2_with fail
    refine (mul_any _ _ _ _ _ _ _ _ _ q.nw b (by omega) (by omega)).mono ?_
    rintro _ w7 ⟨vm, rfl, m, hu7⟩
    replace a := a.up hu7
    replace r := r.up hu7
    replace U := U.trans hu7
    clear hu7
    go_wp2_with fail
    refine (add_of _ _ _ _ _ 61 _ _ _ _ m.nw r.nw (by omega) (by omega) (by omega)).mono ?_
    rintro _ w8 ⟨vp, rfl, p, hu8⟩
    replace a := a.up hu8
    replace U := U.trans hu8
    clear hu8
    go_wp2_with fail
    refine (cmp_same _ _ _ _ _ _ _ _ _ p.nw a heq.out).mono ?_
    rintro _ w9 ⟨rfl, kk, hk⟩
    have hu9 : Up w8 w9 := by rw [hk]; exact (Up.refl _).drewN _
    clear hk
    replace U := U.trans hu9
    clear hu9
    go_wp2_with fail
    go_ret
    exact ⟨rfl, U⟩
end Go.Proofs.YtdokioefcfcfnaaDoor
