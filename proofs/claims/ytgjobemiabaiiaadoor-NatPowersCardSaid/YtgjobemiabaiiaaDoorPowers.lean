/-
  The reference's Power; the walk of NatPowers: true, and nothing that was there has turned.
-/
import Derived.Test.YtgjobemiabaiiaaDoorTimes
import Derived.Test.YtgjobemiabaiiaaDoorFirst
namespace Go.Proofs.YtgjobemiabaiiaaDoor
open Go.RowKit Go.Shelf

theorem Nh.up {w w' : World} {lo s : Nat} {v : Value} {a : Nat} (h : Nh w lo s v a) (hu : Up w w') : Nh w' lo s v a := by
  obtain ⟨A, n, c, xs, e, h1, h2, h3, h4, h5⟩ := h
  exact ⟨A, n, c, xs, e, h1.up hu, h2, h3, h4, h5⟩
theorem Nh.more {w : World} {lo s s' : Nat} {v : Value} {a : Nat} (h : Nh w lo s v a) (hs : s ≤ s') : Nh w lo s' v a := by
  obtain ⟨A, n, c, xs, e, h1, h2, h3, h4, h5⟩ := h
  exact ⟨A, n, c, xs, e, h1, h2, h3, by omega, h5⟩
theorem lit1_wd (w : World) (x : Nat) (X : Int) (hX : X = (x : Int)) (hx : x < 18446744073709551616) :
    Wd (w.alloc (.cells #[.int .u64 X] 24)) w.heap.size (some ⟨w.heap.size, 0, none⟩) 1 1 [x] := by
  subst hX
  exact Ow.wd_ (show Ow (w.alloc (.cells #[u64 x] 24)) w.heap.size (.slice (some ⟨w.heap.size, 0, none⟩) 1 1) 1 [x] from World.ownsRow_lit w #[u64 x] 1 (Nat.le_refl _) (by simp only [maxLen]; omega) rfl) (M.Wds.cons hx M.Wds.nil) (by omega)
theorem one_nh (w : World) : Nh (w.alloc (.cells #[.int .u64 1] 24)) w.heap.size 1 (.slice (some ⟨w.heap.size, 0, none⟩) 1 1) 1 :=
  ⟨_, 1, 1, [1], rfl, lit1_wd w 1 1 rfl (by omega), fun x hx => by simp at hx; omega, rfl, by omega, by simp [M.Nrm]⟩
theorem times_of (w : World) (lo lo' s s' : Nat) (v v' : Value) (a b : Nat) (h : Nh w lo s v a) (h' : Nh w lo' s' v' b) (hs : s ≤ 100000000) (hs' : s' ≤ 100000000) :
    Calls Tryd.prog 53 #[v, v'] w (Rh (s + s' + 1) (a * b) w) := by
  obtain ⟨A, n, c, xs, rfl, h1, h2, h3, h4, h5⟩ := h
  obtain ⟨A', n', c', ys, rfl, k1, k2, k3, k4, k5⟩ := h'
  refine (times_any w lo lo' A A' n c n' c' xs ys h1 k1 h2 k2 (by omega) (by omega)).mono ?_
  rintro _ w' ⟨v, rfl, hv, hu⟩
  rw [h3, k3] at hv
  exact ⟨v, rfl, hv.more (by omega), hu⟩

set_option maxHeartbeats 1000000 in
theorem power_any (w : World) (x N : Nat) (hx : x < 18446744073709551616) (hN : N ≤ 1000) :
    Calls Tryd.prog 33 #[u64 x, .int .i64 N] w (Rh (1 + 3 * N) (x ^ N) w) := by
  have hx1 : M.val [x] = x := by simp [M.val]
  go_enter Tryd.func33, Tryd.ntmps33
  go_wp2_with fail
  have h1 := (one_nh w).up ((Up.refl (w.alloc (.cells #[.int .u64 1] 24))).alloc (.cells #[.int .u64 (x : Int)] 24))
  have hL := lit1_wd (w.alloc (.cells #[.int .u64 1] 24)) x _ rfl hx
  have hsz : (w.alloc (.cells #[.int .u64 1] 24)).heap.size = w.heap.size + 1 := Array.size_push _
  have U := ((Up.refl w).alloc (.cells #[.int .u64 1] 24)).alloc (.cells #[.int .u64 (x : Int)] 24)
  rw [hsz] at hL
  have HX := Lib.hid hx1
  clear hsz hx1
  refine (halves_any _ _ _ 1 1 [x] hL (by omega)).mono ?_
  rintro _ w1 ⟨vb, rfl, hb, hu1⟩
  rw [HX.out] at hb
  replace h1 := h1.up hu1
  replace U := U.trans hu1
  clear hu1 hL
  have hst : Hid (x ^ 0 = 1) := Nat.pow_zero x
  go_wp2_with fail
  go_loopw [5, 7] (fun sv iv wr => ∃ (k lo' p : Nat), k ≤ N ∧ iv = .int .i64 k ∧ Up w1 wr ∧ w.heap.size ≤ lo' ∧ Nh wr lo' (1 + 3 * k) sv p ∧ Hid (x ^ k = p)) (fun _ iv _ => N - (intOf iv).toNat)
  case atStart => exact ⟨0, _, 1, by omega, rfl, Up.refl _, Nat.le_refl _, h1, hst⟩
  case round =>
    obtain ⟨k, lo', p, hk, rfl, hu, hlo, hs, HP⟩ := hrel
    clear h1 hst
    by_cases hlt : k < N
    · have HE : Hid (x ^ (k + 1) = p * x) := by rw [Hid, Nat.pow_succ, HP.out]
      go_wp2_with fail
      refine (times_of _ _ _ _ _ _ _ _ _ hs (hb.up hu) (by omega) (by omega)).mono ?_
      rintro _ w2 ⟨vt, rfl, ht, hu2⟩
      have hu3 := hu.trans hu2
      have hsz2 : w.heap.size ≤ wr.heap.size := Nat.le_trans (Up.size U) (Up.size hu)
      clear hu2
      go_wp2_with fail
      go_roundw
      case rel => exact ⟨k + 1, _, _, by omega, by go_num, hu3, hsz2, ht.more (by omega), HE⟩
      case measure => simp [intOf]; omega
    · have hkN : k = N := by omega
      subst hkN
      go_wp2_with fail
      go_ret
      obtain ⟨A, n, c, xs, rfl, g1, g2, g3, g4, g5⟩ := hs
      exact ⟨_, rfl, ⟨A, n, c, xs, rfl, g1.lower hlo, g2, g3.trans HP.out.symm, g4, g5⟩, U.trans hu⟩

set_option maxHeartbeats 1000000 in
theorem same_law (w : World) (lo lo' s s' : Nat) (v v' : Value) (a b : Nat) (h : Nt w lo s v a) (h' : Nh w lo' s' v' b) (e : a = b) (hs : s ≤ 1000000000) :
    Calls Tryd.prog 16 #[v, v'] w (Sm true w) := by
  subst e
  have cs := Lib.hid (same_any w lo lo' s s' v v' a h h' hs)
  clear h h'
  go_enter Tryd.func16, Tryd.ntmps16
  go_wp2_with fail
  refine cs.out.mono ?_
  rintro _ w1 ⟨rfl, hu⟩
  go_wp2_with fail
  go_ret
  exact ⟨rfl, hu⟩
theorem wf_u64 {x : Int} (h : (Lit.int .u64 x).wf = true) : ∃ n : Nat, x = (n : Int) ∧ n < 18446744073709551616 := by
  have h6 : (0 : Int) ≤ x ∧ x ≤ 18446744073709551615 := by simpa [Lit.wf, IntKind.min, IntKind.max, IntKind.signed, IntKind.bits] using h
  exact ⟨x.toNat, by omega, by omega⟩
theorem wf_i64 {x : Int} (h : (Lit.int .i64 x).wf = true) : -9223372036854775808 ≤ x ∧ x ≤ 9223372036854775807 := by
  simpa [Lit.wf, IntKind.min, IntKind.max, IntKind.signed, IntKind.bits] using h
theorem tmod_rng (x : Int) : ∃ r, x.tmod 66 = r ∧ -66 < r ∧ r < 66 := by
  refine ⟨_, rfl, ?_, ?_⟩
  · rcases Int.le_total 0 x with h | h
    · rw [Int.tmod_eq_emod_of_nonneg h]; omega
    · have e : x.tmod 66 = -((-x).tmod 66) := by rw [Int.neg_tmod]; omega
      rw [e, Int.tmod_eq_emod_of_nonneg (by omega)]; omega
  · rcases Int.le_total 0 x with h | h
    · rw [Int.tmod_eq_emod_of_nonneg h]; omega
    · have e : x.tmod 66 = -((-x).tmod 66) := by rw [Int.neg_tmod]; omega
      rw [e, Int.tmod_eq_emod_of_nonneg (by omega)]; omega

set_option maxHeartbeats 4000000 in
set_option maxRecDepth 100000 in
theorem powers_walk (w : World) (hTW : TabW w) (hEW : ErrW w) (x : Int) (wx : (Lit.int .u64 x).wf = true) (n : Int) (wn : (Lit.int .i64 n).wf = true) :
    Calls Tryd.prog 5 #[.int .u64 x, .int .i64 n] w (True_ w) := by
  obtain ⟨X, rfl, hX⟩ := wf_u64 wx
  obtain ⟨r, hr, hr1, hr2⟩ := tmod_rng n
  obtain ⟨N, hN, hNb⟩ : ∃ N : Nat, max 0 (min (r - 5) 10000) = (N : Int) ∧ N ≤ 60 := ⟨(max 0 (min (r - 5) 10000)).toNat, by omega, by omega⟩
  have hN2 : max (r - 5) 0 = (N : Int) := by omega
  have hN3 := Lib.hid hN
  have U := Up.refl w
  have hn := wf_i64 wn
  clear wx wn hN
  go_enter Tryd.func5, Tryd.ntmps5
  go_wp2_with fail
  refine (shown_any _ hTW hEW).mono ?_
  rintro _ w1 ⟨rfl, hu1⟩
  replace U := U.trans hu1
  clear hu1 hTW hEW
  go_wp2_with fail
  refine (pow_any _ X N _ hX hN3.out).mono ?_
  rintro _ w2 ⟨vp, rfl, hp, hu2⟩
  replace U := U.trans hu2
  clear hu2
  go_wp2_with fail
  refine (power_any _ X N hX (by omega)).mono ?_
  rintro _ w3 ⟨vq, rfl, hq, hu3⟩
  replace hp := hp.up hu3
  replace U := U.trans hu3
  clear hu3
  go_wp2_with fail
  refine (same_law _ _ _ _ _ _ _ _ _ hp hq rfl (by omega)).mono ?_
  rintro _ w4 ⟨rfl, hu4⟩
  replace U := U.trans hu4
  clear hu4
  go_wp2_with fail
  go_ret
  exact ⟨rfl, U⟩
end Go.Proofs.YtgjobemiabaiiaaDoor
