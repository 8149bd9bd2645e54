/-
  The reference's calls, as the laws' walks use them.
-/
import Derived.Test.YteeepfhjbemgoaaDoorRef2
import Derived.Test.YteeepfhjbemgoaaDoorTimes
import Derived.Test.YteeepfhjbemgoaaDoorFirst
import Derived.Test.YteeepfhjbemgoaaDoorUse
namespace Go.Proofs.YteeepfhjbemgoaaDoor
open Go.RowKit Go.Shelf

theorem Nh.up {w w' : World} {lo s : Nat} {v : Value} {a : Nat} (h : Nh w lo s v a) (hu : Up w w') : Nh w' lo s v a := by
  obtain ⟨A, n, c, xs, e, h1, h2, h3, h4, h5⟩ := h
  exact ⟨A, n, c, xs, e, h1.up hu, h2, h3, h4, h5⟩
theorem Nh.more {w : World} {lo s s' : Nat} {v : Value} {a : Nat} (h : Nh w lo s v a) (hs : s ≤ s') : Nh w lo s' v a := by
  obtain ⟨A, n, c, xs, e, h1, h2, h3, h4, h5⟩ := h
  exact ⟨A, n, c, xs, e, h1, h2, h3, by omega, h5⟩
theorem one_nh (w : World) : Nh (w.alloc (.cells #[.int .u64 1] 41)) w.heap.size 1 (.slice (some ⟨w.heap.size, 0, none⟩) 1 1) 1 :=
  ⟨_, 1, 1, [1], rfl, lit1_wd w 1 1 rfl (by omega), fun x hx => by simp at hx; omega, rfl, by omega, by simp [M.Nrm]⟩
theorem times_of (w : World) (lo lo' s s' : Nat) (v v' : Value) (a b : Nat) (h : Nh w lo s v a) (h' : Nh w lo' s' v' b) (hs : s ≤ 100000000) (hs' : s' ≤ 100000000) :
    Calls Tryd.prog 63 #[v, v'] w (Rh (s + s' + 1) (a * b) w) := by
  obtain ⟨A, n, c, xs, rfl, h1, h2, h3, h4, h5⟩ := h
  obtain ⟨A', n', c', ys, rfl, k1, k2, k3, k4, k5⟩ := h'
  refine (times_any w lo lo' A A' n c n' c' xs ys h1 k1 h2 k2 (by omega) (by omega)).mono ?_
  rintro _ w' ⟨v, rfl, hv, hu⟩
  rw [h3, k3] at hv
  exact ⟨v, rfl, hv.more (by omega), hu⟩

set_option maxHeartbeats 1000000 in
theorem same_law (w : World) (lo lo' s s' : Nat) (v v' : Value) (a b : Nat) (h : Nt w lo s v a) (h' : Nh w lo' s' v' b) (e : a = b) (hs : s ≤ 1000000000) :
    Calls Tryd.prog 22 #[v, v'] w (Sm true w) := by
  subst e
  have cs := Lib.hid (same_any w lo lo' s s' v v' a h h' hs)
  clear h h'
  go_enter Tryd.func22, Tryd.ntmps22
  go_wp2_with fail
  refine cs.out.mono ?_
  rintro _ w1 ⟨rfl, hu⟩
  go_wp2_with fail
  go_ret
  exact ⟨rfl, hu⟩
theorem up_of (w : World) (lo s : Nat) (v : Value) (a : Nat) (h : Nh w lo s v a) (hs : s ≤ 100000000) (N : Nat) (K : Int) (hK : K = (N : Int)) (hN : N ≤ 10000000) :
    Calls Tryd.prog 118 #[v, .int .i64 K] w (Rh (s + N / 32 + 1) (a * 2 ^ N) w) := by
  subst hK
  obtain ⟨A, n, c, xs, rfl, h1, h2, h3, h4, h5⟩ := h
  refine (up_any w lo A n c xs h1 h2 (by omega) N hN).mono ?_
  rintro _ w' ⟨v, rfl, hv, hu⟩
  rw [h3] at hv
  exact ⟨v, rfl, hv.more (by omega), hu⟩
theorem halves_of (w : World) (lo s : Nat) (v : Value) (a : Nat) (h : Nw w lo s v a) (hs : s ≤ 1000000000) : Calls Tryd.prog 17 #[v] w (Rh (2 * s) a w) := by
  obtain ⟨A, n, c, xs, rfl, h1, h2, h3⟩ := h
  refine (halves_any w lo A n c xs h1 (by omega)).mono ?_
  rintro _ w' ⟨v, rfl, hv, hu⟩
  rw [h2] at hv
  exact ⟨v, rfl, hv.more (by omega), hu⟩
end Go.Proofs.YteeepfhjbemgoaaDoor
