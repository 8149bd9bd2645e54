/-
  The reference of layer 2: Fives, Parts, Cmp.
-/
import Derived.Test.YteeepfhjbemgoaaDoorRef3
import Derived.Test.YteeepfhjbemgoaaDoorEx2
import Derived.Test.YteeepfhjbemgoaaDoorRuse
namespace Go.Proofs.YteeepfhjbemgoaaDoor
open Go.RowKit Go.Shelf

theorem lit_nh (w : World) (x : Nat) (X : Int) (hX : X = (x : Int)) (hx : x < 4294967296) (h0 : x ≠ 0) : Nh (w.alloc (.cells #[.int .u64 X] 41)) w.heap.size 1 (.slice (some ⟨w.heap.size, 0, none⟩) 1 1) x :=
  ⟨_, 1, 1, [x], rfl, lit1_wd w x X hX (by omega), fun y hy => by simp at hy; omega, by simp [M.vh], by omega, by simp [M.Nrm, h0]⟩
theorem M.five_fit (n : Nat) : 5 ^ n < 4294967296 ^ (n + 1) := by
  have h1 : 5 ^ n ≤ 4294967296 ^ n := Nat.pow_le_pow_left (by omega) _
  have h2 : 4294967296 ^ n < 4294967296 ^ (n + 1) := Nat.pow_lt_pow_right (by omega) (by omega)
  omega

set_option maxHeartbeats 2000000 in
theorem fives_nat : ∀ (n : Nat) (w : World), n ≤ 20000 → Calls Tryd.prog 119 #[.int .i64 n] w (Rh (n + 1) (5 ^ n) w) := by
  intro n
  induction n using Nat.strongRecOn with
  | _ n ih =>
    intro w hn
    rcases Nat.eq_zero_or_pos n with h0 | h0
    · subst h0
      have key : Rh 1 (5 ^ 0) w (.returned (.slice (some ⟨w.heap.size, 0, none⟩) 1 1)) (w.alloc (.cells #[.int .u64 1] 41)) := ⟨_, rfl, lit_nh w 1 1 rfl (by omega) (by omega), (Up.refl w).alloc _⟩
      clear ih
      go_enter Tryd.func119, Tryd.ntmps119
      go_wp2_with fail
      go_ret
      exact key
    · obtain ⟨m, hm⟩ : ∃ m, n / 2 = m := ⟨_, rfl⟩
      have q1 : (n : Int) / 2 = (m : Int) := by omega
      have q2 : (n : Int).tdiv 2 = (m : Int) := by rw [Int.tdiv_eq_ediv_of_nonneg (by omega)]; exact q1
      have C := Lib.hid (ih m (by omega) w (by omega))
      have d0 : decide ((n : Int) ≤ 0) = false := decide_eq_false (by omega)
      clear ih
      rcases (show n % 2 = 0 ∨ n % 2 = 1 by omega) with hr | hr
      · have q3 : (n : Int) % 2 = 0 := by omega
        have q4 : (n : Int).tmod 2 = 0 := by rw [Int.tmod_eq_emod_of_nonneg (by omega)]; exact q3
        have E : Hid (5 ^ m * 5 ^ m = 5 ^ n) := by show _ = _; rw [← Nat.pow_add, show m + m = n by omega]
        clear hm hr
        go_enter Tryd.func119, Tryd.ntmps119
        go_wp2_with fail
        refine C.out.mono ?_
        rintro _ w1 ⟨v1, rfl, h1, u1⟩
        go_wp2_with fail
        refine (times_of w1 _ _ _ _ _ _ _ _ h1 h1 (by omega) (by omega)).mono ?_
        rintro _ w2 ⟨v2, rfl, h2, u2⟩
        rw [E.out] at h2
        go_wp2_with fail
        go_ret
        exact ⟨_, rfl, (h2.fit (M.five_fit n)).lower u1.size, u1.trans u2⟩
      · have q3 : (n : Int) % 2 = 1 := by omega
        have q4 : (n : Int).tmod 2 = 1 := by rw [Int.tmod_eq_emod_of_nonneg (by omega)]; exact q3
        have E : Hid (5 ^ m * 5 ^ m * 5 = 5 ^ n) := by show _ = _; rw [← Nat.pow_add, ← Nat.pow_succ, show (m + m).succ = n by omega]
        clear hm hr
        go_enter Tryd.func119, Tryd.ntmps119
        go_wp2_with fail
        refine C.out.mono ?_
        rintro _ w1 ⟨v1, rfl, h1, u1⟩
        go_wp2_with fail
        refine (times_of w1 _ _ _ _ _ _ _ _ h1 h1 (by omega) (by omega)).mono ?_
        rintro _ w2 ⟨v2, rfl, h2, u2⟩
        have U := u1.trans u2
        have sz := Up.size U
        clear u1 u2 h1
        go_wp2_with fail
        have u3 : Up w2 (w2.alloc (.cells #[.int .u64 5] 41)) := (Up.refl w2).alloc _
        refine (times_of _ _ _ _ _ _ _ _ _ (h2.up u3) (lit_nh w2 5 5 rfl (by omega) (by omega)) (by omega) (by omega)).mono ?_
        rintro _ w4 ⟨v4, rfl, h4, u4⟩
        rw [E.out] at h4
        replace U := (U.trans u3).trans u4
        have szz : w.heap.size ≤ (w2.alloc (.cells #[.int .u64 5] 41)).heap.size := Nat.le_trans sz (Up.size u3)
        clear u3 u4 h2
        go_wp2_with fail
        go_ret
        exact ⟨_, rfl, (h4.fit (M.five_fit n)).lower szz, U⟩
/-- 5 to a power, below 0 too. -/
theorem fives_any (w : World) (f : Int) (F : Nat) (hF : Hid (max f 0 = (F : Int))) (hb : F ≤ 20000) : Calls Tryd.prog 119 #[.int .i64 f] w (Rh (F + 1) (5 ^ F) w) := by
  have h := hF.out
  rcases (show f ≤ 0 ∨ 0 < f by omega) with h0 | h0
  · have e : F = 0 := by omega
    subst e
    have key : Rh 1 (5 ^ 0) w (.returned (.slice (some ⟨w.heap.size, 0, none⟩) 1 1)) (w.alloc (.cells #[.int .u64 1] 41)) := ⟨_, rfl, lit_nh w 1 1 rfl (by omega) (by omega), (Up.refl w).alloc _⟩
    have d0 : decide (f ≤ 0) = true := decide_eq_true h0
    clear h hF
    go_enter Tryd.func119, Tryd.ntmps119
    go_wp2_with fail
    go_ret
    exact key
  · have e : f = (F : Int) := by omega
    rw [e]
    exact fives_nat F w hb
/-- Two numbers of half words. -/
def Rh2 (s a s' b : Nat) (w : World) (e : Ending) (w' : World) : Prop := ∃ v1 v2, e = .returned (.tuple #[v1, v2]) ∧ Nh w' w.heap.size s v1 a ∧ Nh w' w.heap.size s' v2 b ∧ Up w w'
theorem halves_up (w w' : World) (lo s : Nat) (v : Value) (a : Nat) (h : Nw w lo s v a) (hu : Up w w') (hs : s ≤ 1000000000) : Calls Tryd.prog 17 #[v] w' (Rh (2 * s) a w') := halves_of w' lo s v a (h.up hu) hs
theorem up_up (w w' : World) (lo s : Nat) (v : Value) (a : Nat) (h : Nh w lo s v a) (hu : Up w w') (hs : s ≤ 100000000) (N : Nat) (K : Int) (hK : Hid (K = (N : Int))) (hN : N ≤ 10000000) :
    Calls Tryd.prog 118 #[v, .int .i64 K] w' (Rh (s + N / 32 + 1) (a * 2 ^ N) w') := up_of w' lo s v a (h.up hu) hs N K hK.out hN
theorem times_up (w w1 w2 : World) (lo lo' s s' : Nat) (v v' : Value) (a b : Nat) (h : Nh w lo s v a) (hu : Up w w2) (h' : Nh w1 lo' s' v' b) (hu1 : Up w1 w2) (hs : s ≤ 100000000) (hs' : s' ≤ 100000000) :
    Calls Tryd.prog 63 #[v, v'] w2 (Rh (s + s' + 1) (a * b) w2) := times_of w2 lo lo' s s' v v' a b (h.up hu) (h'.up hu1) hs hs'

set_option maxHeartbeats 4000000 in
set_option maxRecDepth 100000 in
theorem parts_any (w : World) (lo s : Nat) (neg : Bool) (v : Value) (t f : Int) (a : Nat) (h : Nw w lo s v a) (hs : s ≤ 100000) (T F T' F' : Nat)
    (hT : Hid (max t 0 = (T : Int))) (hF : Hid (max f 0 = (F : Int))) (hT' : Hid (max (-t) 0 = (T' : Int))) (hF' : Hid (max (-f) 0 = (F' : Int))) (b1 : T ≤ 20000) (b2 : F ≤ 20000) (b3 : T' ≤ 20000) (b4 : F' ≤ 20000) :
    Calls Tryd.prog 120 #[xv neg v t f] w (Rh2 (2 * s + F + T + 10) (a * 5 ^ F * 2 ^ T) (F' + T' + 10) (5 ^ F' * 2 ^ T') w) := by
  have rt : -20000 ≤ t ∧ t ≤ 20000 ∧ -20000 ≤ f ∧ f ≤ 20000 := by
    have := hT.out
    have := hF.out
    have := hT'.out
    have := hF'.out
    omega
  have w3' : IntKind.i64.wrap (-t) = -t := by simp [IntKind.wrap, IntKind.bits, IntKind.signed]; omega
  have w4' : IntKind.i64.wrap (-f) = -f := by simp [IntKind.wrap, IntKind.bits, IntKind.signed]; omega
  go_enter Tryd.func120, Tryd.ntmps120
  go_wp2_with fail
  obtain ⟨W, hW⟩ : ∃ W, w.alloc (.cells #[.bool neg, v, .int .i64 t, .int .i64 f] 44) = W := ⟨_, rfl⟩
  have hu : Up w W := by rw [← hW]; exact (Up.refl w).alloc _
  have c1 : W.cell? ⟨w.heap.size, 1, none⟩ = some v := by rw [← hW]; simp
  have c2 : W.cell? ⟨w.heap.size, 2, none⟩ = some (.int .i64 t) := by rw [← hW]; simp
  have c3 : W.cell? ⟨w.heap.size, 3, none⟩ = some (.int .i64 f) := by rw [← hW]; simp
  have bz := World.block_lt_of_cell? _ _ c1
  simp only at bz
  rw [hW]
  clear hW
  have hh := h.up hu
  clear h
  have HHa := Lib.hid (fun w' (hu : Up W w') => halves_up W w' lo s v a hh hu (by omega))
  have HFa := Lib.hid (fun w' (_ : Up W w') => fives_any w' f F hF b2)
  have HFb := Lib.hid (fun w' (_ : Up W w') => fives_any w' (-f) F' hF' b4)
  go_region_held3 (fun w' => w'.cell? ⟨w.heap.size, 1, none⟩ = some v ∧ w'.cell? ⟨w.heap.size, 2, none⟩ = some (.int .i64 t) ∧ w'.cell? ⟨w.heap.size, 3, none⟩ = some (.int .i64 f)) (go_keep) (first
    | (go_at_call 17; (with_reducible refine (HHa.out _ ?_).mono ?_); (first | with_reducible assumption | exact (Up.refl _).drewN 1); rintro _ wA ⟨vA, rfl, hA, hua⟩; have uA : Up W wA := Up.trans (by first | with_reducible assumption | exact (Up.refl W).drewN 1) hua; have a1 := cell_up uA c1; have a2 := cell_up uA c2; have a3 := cell_up uA c3)
    | (go_at_call 119; (with_reducible refine (HFa.out _ ?_).mono ?_); (first | with_reducible assumption | exact (Up.refl _).drewN 1); rintro _ wB ⟨vB, rfl, hB, hub⟩; have uB : Up W wB := Up.trans (by first | with_reducible assumption | exact (Up.refl W).drewN 1) hub; have b1 := cell_up uB c1; have b2 := cell_up uB c2; have b3 := cell_up uB c3)
    | (go_at_call 63; (with_reducible refine (times_up _ _ _ _ _ _ _ _ _ _ _ hA hub hB (Up.refl _) (by omega) (by omega)).mono ?_); rintro _ wC ⟨vC, rfl, hC, huc⟩; have uC : Up W wC := Up.trans (by first | with_reducible assumption | exact (Up.refl W).drewN 1) huc; have cc1 := cell_up uC c1; have cc2 := cell_up uC c2; have cc3 := cell_up uC c3)
    | (go_at_call 118; (with_reducible refine (up_up _ _ _ _ _ _ hC (Up.refl _) (by omega) T _ hT (by omega)).mono ?_); rintro _ wD ⟨vD, rfl, hD, hud⟩; have uD : Up W wD := Up.trans (by first | with_reducible assumption | exact (Up.refl W).drewN 1) hud; have e1 := cell_up uD c1; have e2 := cell_up uD c2; have e3 := cell_up uD c3))
  all_goals
    clear a1 a2 a3 b1 b2 b3 cc1 cc2 cc3
    have HD : Nh wD W.heap.size (2 * s + F + T + 10) vD (a * 5 ^ F * 2 ^ T) := (hD.lower (Up.size uC)).more (by omega)
    clear hA hB hC hD hua hub huc hud uA uB uC
    go_wp2_with fail
    go_region_held3 (fun w' => w'.cell? ⟨w.heap.size, 2, none⟩ = some (.int .i64 t) ∧ w'.cell? ⟨w.heap.size, 3, none⟩ = some (.int .i64 f)) (go_keep) (first
      | (go_at_call 119; (with_reducible refine (HFb.out _ ?_).mono ?_); (first | with_reducible assumption | exact uD.drewN 1); rintro _ wE ⟨vE, rfl, hE, hue⟩; have uE : Up W wE := Up.trans (by first | with_reducible assumption | exact uD.drewN 1) hue; have k2 := cell_up uE c2; have k3 := cell_up uE c3)
      | (go_at_call 118; (with_reducible refine (up_up _ _ _ _ _ _ hE (Up.refl _) (by omega) T' _ hT' (by omega)).mono ?_); rintro _ wF ⟨vF, rfl, hF', huf⟩; have uF : Up W wF := Up.trans (by first | with_reducible assumption | exact uD.drewN 1) huf; have l2 := cell_up uF c2; have l3 := cell_up uF c3))
    all_goals
      have uDF : Up wD wF := by first | exact ((Up.refl _).drewN 1).trans (hue.trans huf) | exact hue.trans huf
      go_wp2_with fail
      go_ret2
      exact ⟨_, _, rfl, (HD.up uDF).lower (by have := Up.size hu; omega), (hF'.lower (by have := Up.size hu; have := Up.size uE; omega)).more (by omega), hu.trans uF⟩

namespace M
theorem scale_ov {a : Nat} {t f m k2 k5 : Int} {E2 E5 x2 x5 y2 y5 : Nat} (h2 : (E2 : Int) = t + k2) (h5 : (E5 : Int) = f + k5) (hm : m ≤ t) (hm' : m ≤ f) (e2 : (x2 : Int) + k2 = y2 - m) (e5 : (x5 : Int) + k5 = y5 - m) :
    a * 5 ^ E5 * 2 ^ E2 * (5 ^ x5 * 2 ^ x2) = ov a t f m * (5 ^ y5 * 2 ^ y2) := by
  unfold ov
  have q2 : E2 + x2 = (t - m).toNat + y2 := by omega
  have q5 : E5 + x5 = (f - m).toNat + y5 := by omega
  have p2 : (2 : Nat) ^ E2 * 2 ^ x2 = 2 ^ (t - m).toNat * 2 ^ y2 := by rw [← Nat.pow_add, ← Nat.pow_add, q2]
  have p5 : (5 : Nat) ^ E5 * 5 ^ x5 = 5 ^ (f - m).toNat * 5 ^ y5 := by rw [← Nat.pow_add, ← Nat.pow_add, q5]
  calc a * 5 ^ E5 * 2 ^ E2 * (5 ^ x5 * 2 ^ x2) = a * (5 ^ E5 * 5 ^ x5) * (2 ^ E2 * 2 ^ x2) := by ac_rfl
    _ = a * (5 ^ (f - m).toNat * 5 ^ y5) * (2 ^ (t - m).toNat * 2 ^ y2) := by rw [p2, p5]
    _ = _ := by ac_rfl
theorem cmp_ref {a b T F T' F' T2 F2 T2' F2' : Nat} {t f t' f' m : Int} (m1 : m ≤ t) (m2 : m ≤ f) (m3 : m ≤ t') (m4 : m ≤ f')
    (hT : max t 0 = (T : Int)) (hF : max f 0 = (F : Int)) (hT' : max (-t) 0 = (T' : Int)) (hF' : max (-f) 0 = (F' : Int)) (hT2 : max t' 0 = (T2 : Int)) (hF2 : max f' 0 = (F2 : Int)) (hT2' : max (-t') 0 = (T2' : Int)) (hF2' : max (-f') 0 = (F2' : Int)) :
    cmp (a * 5 ^ F * 2 ^ T * (5 ^ F2' * 2 ^ T2')) (b * 5 ^ F2 * 2 ^ T2 * (5 ^ F' * 2 ^ T')) = cmp (ov a t f m) (ov b t' f' m) := by
  obtain ⟨k2, hk2⟩ : ∃ k : Int, (T' : Int) + T2' = k := ⟨_, rfl⟩
  obtain ⟨k5, hk5⟩ : ∃ k : Int, (F' : Int) + F2' = k := ⟨_, rfl⟩
  obtain ⟨x2, y2, e2⟩ : ∃ x y : Nat, (x : Int) + k2 = y - m := ⟨(-m - k2).toNat, (m + k2).toNat, by omega⟩
  obtain ⟨x5, y5, e5⟩ : ∃ x y : Nat, (x : Int) + k5 = y - m := ⟨(-m - k5).toNat, (m + k5).toNat, by omega⟩
  have hx : 0 < 5 ^ x5 * 2 ^ x2 := Nat.mul_pos (Nat.pow_pos (by omega)) (Nat.pow_pos (by omega))
  have hy : 0 < 5 ^ y5 * 2 ^ y2 := Nat.mul_pos (Nat.pow_pos (by omega)) (Nat.pow_pos (by omega))
  have l1 : a * 5 ^ F * 2 ^ T * (5 ^ F2' * 2 ^ T2') = a * 5 ^ (F + F2') * 2 ^ (T + T2') := by rw [Nat.pow_add, Nat.pow_add]; ac_rfl
  have l2 : b * 5 ^ F2 * 2 ^ T2 * (5 ^ F' * 2 ^ T') = b * 5 ^ (F2 + F') * 2 ^ (T2 + T') := by rw [Nat.pow_add, Nat.pow_add]; ac_rfl
  rw [l1, l2, ← cmp_times _ _ _ hx, scale_ov (t := t) (f := f) (m := m) (k2 := k2) (k5 := k5) (y2 := y2) (y5 := y5) (by omega) (by omega) m1 m2 e2 e5,
    scale_ov (t := t') (f := f') (m := m) (k2 := k2) (k5 := k5) (y2 := y2) (y5 := y5) (by omega) (by omega) m3 m4 e2 e5, cmp_times _ _ _ hy]
end M
theorem rcmp_of (w : World) (lo lo' s s' : Nat) (v v' : Value) (a b : Nat) (h : Nh w lo s v a) (h' : Nh w lo' s' v' b) (z : Int) (hz : Hid (M.cmp a b = z)) : Calls Tryd.prog 105 #[v, v'] w (Same (.int .i64 z) w) := by
  obtain ⟨A, n, c, xs, rfl, h1, h2, h3, h4, h5⟩ := h
  obtain ⟨A', n', c', ys, rfl, k1, k2, k3, k4, k5⟩ := h'
  have := rcmp_any w lo lo' A A' n c n' c' xs ys h1 k1 h2 k2
  rwa [h3, k3, hz.out] at this

set_option maxHeartbeats 4000000 in
set_option maxRecDepth 100000 in
theorem rxcmp_any (m : Int) (w : World) (lo lo' s s' : Nat) (neg neg' : Bool) (v v' : Value) (t f t' f' : Int) (a b : Nat) (h : Nw w lo s v a) (h' : Nw w lo' s' v' b) (hs : s ≤ 100000) (hs' : s' ≤ 100000)
    (bt : m ≤ t ∧ -20000 ≤ t ∧ t ≤ 20000) (bf : m ≤ f ∧ -20000 ≤ f ∧ f ≤ 20000) (bt' : m ≤ t' ∧ -20000 ≤ t' ∧ t' ≤ 20000) (bf' : m ≤ f' ∧ -20000 ≤ f' ∧ f' ≤ 20000) (z : Int) (hz : Hid (M.cmp (M.ov a t f m) (M.ov b t' f' m) = z)) :
    Calls Tryd.prog 89 #[xv neg v t f, xv neg' v' t' f'] w (Num z w) := by
  obtain ⟨T, hT⟩ : ∃ T : Nat, max t 0 = (T : Int) := ⟨(max t 0).toNat, by omega⟩
  obtain ⟨F, hF⟩ : ∃ T : Nat, max f 0 = (T : Int) := ⟨(max f 0).toNat, by omega⟩
  obtain ⟨T', hT'⟩ : ∃ T : Nat, max (-t) 0 = (T : Int) := ⟨(max (-t) 0).toNat, by omega⟩
  obtain ⟨F', hF'⟩ : ∃ T : Nat, max (-f) 0 = (T : Int) := ⟨(max (-f) 0).toNat, by omega⟩
  obtain ⟨T2, hT2⟩ : ∃ T : Nat, max t' 0 = (T : Int) := ⟨(max t' 0).toNat, by omega⟩
  obtain ⟨F2, hF2⟩ : ∃ T : Nat, max f' 0 = (T : Int) := ⟨(max f' 0).toNat, by omega⟩
  obtain ⟨T2', hT2'⟩ : ∃ T : Nat, max (-t') 0 = (T : Int) := ⟨(max (-t') 0).toNat, by omega⟩
  obtain ⟨F2', hF2'⟩ : ∃ T : Nat, max (-f') 0 = (T : Int) := ⟨(max (-f') 0).toNat, by omega⟩
  have HZ : Hid (M.cmp (a * 5 ^ F * 2 ^ T * (5 ^ F2' * 2 ^ T2')) (b * 5 ^ F2 * 2 ^ T2 * (5 ^ F' * 2 ^ T')) = z) := by
    rw [Hid, M.cmp_ref (m := m) bt.1 bf.1 bt'.1 bf'.1 hT hF hT' hF' hT2 hF2 hT2' hF2']
    exact hz.out
  have B1 : T ≤ 20000 ∧ F ≤ 20000 ∧ T' ≤ 20000 ∧ F' ≤ 20000 := by omega
  have B2 : T2 ≤ 20000 ∧ F2 ≤ 20000 ∧ T2' ≤ 20000 ∧ F2' ≤ 20000 := by omega
  have PA := Lib.hid (fun w' (hu : Up w w') => parts_any w' lo s neg v t f a (h.up hu) hs T F T' F' hT hF hT' hF' B1.1 B1.2.1 B1.2.2.1 B1.2.2.2)
  have PB := Lib.hid (fun w' (hu : Up w w') => parts_any w' lo' s' neg' v' t' f' b (h'.up hu) hs' T2 F2 T2' F2' hT2 hF2 hT2' hF2' B2.1 B2.2.1 B2.2.2.1 B2.2.2.2)
  clear hT hF hT' hF' hT2 hF2 hT2' hF2' bt bf bt' bf' hz h h'
  go_enter Tryd.func89, Tryd.ntmps89
  go_wp2_with fail
  obtain ⟨W, hW⟩ : ∃ W, (w.alloc (.cells #[.bool neg, v, .int .i64 t, .int .i64 f] 44)).alloc (.cells #[.bool neg', v', .int .i64 t', .int .i64 f'] 44) = W := ⟨_, rfl⟩
  have U : Up w W := by rw [← hW]; exact ((Up.refl w).alloc _).alloc _
  have d0 : W.cell? ⟨w.heap.size + 1, 0, none⟩ = some (.bool neg') := by rw [← hW]; simp
  have d1 : W.cell? ⟨w.heap.size + 1, 1, none⟩ = some v' := by rw [← hW]; simp
  have d2 : W.cell? ⟨w.heap.size + 1, 2, none⟩ = some (.int .i64 t') := by rw [← hW]; simp
  have d3 : W.cell? ⟨w.heap.size + 1, 3, none⟩ = some (.int .i64 f') := by rw [← hW]; simp
  rw [hW]
  clear hW
  refine (PA.out _ U).mono ?_
  rintro _ w1 ⟨p, q, rfl, np, nq, u1⟩
  replace d0 := cell_up u1 d0
  replace d1 := cell_up u1 d1
  replace d2 := cell_up u1 d2
  replace d3 := cell_up u1 d3
  replace U := U.trans u1
  clear u1
  go_wp2_with fail
  refine (PB.out _ U).mono ?_
  rintro _ w2 ⟨r, s2, rfl, nr, ns, u2⟩
  replace np := np.up u2
  replace nq := nq.up u2
  replace U := U.trans u2
  clear u2 d0 d1 d2 d3
  go_wp2_with fail
  refine (times_of w2 _ _ _ _ _ _ _ _ np ns (by omega) (by omega)).mono ?_
  rintro _ w3 ⟨x, rfl, nx, u3⟩
  replace nr := nr.up u3
  replace nq := nq.up u3
  replace U := U.trans u3
  clear u3
  go_wp2_with fail
  refine (times_of w3 _ _ _ _ _ _ _ _ nr nq (by omega) (by omega)).mono ?_
  rintro _ w4 ⟨y, rfl, ny, u4⟩
  replace nx := nx.up u4
  replace U := U.trans u4
  clear u4
  go_wp2_with fail
  refine (rcmp_of w4 _ _ _ _ _ _ _ _ nx ny z HZ).mono ?_
  rintro _ _ ⟨rfl, rfl⟩
  go_wp2_with fail
  go_ret
  exact ⟨rfl, U⟩
end Go.Proofs.YteeepfhjbemgoaaDoor
