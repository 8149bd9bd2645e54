/-
  The reference of layer 3.
-/
import Derived.Test.YteeepfhjbemgoaaDoorRef5
import Derived.Test.YteeepfhjbemgoaaDoorTm
namespace Go.Proofs.YteeepfhjbemgoaaDoor
open Go.RowKit Go.Shelf

namespace M
theorem cmp_ten {a : Nat} {e k m : Int} (h1 : m ≤ e) (h2 : m ≤ k) (h3 : m ≤ 0) : cmp (ov a e 0 m) (ov 1 k k m) = cmp (a * 2 ^ e.toNat * 10 ^ (-k).toNat) (10 ^ k.toNat * 2 ^ (-e).toNat) := by
  have hc : 0 < 2 ^ (-m).toNat := Nat.pow_pos (by omega)
  have hd : 0 < 10 ^ (-m - (-k).toNat).toNat * 2 ^ (-m - (-e).toNat).toNat := Nat.mul_pos (Nat.pow_pos (by omega)) (Nat.pow_pos (by omega))
  rw [← cmp_times (ov a e 0 m) _ _ hc, ← cmp_times (a * 2 ^ e.toNat * 10 ^ (-k).toNat) _ _ hd]
  have l : ov a e 0 m * 2 ^ (-m).toNat = a * 2 ^ e.toNat * 10 ^ (-k).toNat * (10 ^ (-m - (-k).toNat).toNat * 2 ^ (-m - (-e).toNat).toNat) := by
    unfold ov
    rw [show (0 - m).toNat = (-m).toNat by omega]
    have p2 : (2 : Nat) ^ e.toNat * 2 ^ (-m - (-e).toNat).toNat = 2 ^ (e - m).toNat := by rw [← Nat.pow_add, show e.toNat + (-m - (-e).toNat).toNat = (e - m).toNat by omega]
    have p10 : (10 : Nat) ^ (-k).toNat * 10 ^ (-m - (-k).toNat).toNat = 5 ^ (-m).toNat * 2 ^ (-m).toNat := by rw [← Nat.pow_add, show (-k).toNat + (-m - (-k).toNat).toNat = (-m).toNat by omega, ten_split]
    calc a * 5 ^ (-m).toNat * 2 ^ (e - m).toNat * 2 ^ (-m).toNat = a * 2 ^ (e - m).toNat * (5 ^ (-m).toNat * 2 ^ (-m).toNat) := by ac_rfl
      _ = a * (2 ^ e.toNat * 2 ^ (-m - (-e).toNat).toNat) * (10 ^ (-k).toNat * 10 ^ (-m - (-k).toNat).toNat) := by rw [p2, p10]
      _ = _ := by ac_rfl
  have r : ov 1 k k m * 2 ^ (-m).toNat = 10 ^ k.toNat * 2 ^ (-e).toNat * (10 ^ (-m - (-k).toNat).toNat * 2 ^ (-m - (-e).toNat).toNat) := by
    unfold ov
    have p2 : (2 : Nat) ^ (-e).toNat * 2 ^ (-m - (-e).toNat).toNat = 2 ^ (-m).toNat := by rw [← Nat.pow_add, show (-e).toNat + (-m - (-e).toNat).toNat = (-m).toNat by omega]
    have p10 : (10 : Nat) ^ k.toNat * 10 ^ (-m - (-k).toNat).toNat = 5 ^ (k - m).toNat * 2 ^ (k - m).toNat := by rw [← Nat.pow_add, show k.toNat + (-m - (-k).toNat).toNat = (k - m).toNat by omega, ten_split]
    calc 1 * 5 ^ (k - m).toNat * 2 ^ (k - m).toNat * 2 ^ (-m).toNat = (5 ^ (k - m).toNat * 2 ^ (k - m).toNat) * 2 ^ (-m).toNat := by rw [Nat.one_mul]
      _ = (10 ^ k.toNat * 10 ^ (-m - (-k).toNat).toNat) * (2 ^ (-e).toNat * 2 ^ (-m - (-e).toNat).toNat) := by rw [p2, p10]
      _ = _ := by ac_rfl
  rw [l, r]
end M

theorem lit_n (n : Nat) (w' w : World) (x : Nat) (X : Int) (hX : X = (x : Int)) (hx : x < 18446744073709551616) (h0 : x ≠ 0) (h : w'.heap.size = w.heap.size + n) : Nt (w'.alloc (.cells #[.int .u64 X] 41)) (w.heap.size + n) 1 (.slice (some ⟨w.heap.size + n, 0, none⟩) 1 1) x := by
  have := lit1n w' x X hX hx h0
  rwa [h] at this
theorem bx_m (n : Nat) (w' w : World) (neg : Bool) (v : Value) (t f : Int) (h : w'.heap.size = w.heap.size + n) : Bx (w'.alloc (.cells #[.bool neg, v, .int .i64 t, .int .i64 f] 44)) (w.heap.size + n) neg v t f := by
  have := Bx.mk_ w' neg v t f
  rwa [h] at this
set_option maxHeartbeats 1000000 in
theorem rcut_any (w : World) (n z : Int) (hz : Hid (max (-5000) (min n 5000) = z)) : Calls Tryd.prog 87 #[.int .i64 n] w (Same (.int .i64 z) w) := by
  go_enter Tryd.func87, Tryd.ntmps87
  go_wp2_with fail
  go_ret
  exact ⟨ret_int hz.out, rfl⟩
set_option maxHeartbeats 1000000 in
theorem rpow_any (w : World) (two five : Int) (T F : Nat) (hT : Hid (max two 0 = (T : Int))) (hF : Hid (max five 0 = (F : Int))) (bT : T ≤ 20000) (bF : F ≤ 20000) :
    Calls Tryd.prog 86 #[.int .i64 two, .int .i64 five] w (Res (F + T + 10) (5 ^ F * 2 ^ T) w) := by
  go_enter Tryd.func86, Tryd.ntmps86
  go_wp2_with fail
  refine (fives_any w five F hF bF).mono ?_
  rintro _ w1 ⟨v1, rfl, n1, u1⟩
  go_wp2_with fail
  refine (up_of w1 _ _ _ _ n1 (by omega) T _ hT.out (by omega)).mono ?_
  rintro _ w2 ⟨v2, rfl, n2, u2⟩
  have U := u1.trans u2
  clear n1 u1 u2
  go_wp2_with fail
  refine (words_of w2 _ _ _ _ n2 (by omega)).mono ?_
  rintro _ w3 ⟨v3, rfl, n3, u3⟩
  have sz := Up.size U
  go_wp2_with fail
  go_ret
  exact ⟨_, rfl, (n3.lower sz).more (by omega), U.trans u3⟩
set_option maxHeartbeats 1000000 in
theorem rpow10_any (w : World) (k : Int) (N : Nat) (hN : Hid (max 0 (min k 5000) = (N : Int))) : Calls Tryd.prog 42 #[.int .i64 k] w (Res (N + N + 10) (10 ^ N) w) := by
  obtain ⟨z, hz⟩ : ∃ z, max (-5000) (min k 5000) = z := ⟨_, rfl⟩
  have P : Hid (max z 0 = (N : Int)) := by have := hN.out; show _ = _; omega
  have bN : N ≤ 5000 := by have := hN.out; omega
  have E : Hid (5 ^ N * 2 ^ N = 10 ^ N) := (M.ten_split N).symm
  have HZ := Lib.hid hz
  clear hz
  go_enter Tryd.func42, Tryd.ntmps42
  go_wp2_with fail
  refine (rcut_any w k z HZ).mono ?_
  rintro _ _ ⟨rfl, rfl⟩
  go_wp2_with fail
  refine (rcut_any w k z HZ).mono ?_
  rintro _ _ ⟨rfl, rfl⟩
  go_wp2_with fail
  refine (rpow_any w z z N N P P (by omega) (by omega)).mono ?_
  rintro _ w1 ⟨v1, rfl, n1, u1⟩
  rw [E.out] at n1
  go_wp2_with fail
  go_ret
  exact ⟨_, rfl, n1, u1⟩
set_option maxHeartbeats 1000000 in
theorem rpow5_any (w : World) (k : Int) (N : Nat) (hN : Hid (max 0 (min k 5000) = (N : Int))) : Calls Tryd.prog 44 #[.int .i64 k] w (Res (N + 10) (5 ^ N) w) := by
  obtain ⟨z, hz⟩ : ∃ z, max (-5000) (min k 5000) = z := ⟨_, rfl⟩
  have P : Hid (max z 0 = (N : Int)) := by have := hN.out; show _ = _; omega
  have bN : N ≤ 5000 := by have := hN.out; omega
  have E : Hid (5 ^ N * 2 ^ 0 = 5 ^ N) := Nat.mul_one _
  have HZ := Lib.hid hz
  clear hz
  go_enter Tryd.func44, Tryd.ntmps44
  go_wp2_with fail
  refine (rcut_any w k z HZ).mono ?_
  rintro _ _ ⟨rfl, rfl⟩
  go_wp2_with fail
  refine (rpow_any w 0 z 0 N (by show _ = _; omega) P (by omega) (by omega)).mono ?_
  rintro _ w1 ⟨v1, rfl, n1, u1⟩
  rw [E.out] at n1
  go_wp2_with fail
  go_ret
  exact ⟨_, rfl, n1, u1⟩
set_option maxHeartbeats 4000000 in
set_option maxRecDepth 100000 in
theorem least_any (w : World) (e k : Int) (e1 : -5900 ≤ e) (e2 : e ≤ 5900) (k1 : -5900 ≤ k) (k2 : k ≤ 5900) (t : Bool) (ht : Hid (decide (10 ^ k.toNat * 2 ^ (-e).toNat ≤ 2 ^ e.toNat * 10 ^ (-k).toNat) = t)) : Calls Tryd.prog 88 #[.int .i64 e, .int .i64 k] w (Boo t w) := by
  obtain ⟨z, hz⟩ : ∃ z, M.cmp (M.ov 1 e 0 (-6000)) (M.ov 1 k k (-6000)) = z := ⟨_, rfl⟩
  have d : decide (0 ≤ z) = t := by
    rw [← ht.out, ← hz, M.cmp_ten (by omega) (by omega) (by omega), Nat.one_mul]
    have h1 := M.cmp_swap (10 ^ k.toNat * 2 ^ (-e).toNat) (2 ^ e.toNat * 10 ^ (-k).toNat)
    have h2 := M.cmp_le (a := 10 ^ k.toNat * 2 ^ (-e).toNat) (b := 2 ^ e.toNat * 10 ^ (-k).toNat)
    rw [Bool.eq_iff_iff, decide_eq_true_iff, decide_eq_true_iff, ← h2]
    omega
  have HZ := Lib.hid hz
  clear hz ht
  have U := Up.refl w
  go_enter Tryd.func88, Tryd.ntmps88
  go_wp2_with fail
  obtain ⟨V1, hV1⟩ : ∃ V1, ((((w).alloc (.cells #[.int .u64 1] 41)).alloc (.cells #[.bool false, .slice (some ⟨w.heap.size, 0, none⟩) 1 1, .int .i64 (e), .int .i64 (0)] 44)).alloc (.cells #[.int .u64 1] 41)).alloc (.cells #[.bool false, .slice (some ⟨w.heap.size + 1 + 1, 0, none⟩) 1 1, .int .i64 (k), .int .i64 (k)] 44) = V1 := ⟨_, rfl⟩
  have uV1 : Up w V1 := by rw [← hV1]; first | exact (Up.refl _).alloc _ | exact ((Up.refl _).alloc _).alloc _ | exact (((Up.refl _).alloc _).alloc _).alloc _ | exact ((((Up.refl _).alloc _).alloc _).alloc _).alloc _ | ((repeat (refine Up.alloc ?_ _)); exact Up.refl _)
  have na : Nt V1 (w.heap.size) 1 (.slice (some ⟨w.heap.size, 0, none⟩) 1 1) 1 := by rw [← hV1]; exact (((lit_n 0 _ w 1 1 rfl (by omega) (by omega) (by simp)).up ((Up.refl _).alloc _)).up ((Up.refl _).alloc _)).up ((Up.refl _).alloc _)
  have a : Bx V1 (w.heap.size + 1) false (.slice (some ⟨w.heap.size, 0, none⟩) 1 1) (e) (0) := by rw [← hV1]; exact ((bx_m 1 _ w false _ _ _ (by simp)).up ((Up.refl _).alloc _)).up ((Up.refl _).alloc _)
  have nb : Nt V1 (w.heap.size + 1 + 1) 1 (.slice (some ⟨w.heap.size + 1 + 1, 0, none⟩) 1 1) 1 := by rw [← hV1]; exact (lit_n 2 _ w 1 1 rfl (by omega) (by omega) (by simp)).up ((Up.refl _).alloc _)
  have b : Bx V1 (w.heap.size + 1 + 1 + 1) false (.slice (some ⟨w.heap.size + 1 + 1, 0, none⟩) 1 1) (k) (k) := by rw [← hV1]; exact bx_m 3 _ w false _ _ _ (by simp)
  rw [hV1]
  clear hV1
  replace U := U.trans uV1
  clear uV1
  refine (rxcmp_any (-6000) _ _ _ 1 1 _ _ _ _ _ _ _ _ _ _ na.nw nb.nw (by omega) (by omega) ⟨by omega, by omega, by omega⟩ ⟨by omega, by omega, by omega⟩ ⟨by omega, by omega, by omega⟩ ⟨by omega, by omega, by omega⟩ z HZ).mono ?_
  rintro _ w2 ⟨rfl, h2⟩
  replace na := na.up h2
  replace a := a.up h2
  replace nb := nb.up h2
  replace b := b.up h2
  replace U := U.trans h2
  clear h2
  go_wp2_with fail
  go_ret
  exact ⟨by first | rfl | rw [d], U⟩
set_option maxHeartbeats 4000000 in
set_option maxRecDepth 100000 in
theorem rlog10_any (w : World) (e : Int) (e1 : -1500 ≤ e) (e2 : e ≤ 1500) (k : Int) (hk : Hid (M.lg10 e = k)) : Calls Tryd.prog 45 #[.int .i64 e, .int .i64 k] w (Boo true w) := by
  have r := M.lg_rng (e := e) (by omega) (by omega)
  have h1 : Hid (decide (10 ^ k.toNat * 2 ^ (-e).toNat ≤ 2 ^ e.toNat * 10 ^ (-k).toNat) = true) := by
    rw [← hk.out]
    exact decide_eq_true (Nat.not_lt.1 (M.lg10_ge (by omega) (by omega)))
  have h2 : Hid (decide (10 ^ (k + 1).toNat * 2 ^ (-e).toNat ≤ 2 ^ e.toNat * 10 ^ (-(k + 1)).toNat) = false) := by
    rw [← hk.out]
    exact decide_eq_false (Nat.not_le.2 (M.lg10_lt (by omega) (by omega)))
  rw [hk.out] at r
  have U := Up.refl w
  go_enter Tryd.func45, Tryd.ntmps45
  go_wp2_with fail
  refine (rcut_any _ e e (by show _ = _; omega)).mono ?_
  rintro _ _ ⟨rfl, rfl⟩
  go_wp2_with fail
  refine (least_any _ e k (by omega) (by omega) (by omega) (by omega) true h1).mono ?_
  rintro _ w2 ⟨rfl, h2⟩
  replace U := U.trans h2
  clear h2
  go_wp2_with fail
  refine (least_any _ e (k + 1) (by omega) (by omega) (by omega) (by omega) false h2).mono ?_
  rintro _ w3 ⟨rfl, h3⟩
  replace U := U.trans h3
  clear h3
  go_wp2_with fail
  go_ret
  exact ⟨rfl, U⟩
set_option maxHeartbeats 4000000 in
set_option maxRecDepth 100000 in
theorem rlog2_any (w : World) (k : Int) (k1 : -1500 ≤ k) (k2 : k ≤ 1500) (e : Int) (he : Hid (M.lg2 k = e)) : Calls Tryd.prog 46 #[.int .i64 k, .int .i64 e] w (Boo true w) := by
  have r := M.lg_rng (e := k) (by omega) (by omega)
  rw [he.out] at r
  obtain ⟨z, hz⟩ : ∃ z, M.cmp (M.ov 1 e 0 (-6000)) (M.ov 1 k k (-6000)) = z := ⟨_, rfl⟩
  have dz : decide (z ≤ 0) = true := by
    have h := M.lg2_le (k := k) (by omega) (by omega)
    rw [he.out] at h
    rw [← hz, M.cmp_ten (by omega) (by omega) (by omega), Nat.one_mul]
    exact decide_eq_true (M.cmp_le.2 h)
  obtain ⟨y, hy⟩ : ∃ z, M.cmp (M.ov 1 k k (-6000)) (M.ov 1 (e + 1) 0 (-6000)) = z := ⟨_, rfl⟩
  have dy : decide (y < 0) = true := by
    have h := M.lg2_gt (k := k) (by omega) (by omega)
    rw [he.out] at h
    unfold M.le2 at h
    rw [Nat.not_le] at h
    rw [← hy, M.cmp_swap, M.cmp_ten (by omega) (by omega) (by omega), Nat.one_mul, M.cmp_gt h]
    rfl
  have HZ := Lib.hid hz
  have HY := Lib.hid hy
  clear hz hy he
  have U := Up.refl w
  go_enter Tryd.func46, Tryd.ntmps46
  go_wp2_with fail
  refine (rcut_any _ k k (by show _ = _; omega)).mono ?_
  rintro _ _ ⟨rfl, rfl⟩
  go_wp2_with fail
  obtain ⟨V2, hV2⟩ : ∃ V2, ((((((w).alloc (.cells #[.int .u64 1] 41)).alloc (.cells #[.bool false, .slice (some ⟨w.heap.size, 0, none⟩) 1 1, .int .i64 (e), .int .i64 (0)] 44)).alloc (.cells #[.int .u64 1] 41)).alloc (.cells #[.bool false, .slice (some ⟨w.heap.size + 1 + 1, 0, none⟩) 1 1, .int .i64 (e + 1), .int .i64 (0)] 44)).alloc (.cells #[.int .u64 1] 41)).alloc (.cells #[.bool false, .slice (some ⟨w.heap.size + 1 + 1 + 1 + 1, 0, none⟩) 1 1, .int .i64 (k), .int .i64 (k)] 44) = V2 := ⟨_, rfl⟩
  have uV2 : Up w V2 := by rw [← hV2]; first | exact (Up.refl _).alloc _ | exact ((Up.refl _).alloc _).alloc _ | exact (((Up.refl _).alloc _).alloc _).alloc _ | exact ((((Up.refl _).alloc _).alloc _).alloc _).alloc _ | ((repeat (refine Up.alloc ?_ _)); exact Up.refl _)
  have na : Nt V2 (w.heap.size) 1 (.slice (some ⟨w.heap.size, 0, none⟩) 1 1) 1 := by rw [← hV2]; exact (((((lit_n 0 _ w 1 1 rfl (by omega) (by omega) (by simp)).up ((Up.refl _).alloc _)).up ((Up.refl _).alloc _)).up ((Up.refl _).alloc _)).up ((Up.refl _).alloc _)).up ((Up.refl _).alloc _)
  have a : Bx V2 (w.heap.size + 1) false (.slice (some ⟨w.heap.size, 0, none⟩) 1 1) (e) (0) := by rw [← hV2]; exact ((((bx_m 1 _ w false _ _ _ (by simp)).up ((Up.refl _).alloc _)).up ((Up.refl _).alloc _)).up ((Up.refl _).alloc _)).up ((Up.refl _).alloc _)
  have nb : Nt V2 (w.heap.size + 1 + 1) 1 (.slice (some ⟨w.heap.size + 1 + 1, 0, none⟩) 1 1) 1 := by rw [← hV2]; exact (((lit_n 2 _ w 1 1 rfl (by omega) (by omega) (by simp)).up ((Up.refl _).alloc _)).up ((Up.refl _).alloc _)).up ((Up.refl _).alloc _)
  have b : Bx V2 (w.heap.size + 1 + 1 + 1) false (.slice (some ⟨w.heap.size + 1 + 1, 0, none⟩) 1 1) (e + 1) (0) := by rw [← hV2]; exact ((bx_m 3 _ w false _ _ _ (by simp)).up ((Up.refl _).alloc _)).up ((Up.refl _).alloc _)
  have nc : Nt V2 (w.heap.size + 1 + 1 + 1 + 1) 1 (.slice (some ⟨w.heap.size + 1 + 1 + 1 + 1, 0, none⟩) 1 1) 1 := by rw [← hV2]; exact (lit_n 4 _ w 1 1 rfl (by omega) (by omega) (by simp)).up ((Up.refl _).alloc _)
  have c : Bx V2 (w.heap.size + 1 + 1 + 1 + 1 + 1) false (.slice (some ⟨w.heap.size + 1 + 1 + 1 + 1, 0, none⟩) 1 1) (k) (k) := by rw [← hV2]; exact bx_m 5 _ w false _ _ _ (by simp)
  rw [hV2]
  clear hV2
  replace U := U.trans uV2
  clear uV2
  refine (rxcmp_any (-6000) _ _ _ 1 1 _ _ _ _ _ _ _ _ _ _ na.nw nc.nw (by omega) (by omega) ⟨by omega, by omega, by omega⟩ ⟨by omega, by omega, by omega⟩ ⟨by omega, by omega, by omega⟩ ⟨by omega, by omega, by omega⟩ z HZ).mono ?_
  rintro _ w3 ⟨rfl, h3⟩
  replace na := na.up h3
  replace a := a.up h3
  replace nb := nb.up h3
  replace b := b.up h3
  replace nc := nc.up h3
  replace c := c.up h3
  replace U := U.trans h3
  clear h3
  obtain ⟨⟨a0, a1, a2, a3⟩, af0, af1, af2, af3⟩ := id a
  have a5 := World.block_lt_of_cell? _ _ a0
  simp only at a5
  obtain ⟨⟨b0, b1, b2, b3⟩, bf0, bf1, bf2, bf3⟩ := id b
  have b5 := World.block_lt_of_cell? _ _ b0
  simp only at b5
  obtain ⟨⟨c0, c1, c2, c3⟩, cf0, cf1, cf2, cf3⟩ := id c
  have c5 := World.block_lt_of_cell? _ _ c0
  simp only at c5
  go_wp2_with fail
  clear a0 a1 a2 a3 af0 af1 af2 af3 a5
  clear b0 b1 b2 b3 bf0 bf1 bf2 bf3 b5
  clear c0 c1 c2 c3 cf0 cf1 cf2 cf3 c5
  refine (rxcmp_any (-6000) _ _ _ 1 1 _ _ _ _ _ _ _ _ _ _ nc.nw nb.nw (by omega) (by omega) ⟨by omega, by omega, by omega⟩ ⟨by omega, by omega, by omega⟩ ⟨by omega, by omega, by omega⟩ ⟨by omega, by omega, by omega⟩ y HY).mono ?_
  rintro _ w4 ⟨rfl, h4⟩
  replace na := na.up h4
  replace a := a.up h4
  replace nb := nb.up h4
  replace b := b.up h4
  replace nc := nc.up h4
  replace c := c.up h4
  replace U := U.trans h4
  clear h4
  go_wp2_with fail
  go_ret
  exact ⟨rfl, U⟩
set_option maxHeartbeats 1000000 in
theorem radd_any (w : World) (lo lo' s s' S : Nat) (v v' : Value) (a b : Nat) (h : Nw w lo s v a) (h' : Nw w lo' s' v' b) (hs : s ≤ S) (hs' : s' ≤ S) (hS : S ≤ 1000000) :
    Calls Tryd.prog 90 #[v, v'] w (Res (2 * S + 2) (a + b) w) := by
  go_enter Tryd.func90, Tryd.ntmps90
  go_wp2_with fail
  refine (halves_of w _ _ _ _ h (by omega)).mono ?_
  rintro _ w1 ⟨v1, rfl, n1, u1⟩
  go_wp2_with fail
  refine (halves_of w1 _ _ _ _ (h'.up u1) (by omega)).mono ?_
  rintro _ w2 ⟨v2, rfl, n2, u2⟩
  have U := u1.trans u2
  replace n1 := n1.up u2
  clear u1 u2
  go_wp2_with fail
  refine (plus_of w2 _ _ _ _ (2 * S) _ _ _ _ n1 n2 (by omega) (by omega) (by omega)).mono ?_
  rintro _ w3 ⟨v3, rfl, n3, u3⟩
  replace U := U.trans u3
  clear n1 n2 u3
  go_wp2_with fail
  refine (words_of w3 _ _ _ _ n3 (by omega)).mono ?_
  rintro _ w4 ⟨v4, rfl, n4, u4⟩
  have sz := Up.size U
  go_wp2_with fail
  go_ret
  exact ⟨_, rfl, (n4.lower sz).more (by omega), U.trans u4⟩
set_option maxHeartbeats 4000000 in
set_option maxRecDepth 100000 in
theorem rsig_out (w : World) (k : Int) (h : k < -400 ∨ 400 < k) : Calls Tryd.prog 48 #[.int .i64 k, .int .u64 0, .int .u64 0, .int .i64 0] w (Boo true w) := by
  by_cases h1 : k < -400
  · have d1 : decide (k < -400) = true := decide_eq_true h1
    clear h
    go_enter Tryd.func48, Tryd.ntmps48
    go_wp2_with fail
    go_ret
    exact ⟨rfl, Up.refl _⟩
  · have d1 : decide (k < -400) = false := decide_eq_false h1
    have h2 : 400 < k := by omega
    have d2 : decide (400 < k) = true := decide_eq_true h2
    clear h
    go_enter Tryd.func48, Tryd.ntmps48
    go_wp2_with fail
    go_ret
    exact ⟨rfl, Up.refl _⟩
set_option maxHeartbeats 4000000 in
set_option maxRecDepth 100000 in
theorem rsig_any (w : World) (k e : Int) (h1 : -400 ≤ k) (h2 : k ≤ 400) (hi lo : Nat) (q1 : Hid (M.lg2 k = e + 127)) (q2 : -1456 ≤ e) (q3 : e ≤ 1202) (q6 : 9223372036854775808 ≤ hi) (q7 : hi < 18446744073709551616) (q8 : lo < 18446744073709551616) (q9 : Hid (lo + 18446744073709551616 * hi = M.sig k)) : Calls Tryd.prog 48 #[.int .i64 k, u64 hi, u64 lo, .int .i64 e] w (Boo true w) := by
  have hsd : M.sd k = 2 ^ e.toNat * 10 ^ (-k).toNat := by
    unfold M.sd
    rw [q1.out, show e + 127 - 127 = e by omega, Nat.mul_comm]
  have hsn : M.sn k = 10 ^ k.toNat * 2 ^ (-e).toNat := by
    unfold M.sn
    rw [q1.out, show 127 - (e + 127) = -e by omega]
  obtain ⟨z, hz⟩ : ∃ z, M.cmp (M.ov (M.sig k) e 0 (-6000)) (M.ov 1 k k (-6000)) = z := ⟨_, rfl⟩
  have dz : decide (z ≤ 0) = true := by
    have := M.sig_le k
    rw [hsd, hsn] at this
    rw [← hz, M.cmp_ten (by omega) (by omega) (by omega), Nat.mul_assoc]
    exact decide_eq_true (M.cmp_le.2 this)
  obtain ⟨y, hy⟩ : ∃ z, M.cmp (M.ov 1 k k (-6000)) (M.ov (M.sig k + 1) e 0 (-6000)) = z := ⟨_, rfl⟩
  have dy : decide (y < 0) = true := by
    have := M.sig_lt k
    rw [hsd, hsn] at this
    rw [← hy, M.cmp_swap, M.cmp_ten (by omega) (by omega) (by omega), Nat.mul_assoc, M.cmp_gt this]
    rfl
  have HZ := Lib.hid hz
  have HY := Lib.hid hy
  clear hz hy hsd hsn
  have d1 : decide (k < -400) = false := decide_eq_false (by omega)
  have d2 : decide (400 < k) = false := decide_eq_false (by omega)
  have d3 : decide ((hi : Int) < 9223372036854775808) = false := decide_eq_false (by omega)
  have d4 : decide (e < -5000) = false := decide_eq_false (by omega)
  have d5 : decide (5000 < e) = false := decide_eq_false (by omega)
  have U := Up.refl w
  go_enter Tryd.func48, Tryd.ntmps48
  go_wp2_with fail
  obtain ⟨V1, hV1⟩ : ∃ V1, (w.alloc (.cells #[.int .u64 (lo : Int), .int .u64 (hi : Int)] 41)).alloc (.cells #[.int .u64 1] 41) = V1 := ⟨_, rfl⟩
  have uV1 : Up w V1 := by rw [← hV1]; first | exact (Up.refl _).alloc _ | exact ((Up.refl _).alloc _).alloc _ | exact (((Up.refl _).alloc _).alloc _).alloc _ | exact ((((Up.refl _).alloc _).alloc _).alloc _).alloc _ | ((repeat (refine Up.alloc ?_ _)); exact Up.refl _)
  have ns : Nw V1 w.heap.size 2 (.slice (some ⟨w.heap.size, 0, none⟩) 2 2) (M.sig k) := by rw [← hV1]; exact (lit2 w lo hi (M.sig k) _ _ rfl rfl (by omega) (by omega) q9.out).up ((Up.refl _).alloc _)
  have n1 : Nt V1 (w.heap.size + 1) 1 (.slice (some ⟨w.heap.size + 1, 0, none⟩) 1 1) 1 := by rw [← hV1]; exact lit1_at _ w 1 1 rfl (by omega) (by omega)
  rw [hV1]
  clear hV1
  replace U := U.trans uV1
  clear uV1
  refine (radd_any _ _ _ _ _ 2 _ _ _ _ ns n1.nw (by omega) (by omega) (by omega)).mono ?_
  rintro _ w2 ⟨vx, rfl, nx, h2⟩
  replace ns := ns.up h2
  replace n1 := n1.up h2
  replace U := U.trans h2
  clear h2
  clear n1
  obtain ⟨Anx, snx, cnx, wnx, rfl, nx⟩ := nx
  replace nx : Nt w2 _ _ (.slice Anx snx cnx) (M.sig k + 1) := ⟨Anx, snx, cnx, wnx, rfl, nx⟩
  go_wp2_with fail
  obtain ⟨V3, hV3⟩ : ∃ V3, (w2.alloc (.cells #[.int .u64 1] 41)).alloc (.cells #[.bool false, .slice (some ⟨w2.heap.size, 0, none⟩) 1 1, .int .i64 (k), .int .i64 (k)] 44) = V3 := ⟨_, rfl⟩
  have uV3 : Up w2 V3 := by rw [← hV3]; first | exact (Up.refl _).alloc _ | exact ((Up.refl _).alloc _).alloc _ | exact (((Up.refl _).alloc _).alloc _).alloc _ | exact ((((Up.refl _).alloc _).alloc _).alloc _).alloc _ | ((repeat (refine Up.alloc ?_ _)); exact Up.refl _)
  have nc : Nt V3 w2.heap.size 1 (.slice (some ⟨w2.heap.size, 0, none⟩) 1 1) 1 := by rw [← hV3]; exact (lit1n w2 1 1 rfl (by omega) (by omega)).up ((Up.refl _).alloc _)
  have c : Bx V3 (w2.heap.size + 1) false (.slice (some ⟨w2.heap.size, 0, none⟩) 1 1) (k) (k) := by rw [← hV3]; exact bx_at (.cells #[.int .u64 1] 41) w2 _ _ _ _
  rw [hV3]
  clear hV3
  replace ns := ns.up uV3
  replace nx := nx.up uV3
  replace U := U.trans uV3
  clear uV3
  obtain ⟨⟨c0, c1, c2, c3⟩, cf0, cf1, cf2, cf3⟩ := id c
  have c5 := World.block_lt_of_cell? _ _ c0
  simp only at c5
  go_wp2_with fail
  clear c0 c1 c2 c3 cf0 cf1 cf2 cf3 c5
  refine (rxcmp_any (-6000) _ _ _ 2 1 _ _ _ _ _ _ _ _ _ _ ns nc.nw (by omega) (by omega) ⟨by omega, by omega, by omega⟩ ⟨by omega, by omega, by omega⟩ ⟨by omega, by omega, by omega⟩ ⟨by omega, by omega, by omega⟩ z HZ).mono ?_
  rintro _ w4 ⟨rfl, h4⟩
  replace ns := ns.up h4
  replace nx := nx.up h4
  replace nc := nc.up h4
  replace c := c.up h4
  replace U := U.trans h4
  clear h4
  obtain ⟨⟨c0, c1, c2, c3⟩, cf0, cf1, cf2, cf3⟩ := id c
  have c5 := World.block_lt_of_cell? _ _ c0
  simp only at c5
  go_wp2_with fail
  clear c0 c1 c2 c3 cf0 cf1 cf2 cf3 c5
  refine (rxcmp_any (-6000) _ _ _ 1 6 _ _ _ _ _ _ _ _ _ _ nc.nw nx.nw (by omega) (by omega) ⟨by omega, by omega, by omega⟩ ⟨by omega, by omega, by omega⟩ ⟨by omega, by omega, by omega⟩ ⟨by omega, by omega, by omega⟩ y HY).mono ?_
  rintro _ w5 ⟨rfl, h5⟩
  replace ns := ns.up h5
  replace nx := nx.up h5
  replace nc := nc.up h5
  replace c := c.up h5
  replace U := U.trans h5
  clear h5
  go_wp2_with fail
  go_ret
  exact ⟨rfl, U⟩
end Go.Proofs.YteeepfhjbemgoaaDoor
