/-
  Package ten: powers, logarithms, significands.
-/
import Derived.Test.YteeepfhjbemgoaaDoorUse
import Derived.Test.YteeepfhjbemgoaaDoorTm
namespace Go.Proofs.YteeepfhjbemgoaaDoor
open Go.RowKit Go.Shelf

set_option maxHeartbeats 1000000 in
theorem scaled2_any (w : World) (n : Int) (z : Int) (hz : Hid (M.lg2 (max (-5000) (min n 5000)) = z)) : Calls Tryd.prog 84 #[.int .i64 n, .int .i64 14267572527] w (Same (.int .i64 z) w) := by
  obtain ⟨m, hm, m1, m2⟩ : ∃ m, max (-5000) (min n 5000) = m ∧ -5000 ≤ m ∧ m ≤ 5000 := ⟨_, rfl, by omega, by omega⟩
  have HZ : Hid (m * 14267572527 / 4294967296 = z) := by rw [← hm]; exact hz.out
  have e1 : IntKind.i64.wrap (m * 14267572527) = m * 14267572527 := by simp [IntKind.wrap, IntKind.bits, IntKind.signed]; omega
  clear hz
  go_enter Tryd.func84, Tryd.ntmps84
  go_wp2_with fail
  go_ret
  exact ⟨ret_int HZ.out, rfl⟩
set_option maxHeartbeats 1000000 in
theorem scaled10_any (w : World) (n : Int) (z : Int) (hz : Hid (M.lg10 (max (-5000) (min n 5000)) = z)) : Calls Tryd.prog 84 #[.int .i64 n, .int .i64 1292913986] w (Same (.int .i64 z) w) := by
  obtain ⟨m, hm, m1, m2⟩ : ∃ m, max (-5000) (min n 5000) = m ∧ -5000 ≤ m ∧ m ≤ 5000 := ⟨_, rfl, by omega, by omega⟩
  have HZ : Hid (m * 1292913986 / 4294967296 = z) := by rw [← hm]; exact hz.out
  have e1 : IntKind.i64.wrap (m * 1292913986) = m * 1292913986 := by simp [IntKind.wrap, IntKind.bits, IntKind.signed]; omega
  clear hz
  go_enter Tryd.func84, Tryd.ntmps84
  go_wp2_with fail
  go_ret
  exact ⟨ret_int HZ.out, rfl⟩
set_option maxHeartbeats 1000000 in
theorem lg2_call (w : World) (n : Int) (z : Int) (hz : Hid (M.lg2 (max (-5000) (min n 5000)) = z)) : Calls Tryd.prog 40 #[.int .i64 n] w (Same (.int .i64 z) w) := by
  go_enter Tryd.func40, Tryd.ntmps40
  go_wp2_with fail
  refine (scaled2_any w n z hz).mono ?_
  rintro _ _ ⟨rfl, rfl⟩
  go_wp2_with fail
  go_ret
  exact ⟨rfl, rfl⟩
set_option maxHeartbeats 1000000 in
theorem lg10_call (w : World) (n : Int) (z : Int) (hz : Hid (M.lg10 (max (-5000) (min n 5000)) = z)) : Calls Tryd.prog 39 #[.int .i64 n] w (Same (.int .i64 z) w) := by
  go_enter Tryd.func39, Tryd.ntmps39
  go_wp2_with fail
  refine (scaled10_any w n z hz).mono ?_
  rintro _ _ ⟨rfl, rfl⟩
  go_wp2_with fail
  go_ret
  exact ⟨rfl, rfl⟩
set_option maxHeartbeats 1000000 in
theorem power_any (w : World) (x : Nat) (hx : x < 18446744073709551616) (k : Int) (N : Nat) (hN : Hid (max 0 (min k 5000) = (N : Int))) (X : Int) (hX : X = (x : Int)) : Calls Tryd.prog 85 #[.int .u64 X, .int .i64 k] w (Res (N + 1) (x ^ N) w) := by
  subst hX
  have HC := Lib.hid (pow_any w x N (min k 5000) hx (by have := hN.out; omega))
  clear hN
  go_enter Tryd.func85, Tryd.ntmps85
  go_wp2_with fail
  refine HC.out.mono ?_
  rintro _ w1 ⟨v, rfl, h, hu⟩
  go_wp2_with fail
  go_ret
  exact ⟨v, rfl, h, hu⟩
set_option maxHeartbeats 1000000 in
theorem pow10_call (w : World) (k : Int) (N : Nat) (hN : Hid (max 0 (min k 5000) = (N : Int))) : Calls Tryd.prog 41 #[.int .i64 k] w (Res (N + 1) (10 ^ N) w) := by
  go_enter Tryd.func41, Tryd.ntmps41
  go_wp2_with fail
  refine (power_any w 10 (by omega) k N hN _ rfl).mono ?_
  rintro _ w1 ⟨v, rfl, h, hu⟩
  go_wp2_with fail
  go_ret
  exact ⟨v, rfl, h, hu⟩
set_option maxHeartbeats 1000000 in
theorem pow5_call (w : World) (k : Int) (N : Nat) (hN : Hid (max 0 (min k 5000) = (N : Int))) : Calls Tryd.prog 43 #[.int .i64 k] w (Res (N + 1) (5 ^ N) w) := by
  go_enter Tryd.func43, Tryd.ntmps43
  go_wp2_with fail
  refine (power_any w 5 (by omega) k N hN _ rfl).mono ?_
  rintro _ w1 ⟨v, rfl, h, hu⟩
  go_wp2_with fail
  go_ret
  exact ⟨v, rfl, h, hu⟩
/-- Word, where it is known what it tells. -/
theorem word_at (w : World) (lo s : Nat) (v : Value) (a x : Nat) (t : Bool) (h : Nw w lo s v a) (hx : Hid (a % 18446744073709551616 = x)) (ht : Hid (decide (a < 18446744073709551616) = t)) :
    Calls Tryd.prog 54 #[v] w (Same (.tuple #[u64 x, .bool t]) w) := by
  have := word_any w lo s v a h
  rwa [hx.out, ht.out] at this
/-- What Significand comes to. -/
def Sg (hi lo : Nat) (x : Int) (w : World) (e : Ending) (w' : World) : Prop := e = .returned (.tuple #[u64 hi, u64 lo, .int .i64 x]) ∧ Up w w'

set_option maxHeartbeats 4000000 in
set_option maxRecDepth 100000 in
theorem sig_any (w : World) (k e : Int) (h1 : -400 ≤ k) (h2 : k ≤ 400) (he : Hid (M.lg2 k = e + 127)) (hi lo : Nat) (hhi : Hid (M.sig k / 18446744073709551616 = hi)) (hlo : Hid (M.sig k % 18446744073709551616 = lo)) :
    Calls Tryd.prog 47 #[.int .i64 k] w (Sg hi lo e w) := by
  have rb := M.lg_rng400 h1 h2
  rw [he.out] at rb
  have HE : Hid (M.lg2 (max (-5000) (min k 5000)) = e + 127) := by rw [show max (-5000) (min k 5000) = k by omega]; exact he
  have hS : 10 ^ k.toNat * 2 ^ (-e).toNat / (10 ^ (-k).toNat * 2 ^ e.toNat) = M.sig k := by
    unfold M.sig M.sn M.sd
    rw [he.out, show 127 - (e + 127) = -e by omega, show e + 127 - 127 = e by omega]
  have hlt := (M.sig_rng (k := k) (by omega) (by omega)).2
  have hb : 0 < 10 ^ (-k).toNat * 2 ^ e.toNat := Nat.mul_pos (Nat.pow_pos (by omega)) (Nat.pow_pos (by omega))
  obtain ⟨S, hSS⟩ : ∃ S, M.sig k = S := ⟨_, rfl⟩
  rw [hSS] at hS hlt
  have HS := Lib.hid hS
  have HHI : Hid (S / 2 ^ 64 % 18446744073709551616 = hi) := by
    show _ = _
    rw [← hhi.out, hSS, show (2 : Nat) ^ 64 = 18446744073709551616 from rfl, Nat.mod_eq_of_lt]
    rw [Nat.div_lt_iff_lt_mul (by omega)]
    exact Nat.lt_of_lt_of_le hlt (by decide)
  have HLO : Hid (S % 18446744073709551616 = lo) := by rw [← hSS]; exact hlo
  obtain ⟨N1, hN1⟩ : ∃ N, k.toNat = N := ⟨_, rfl⟩
  obtain ⟨N2, hN2⟩ : ∃ N, (-e).toNat = N := ⟨_, rfl⟩
  obtain ⟨N3, hN3⟩ : ∃ N, (-k).toNat = N := ⟨_, rfl⟩
  obtain ⟨N4, hN4⟩ : ∃ N, e.toNat = N := ⟨_, rfl⟩
  rw [hN1, hN2, hN3, hN4] at HS
  rw [hN3, hN4] at hb
  have P1 : Hid (max 0 (min k 5000) = (N1 : Int)) := by show _ = _; omega
  have P2 : Hid (max 0 (min (-e) 131072) = (N2 : Int)) := by show _ = _; omega
  have P3 : Hid (max 0 (min (-k) 5000) = (N3 : Int)) := by show _ = _; omega
  have P4 : Hid (max 0 (min e 131072) = (N4 : Int)) := by show _ = _; omega
  have B : N1 ≤ 400 ∧ N2 ≤ 2000 ∧ N3 ≤ 400 ∧ N4 ≤ 2000 := by omega
  clear hN1 hN2 hN3 hN4 hS hSS hhi hlo he hlt
  have d1 : decide (k < -400) = false := decide_eq_false (by omega)
  have d2 : decide (400 < k) = false := decide_eq_false (by omega)
  go_enter Tryd.func47, Tryd.ntmps47
  go_wp2_with fail
  refine (lg2_call w k (e + 127) HE).mono ?_
  rintro _ _ ⟨rfl, rfl⟩
  go_wp2_with fail
  refine (pow10_call w k N1 P1).mono ?_
  rintro _ w1 ⟨v1, rfl, n1, u1⟩
  go_wp2_with fail
  refine (shl_any w1 _ _ _ _ n1.nw (by omega) (-e) N2 P2.out).mono ?_
  rintro _ w2 ⟨v2, rfl, n2, u2⟩
  have U := u1.trans u2
  clear n1 u1 u2
  go_wp2_with fail
  refine (pow10_call w2 (-k) N3 P3).mono ?_
  rintro _ w3 ⟨v3, rfl, n3, u3⟩
  replace n2 := n2.up u3
  replace U := U.trans u3
  clear u3
  go_wp2_with fail
  refine (shl_any w3 _ _ _ _ n3.nw (by omega) e N4 P4.out).mono ?_
  rintro _ w4 ⟨v4, rfl, n4, u4⟩
  replace n2 := n2.up u4
  replace U := U.trans u4
  clear n3 u4
  go_wp2_with fail
  refine (div_any w4 _ _ _ _ _ _ _ _ n2.nw n4.nw hb (by omega)).mono ?_
  rintro _ w5 ⟨v5, v6, rfl, n5, n6, u5⟩
  rw [HS.out] at n5
  replace U := U.trans u5
  clear n2 n4 n6 u5
  go_wp2_with fail
  refine (word_at w5 _ _ _ S lo _ n5.nw HLO rfl).mono ?_
  rintro _ _ ⟨rfl, rfl⟩
  go_wp2_with fail
  refine (shr_any w5 _ _ _ S n5.nw 64 64 (by omega)).mono ?_
  rintro _ w7 ⟨v7, rfl, n7, u7⟩
  replace U := U.trans u7
  clear u7
  go_wp2_with fail
  refine (word_at w7 _ _ _ _ hi _ n7.nw HHI rfl).mono ?_
  rintro _ _ ⟨rfl, rfl⟩
  go_wp2_with fail
  go_ret3
  exact ⟨rfl, U⟩
set_option maxHeartbeats 1000000 in
theorem sig_out (w : World) (k : Int) (h : k < -400 ∨ 400 < k) : Calls Tryd.prog 47 #[.int .i64 k] w (Sg 0 0 0 w) := by
  by_cases h1 : k < -400
  · have d1 : decide (k < -400) = true := decide_eq_true h1
    clear h
    go_enter Tryd.func47, Tryd.ntmps47
    go_wp2_with fail
    go_ret3
    exact ⟨rfl, Up.refl _⟩
  · have d1 : decide (k < -400) = false := decide_eq_false h1
    have h2 : 400 < k := by omega
    have d2 : decide (400 < k) = true := decide_eq_true h2
    clear h
    go_enter Tryd.func47, Tryd.ntmps47
    go_wp2_with fail
    go_ret3
    exact ⟨rfl, Up.refl _⟩
end Go.Proofs.YteeepfhjbemgoaaDoor
