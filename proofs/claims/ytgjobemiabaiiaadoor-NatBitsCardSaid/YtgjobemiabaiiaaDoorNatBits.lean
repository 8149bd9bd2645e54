/-
  The walk of NatBits: true, and nothing that was there has turned.
-/
import Derived.Test.YtgjobemiabaiiaaDoorRing
import Derived.Test.YtgjobemiabaiiaaDoorShl
namespace Go.Proofs.YtgjobemiabaiiaaDoor
open Go.RowKit Go.Shelf

namespace M
theorem bit_on {a k : Nat} (h : a.testBit k = true) : a % 2 ^ (k + 1) = a % 2 ^ k + 1 * 2 ^ k := by
  rw [Nat.testBit_eq_decide_div_mod_eq, decide_eq_true_iff] at h
  rw [Nat.pow_succ, Nat.mod_mul, h, Nat.mul_one, Nat.one_mul]
theorem bit_off {a k : Nat} (h : a.testBit k = false) : a % 2 ^ (k + 1) = a % 2 ^ k := by
  rw [Nat.testBit_eq_decide_div_mod_eq, decide_eq_false_iff_not] at h
  rw [Nat.pow_succ, Nat.mod_mul, show a / 2 ^ k % 2 = 0 from by omega, Nat.mul_zero, Nat.add_zero]
theorem bit_below {a k : Nat} (h : a.testBit k = true) : k < bits a := by
  rcases Nat.lt_or_ge k (bits a) with h1 | h1
  · exact h1
  · exfalso
    have h2 : a < 2 ^ k := Nat.lt_of_lt_of_le (bits_lt a) (Nat.pow_le_pow_right (by omega) h1)
    rw [Nat.testBit_lt_two_pow h2] at h
    cases h
theorem bit_top {a y : Nat} (h : bits a = y + 1) : a.testBit y = true := by
  have h0 : a ≠ 0 := by intro e; rw [e, bits_zero] at h; omega
  have h1 := bits_le h0
  have h2 := bits_lt a
  rw [h] at h1 h2
  rw [Nat.testBit_eq_decide_div_mod_eq, decide_eq_true_iff]
  have h3 : a / 2 ^ y = 1 := by
    apply Nat.div_eq_of_lt_le
    · simpa using h1
    · rw [Nat.pow_succ] at h2; omega
  rw [h3]
theorem bits_all {a y : Nat} (h : bits a = y) : a % 2 ^ (y + 5) = a := by
  apply Nat.mod_eq_of_lt
  have h1 := bits_lt a
  rw [h] at h1
  exact Nat.lt_of_lt_of_le h1 (Nat.pow_le_pow_right (by omega) (by omega))
theorem bits_words {a : Nat} (k : Nat) (h : a < 18446744073709551616 ^ k) : bits a ≤ 64 * k := by
  apply bits_le_of_lt
  rw [Nat.pow_mul]
  exact h
end M
/-- Bit, where it is known what it tells. -/
theorem bit_at (w : World) (lo s : Nat) (v : Value) (a : Nat) (h : Nw w lo s v a) (k : Nat) (K : Int) (hK : K = (k : Int)) (hk : k ≤ 1000000000000000) (t : Bool) (e : Hid (a.testBit k = t)) : Calls Tryd.prog 23 #[v, .int .i64 K] w (Same (.bool t) w) := by
  subst hK
  have := bit_nat w lo s v a h k hk
  rwa [e.out] at this
theorem even_at (w : World) (lo s : Nat) (v : Value) (a : Nat) (h : Nw w lo s v a) (t : Bool) (e : Hid (a.testBit 0 = t)) : Calls Tryd.prog 25 #[v] w (Same (.bool (!t)) w) := by
  have := even_any w lo s v a h
  rwa [e.out] at this
theorem bits_at2 (w : World) (lo s : Nat) (v : Value) (a : Nat) (z : Int) (h : Nw w lo s v a) (e : Hid ((M.bits a : Int) = z)) : Calls Tryd.prog 21 #[v] w (Same (.int .i64 z) w) := by
  have := bits_any w lo s v a h
  rwa [e.out] at this

set_option maxHeartbeats 8000000 in
set_option maxRecDepth 100000 in
theorem bits_walk (w : World) (hTW : TabW w) (hEW : ErrW w) (A0 : Option Addr) (n0 c0 : Nat) (x0 : List Nat) (h0 : Src w A0 n0 c0 x0) :
    Calls Tryd.prog 9 #[.slice A0 n0 c0] w (True_ w) := by
  have U := Up.refl w
  go_enter Tryd.func9, Tryd.ntmps9
  go_wp2_with fail
  refine (shown_any _ hTW hEW).mono ?_
  rintro _ w1 ⟨rfl, hu1⟩
  replace h0 := h0.up hu1
  replace U := U.trans hu1
  clear hu1
  go_wp2_with fail
  refine (few_lit _ _ _ _ _ h0 10 _ rfl (by omega)).mono ?_
  rintro _ w2 ⟨va, na, rfl, a, hu2⟩
  replace U := U.trans hu2
  clear hu2 h0 hTW hEW
  obtain ⟨y, hy⟩ : ∃ y, M.bits na = y := ⟨_, rfl⟩
  have hyb : y ≤ 640 := by
    rw [← hy]
    exact M.bits_words 10 a.lt
  have HY := Lib.hid hy
  have HYi : Hid (((M.bits na : Nat) : Int) = (y : Int)) := by rw [hy]; rfl
  clear hy
  go_wp2_with fail
  refine (bits_at2 _ _ _ _ _ _ a HYi).mono ?_
  rintro _ _ ⟨rfl, rfl⟩
  go_wp2_with fail
  have hst : Hid (na % 2 ^ 0 = 0) := by simp [Hid, Nat.mod_one]
  go_loopw [5, 6] (fun sv i wr => ∃ (k lo' m : Nat), k ≤ y + 5 ∧ i = .int .i64 k ∧ Up w2 wr ∧ Nw wr lo' (20 + k) sv m ∧ Hid (na % 2 ^ k = m)) (fun _ i _ => y + 5 - (intOf i).toNat)
  case atStart => exact ⟨0, 0, 0, by omega, rfl, Up.refl _, (Nt.nil _ _ _).nw, hst⟩
  case round =>
    obtain ⟨k, lo', m, hk, rfl, hu, hs, HM⟩ := hrel
    have ak := a.up hu
    clear hst
    by_cases hlt : k < y + 5
    · cases hb : na.testBit k with
      | false =>
        have HB := Lib.hid hb
        have HE : Hid (na % 2 ^ (k + 1) = m) := by rw [Hid, M.bit_off hb, HM.out]
        clear hb
        go_wp2_with fail
        refine (bit_at _ _ _ _ _ ak k _ rfl (by omega) _ HB).mono ?_
        rintro _ _ ⟨rfl, rfl⟩
        go_wp2_with fail
        go_roundw
        case rel => exact ⟨k + 1, lo', m, by omega, by go_num, hu, hs.more (by omega), HE⟩
        case measure => simp [intOf]; omega
      | true =>
        have HB := Lib.hid hb
        have hky : k < y := by rw [← HY.out]; exact M.bit_below hb
        have HE : Hid (na % 2 ^ (k + 1) = m + 1 * 2 ^ k) := by rw [Hid, M.bit_on hb, HM.out]
        clear hb
        go_wp2_with fail
        refine (bit_at _ _ _ _ _ ak k _ rfl (by omega) _ HB).mono ?_
        rintro _ _ ⟨rfl, rfl⟩
        go_wp2_with fail
        replace hs := hs.up ((Up.refl wr).alloc (.cells #[.int .u64 1] 24))
        replace hu := hu.trans ((Up.refl wr).alloc (.cells #[.int .u64 1] 24))
        refine (shl_any _ _ 1 _ 1 (lit1 _ 1 _ rfl (by omega)) (by omega) _ k (by omega)).mono ?_
        rintro _ w3 ⟨vs, rfl, hv, hu3⟩
        replace hs := hs.up hu3
        replace hu := hu.trans hu3
        clear hu3
        go_wp2_with fail
        refine (add_of _ _ _ _ _ (20 + k) _ _ _ _ hs hv.nw (by omega) (by omega) (by omega)).mono ?_
        rintro _ w4 ⟨vt, rfl, ht, hu4⟩
        replace hu := hu.trans hu4
        clear hu4
        go_wp2_with fail
        go_roundw
        case rel => exact ⟨k + 1, _, _, by omega, by go_num, hu, ht.nw.more (by omega), HE⟩
        case measure => simp [intOf]; omega
    · have hky : k = y + 5 := by omega
      have HE : m = na := by rw [← HM.out, hky, M.bits_all HY.out]
      subst hky
      obtain ⟨t, ht⟩ : ∃ t, na.testBit 0 = t := ⟨_, rfl⟩
      have HT := Lib.hid ht
      replace U := U.trans hu
      have HE' := Lib.hid HE
      clear ht HE hk hlt
      rcases Nat.eq_zero_or_pos y with hy0 | hy0
      · subst hy0
        go_wp2_with fail
        refine (cmp_same _ _ _ _ _ _ _ _ _ hs ak HE'.out).mono ?_
        rintro _ w5 ⟨rfl, kk, hk⟩
        have hu5 : Up wr w5 := by rw [hk]; exact (Up.refl _).drewN _
        clear hk
        replace ak := ak.up hu5
        replace U := U.trans hu5
        clear hu5
        go_wp2_with fail
        refine (even_at _ _ _ _ _ ak t HT).mono ?_
        rintro _ _ ⟨rfl, rfl⟩
        go_wp2_with fail
        refine (bit_at _ _ _ _ _ ak 0 _ rfl (by omega) t HT).mono ?_
        rintro _ _ ⟨rfl, rfl⟩
        go_wp2_with fail
        go_ret
        exact ⟨rfl, U⟩
      · obtain ⟨y', hy'⟩ : ∃ y', y = y' + 1 := ⟨y - 1, by omega⟩
        have q1 : (y : Int) - 1 = (y' : Int) := by omega
        have HTop : Hid (na.testBit y' = true) := M.bit_top (by rw [HY.out, hy'])
        have hyy : y' ≤ 640 := by omega
        clear hy'
        go_wp2_with fail
        refine (cmp_same _ _ _ _ _ _ _ _ _ hs ak HE'.out).mono ?_
        rintro _ w5 ⟨rfl, kk, hk⟩
        have hu5 : Up wr w5 := by rw [hk]; exact (Up.refl _).drewN _
        clear hk
        replace ak := ak.up hu5
        replace U := U.trans hu5
        clear hu5
        go_wp2_with fail
        refine (bit_at _ _ _ _ _ ak y' _ rfl (by omega) true HTop).mono ?_
        rintro _ _ ⟨rfl, rfl⟩
        go_wp2_with fail
        refine (even_at _ _ _ _ _ ak t HT).mono ?_
        rintro _ _ ⟨rfl, rfl⟩
        go_wp2_with fail
        refine (bit_at _ _ _ _ _ ak 0 _ rfl (by omega) t HT).mono ?_
        rintro _ _ ⟨rfl, rfl⟩
        go_wp2_with fail
        go_ret
        exact ⟨rfl, U⟩
end Go.Proofs.YtgjobemiabaiiaaDoor
