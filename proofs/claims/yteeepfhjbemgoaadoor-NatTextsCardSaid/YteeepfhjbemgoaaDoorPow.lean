/-
  nat.Pow: its contract.
-/
import Derived.Test.YteeepfhjbemgoaaDoorMul
import Derived.Test.YteeepfhjbemgoaaDoorBits
namespace Go.Proofs.YteeepfhjbemgoaaDoor
open Go.RowKit Go.Shelf

theorem M.pow_words (x k : Nat) (hx : x < 18446744073709551616) : x ^ k < 18446744073709551616 ^ (k + 1) := by
  have h1 : x ^ k ≤ 18446744073709551616 ^ k := Nat.pow_le_pow_left (by omega) _
  have h2 : 18446744073709551616 ^ k < 18446744073709551616 ^ (k + 1) := Nat.pow_lt_pow_right (by omega) (by omega)
  omega
theorem M.shift_top (N : Nat) : N / 2 ^ M.bits N = 0 := Nat.div_eq_of_lt (M.bits_lt N)
theorem M.shift_step (N i : Nat) : N / 2 ^ i = 2 * (N / 2 ^ (i + 1)) + N / 2 ^ i % 2 := by
  rw [Nat.pow_succ, ← Nat.div_div_eq_div_mul]
  omega
theorem M.pow_square (x k : Nat) : x ^ k * x ^ k = x ^ (2 * k) := by rw [← Nat.pow_add, Nat.two_mul]

theorem and_one_i64 (E : Nat) (h1 : E ≤ 10000) : (Go.bits BinOp.and IntKind.i64 (E : Int) 1 == 1) = decide (E % 2 = 1) := by
  have h3 : (BitVec.ofInt 64 (E : Int)).toNat = E := by
    rw [BitVec.ofInt_natCast, BitVec.toNat_ofNat]; exact Nat.mod_eq_of_lt (by omega)
  have h2 : Go.bits BinOp.and IntKind.i64 (E : Int) 1 = ((E % 2 : Nat) : Int) := by
    show IntKind.i64.wrap ((BitVec.ofInt 64 (E : Int) &&& BitVec.ofInt 64 1).toNat : Int) = _
    rw [BitVec.toNat_and, h3, show (BitVec.ofInt 64 1).toNat = 1 from rfl, Nat.and_one_is_mod]
    exact IntWalk.i64_in _ (by omega)
  rw [h2]
  rcases (show E % 2 = 0 ∨ E % 2 = 1 by omega) with h | h <;> simp [h]

set_option maxHeartbeats 800000 in
set_option maxRecDepth 100000 in
theorem pow_any (w : World) (x N : Nat) (n : Int) (hx : x < 18446744073709551616) (hN : max 0 (min n 10000) = (N : Int)) :
    Calls Tryd.prog 52 #[u64 x, .int .i64 n] w (Res (N + 1) (x ^ N) w) := by
  have hN1 : N ≤ 10000 := by omega
  have cl := clamp_any w n 10000
  rw [hN] at cl
  have CL := Lib.hid cl
  have cb := (Tryd.bits_Len (N : Int) w (by omega) (by omega))
  rw [Int.toNat_natCast, M.bitLen_eq N N (Nat.le_refl _) (by omega)] at cb
  have hx' := Lib.hid hx
  have hbn : M.bits N ≤ 64 := (by
    by_cases h0 : N = 0
    · subst h0; decide
    · exact (M.bits_le_of_lt (k := 64) (by omega)))
  clear cl hN hx cb
  go_enter Tryd.func52, Tryd.ntmps52
  go_wp2_with fail
  refine CL.out.mono ?_
  rintro _ _ ⟨rfl, rfl⟩
  go_wp2_with fail
  refine (of_any w 1 (by omega)).mono ?_
  rintro _ w1 ⟨v1, rfl, h1, hu1⟩
  go_wp2_with fail
  refine (of_any w1 x hx'.out).mono ?_
  rintro _ w2 ⟨v2, rfl, h2, hu2⟩
  have hu12 := hu1.trans hu2
  have h1b := h1.up hu2
  have h2b := h2.lower hu1.size
  clear h1 h2 hu1 hu2
  go_wp2_with fail
  refine (Tryd.bits_Len (N : Int) w2 (by omega) (by omega)).mono ?_
  rintro _ W ⟨rfl, hW⟩
  have hWW : w2 = W := hW.symm
  subst hWW
  clear hW
  rw [Int.toNat_natCast, M.bitLen_eq N N (Nat.le_refl _) (by omega)]
  have HT : Hid (N / 2 ^ M.bits N = 0) := M.shift_top N
  generalize M.bits N = L at *
  go_wp2_with fail
  go_loopw [5, 7] (fun v i wr => ∃ (k : Int) (e : Nat), -1 ≤ k ∧ k < L ∧ i = .int .i64 k ∧ Up w2 wr ∧ Nt wr w.heap.size (e + 1) v (x ^ e) ∧ Hid (e = N / 2 ^ (k + 1).toNat)) (fun _ i _ => (intOf i + 1).toNat)
  case atStart =>
    refine ⟨(L : Int) - 1, 0, by omega, by omega, rfl, Up.refl _, ?_, ?_⟩
    · exact (h1b.lower (Nat.le_refl _))
    · show _ = _
      rw [show ((L : Int) - 1 + 1).toNat = L from by omega, HT.out]
  case round =>
    obtain ⟨k, e, hk1, hk2, rfl, hu, hv, HE⟩ := hrel
    clear h1b
    have h2c := h2b
    by_cases hk0 : k = -1
    · subst hk0
      have hee := HE.out
      simp only [show ((-1 : Int) + 1).toNat = 0 from rfl, Nat.pow_zero, Nat.div_one] at hee
      subst hee
      go_wp2_with fail
      go_ret
      exact ⟨_, rfl, hv, hu12.trans hu⟩
    · obtain ⟨i, rfl⟩ := Int.eq_ofNat_of_zero_le (show 0 ≤ k by omega)
      have hE := HE.out
      rw [show ((i : Int) + 1).toNat = i + 1 from by omega] at hE
      have hstep := M.shift_step N i
      rw [← hE] at hstep
      have heb : e ≤ 10000 := by rw [hE]; exact Nat.le_trans (Nat.div_le_self _ _) hN1
      have hbt := and_one_i64 (N / 2 ^ i) (Nat.le_trans (Nat.div_le_self _ _) hN1)
      rw [Int.natCast_ediv, Int.natCast_pow] at hbt
      simp only [Int.cast_ofNat_Int] at hbt
      obtain ⟨q, hq⟩ : ∃ q, N / 2 ^ i = q := ⟨_, rfl⟩
      rw [hq] at hstep hbt
      have HQ : Hid (q = N / 2 ^ i) := hq.symm
      have HSQ : Hid (x ^ e * x ^ e = x ^ (2 * e)) := M.pow_square x e
      have CW := Lib.hid (mul_any wr w.heap.size w.heap.size (e + 1) (e + 1) u5 u5 (x ^ e) (x ^ e) hv.nw hv.nw (by omega) (by omega))
      rw [HSQ.out] at CW
      clear hE HE hq hk0 hk1 HSQ
      by_cases hbit : q % 2 = 1
      · have ht : (Go.bits BinOp.and IntKind.i64 ((N : Int) / 2 ^ i) 1 == 1) = true := by rw [hbt]; simp [hbit]
        have HE2 : Hid (q = 2 * e + 1) := by show _ = _; omega
        clear hbt hbit hstep
        go_wp2_with fail
        refine CW.out.mono ?_
        rintro _ w3 ⟨v3, rfl, h3, hu3⟩
        have h2d := (h2b.up hu).up hu3
        have hmul := Lib.hid (mul_any w3 _ _ _ _ v3 v2 _ _ h3.nw h2d.nw (by omega) (by omega))
        rw [← Nat.pow_succ] at hmul
        clear CW
        go_wp2_with fail
        refine hmul.out.mono ?_
        rintro _ w4 ⟨v4, rfl, h4, hu4⟩
        have h5 := (h4.fit (M.pow_words x _ hx'.out)).lower (Nat.le_trans hu12.size (Nat.le_trans hu.size hu3.size))
        have hu5 := hu.trans (hu3.trans hu4)
        clear h4 hu4 hu3 h3 hv hu h2d hmul
        go_wp2_with fail
        go_roundw
        case rel =>
          exact ⟨(i : Int) - 1, 2 * e + 1, by omega, by omega, rfl, hu5, h5, by rw [show ((i : Int) - 1 + 1).toNat = i from by omega, ← HE2.out]; exact HQ.out⟩
        case measure => simp [intOf]
      · have ht : (Go.bits BinOp.and IntKind.i64 ((N : Int) / 2 ^ i) 1 == 1) = false := by rw [hbt]; simp [hbit]
        have HE2 : Hid (q = 2 * e) := by show _ = _; omega
        clear hbt hbit hstep
        go_wp2_with fail
        refine CW.out.mono ?_
        rintro _ w3 ⟨v3, rfl, h3, hu3⟩
        have h5 := (h3.fit (M.pow_words x _ hx'.out)).lower (Nat.le_trans hu12.size hu.size)
        have hu5 := hu.trans hu3
        clear hu3 h3 hv hu CW
        go_wp2_with fail
        go_roundw
        case rel =>
          exact ⟨(i : Int) - 1, 2 * e, by omega, by omega, rfl, hu5, h5, by rw [show ((i : Int) - 1 + 1).toNat = i from by omega, ← HE2.out]; exact HQ.out⟩
        case measure => simp [intOf]
end Go.Proofs.YteeepfhjbemgoaaDoor
