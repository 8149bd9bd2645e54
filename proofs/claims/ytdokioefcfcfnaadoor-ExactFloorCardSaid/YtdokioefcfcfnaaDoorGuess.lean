/-
  nat.firstGuess, nat.guessDigit: their contracts.
-/
import Derived.Test.YtdokioefcfcfnaaDoorLongM
import Derived.Test.YtdokioefcfcfnaaDoorMul
import Derived.Test.YtdokioefcfcfnaaDoorDiv64
namespace Go.Proofs.YtdokioefcfcfnaaDoor
open Go.RowKit Go.Shelf

set_option maxHeartbeats 400000 in
set_option maxRecDepth 100000 in
theorem firstGuess_small (w : World) (hi lo y : Nat) (hlo : lo < 18446744073709551616) (hy : y < 18446744073709551616) (hh : hi < y) :
    Calls Tryd.prog 128 #[u64 hi, u64 lo, u64 y] w (Val (.tuple #[u64 ((hi * 18446744073709551616 + lo) / y), u64 ((hi * 18446744073709551616 + lo) % y), .int .u64 0]) w) := by
  have CW := Lib.hid (div64_any w hi lo y hlo hy hh)
  have hge : decide (y ≤ hi) = false := by simp; omega
  have hge' : decide ((y : Int) ≤ (hi : Int)) = false := by simp; omega
  generalize (hi * 18446744073709551616 + lo) / y = q at *
  generalize (hi * 18446744073709551616 + lo) % y = r at *
  go_enter Tryd.func128, Tryd.ntmps128
  go_wp2_with fail
  refine CW.out.mono ?_
  rintro _ _ ⟨rfl, kk, rfl⟩
  go_wp2_with fail
  go_ret3
  exact ⟨rfl, kk, rfl⟩

set_option maxHeartbeats 400000 in
set_option maxRecDepth 100000 in
theorem firstGuess_big (w : World) (lo y s d : Nat) (hrun : ∀ w, (callFunc 72 #[u64 lo, u64 y, .int .u64 0]).run Tryd.prog w = .ok (.value (.tuple #[u64 s, u64 d])) w) :
    Calls Tryd.prog 128 #[u64 y, u64 lo, u64 y] w (Val (.tuple #[.int .u64 18446744073709551615, u64 s, u64 d]) w) := by
  go_enter Tryd.func128, Tryd.ntmps128
  go_wp2_with fail
  go_ret3
  exact ⟨rfl, 0, rfl⟩

/-- The first guess, as a digit on the way. -/
theorem firstGuess_ex (hi lo y b c : Nat) (hlo : lo < 18446744073709551616) (hy : y < 18446744073709551616) (hy0 : 0 < y) (hh : hi ≤ y) (hc : c < 18446744073709551616) :
    ∃ g l o : Nat, l < 18446744073709551616 ∧ o ≤ 1 ∧ M.Gs (hi * 18446744073709551616 + lo) y b c g (l + 18446744073709551616 * o) ∧
      ∀ w, Calls Tryd.prog 128 #[u64 hi, u64 lo, u64 y] w (Val (.tuple #[u64 g, u64 l, u64 o]) w) := by
  rcases Nat.lt_or_ge hi y with h | h
  · have h1 : hi * 18446744073709551616 + lo < 18446744073709551616 * y := by omega
    refine ⟨_, _, 0, Nat.lt_trans (Nat.mod_lt (hi * 18446744073709551616 + lo) hy0) hy, by omega, ?_, fun w => firstGuess_small w hi lo y hlo hy h⟩
    rw [Nat.mul_zero, Nat.add_zero]
    exact M.Gs.start hy0 hc h1
  · obtain rfl : hi = y := by omega
    obtain ⟨s, d, h1, h2, h3, h4⟩ := add64_zero lo hi hlo hy
    refine ⟨18446744073709551615, s, d, h1, h2, ?_, fun w => firstGuess_big w lo hi s d h4⟩
    rw [← h3]
    exact M.Gs.start_big

/-- What guessDigit comes to. -/
def Guessed (t d : Nat) (w : World) (e : Ending) (w' : World) : Prop := ∃ q, e = .returned (u64 q) ∧ M.Gd t d q ∧ ∃ k, w' = w.drewN k

set_option maxHeartbeats 1000000 in
set_option maxRecDepth 100000 in
theorem guessDigit_any (w : World) (g o g' o' n1 c c' p : Nat) (x2 x1 x0 a b : Nat) (hp : p ≤ 1099511627776) (hn1 : n1 = p + 3)
    (hx2 : w.cell? ⟨g, o + (p + 2), none⟩ = some (u64 x2)) (hx1 : w.cell? ⟨g, o + (p + 1), none⟩ = some (u64 x1)) (hx0 : w.cell? ⟨g, o + p, none⟩ = some (u64 x0))
    (ha : w.cell? ⟨g', o' + (p + 1), none⟩ = some (u64 a)) (hb : w.cell? ⟨g', o' + p, none⟩ = some (u64 b))
    (bx2 : x2 ≤ a) (bx1 : x1 < 18446744073709551616) (bx0 : x0 < 18446744073709551616) (ba : a < 18446744073709551616) (ba0 : 0 < a) (bb : b < 18446744073709551616) :
    Calls Tryd.prog 116 #[.slice (some ⟨g, o, none⟩) n1 c, .slice (some ⟨g', o', none⟩) (p + 2 : Nat) c'] w
      (Guessed ((x2 * 18446744073709551616 + x1) * 18446744073709551616 + x0) (a * 18446744073709551616 + b) w) := by
  obtain ⟨q, l, ov, hl, hov, HG, hcall⟩ := firstGuess_ex x2 x1 a b x0 bx1 ba ba0 bx2 bx0
  obtain ⟨n, hn⟩ : ∃ n, p + 2 = n := ⟨_, rfl⟩
  obtain ⟨m, hm⟩ : ∃ m, p + 1 = m := ⟨_, rfl⟩
  have q1 : (n : Int) - 1 = (m : Int) := by omega
  have q2 : (n : Int) - 2 = (p : Int) := by omega
  have w1 : IntKind.i64.wrap ((n : Int) - 1) = (m : Int) := by rw [q1]; simp [IntKind.wrap, IntKind.bits, IntKind.signed]; omega
  have w2 : IntKind.i64.wrap ((n : Int) - 2) = (p : Int) := by rw [q2]; simp [IntKind.wrap, IntKind.bits, IntKind.signed]; omega
  have l1 : (m : Int) < (n : Int) := by omega
  have l2 : (p : Int) < (n : Int) := by omega
  have l3 : (n : Int) < (n1 : Int) := by omega
  have l4 : (m : Int) < (n1 : Int) := by omega
  have l5 : (p : Int) < (n1 : Int) := by omega
  have l6 : m < n := by omega
  have l7 : p < n := by omega
  have l8 : n < n1 := by omega
  have l9 : m < n1 := by omega
  have l10 : p < n1 := by omega
  rw [hn] at hx2 ⊢
  rw [hm] at hx1 ha
  have HC := Lib.hid hcall
  clear hn hm hcall hn1
  go_enter Tryd.func116, Tryd.ntmps116
  go_wp2_with fail
  go_step3
  go_wp2_with fail
  go_quiet (fail)
  obtain ⟨nq0, hq0⟩ : ∃ x, x = nq := ⟨nq, rfl⟩
  subst hq0
  go_wp2_with fail
  go_quiet ((go_at_call 128; exact Val.quiet2 (HC.out _)))
  go_wp2_with fail
  go_step3
  go_wp2_with fail
  clear hx2 hx1 ha hb q1 w1 w2 l1 l2 l3 l4 l6 l7 l8 l9 bx1 bx2 HC
  obtain ⟨kk, hkk⟩ : ∃ kk, nq0 + nq = kk := ⟨_, rfl⟩
  rw [World.drewN_drewN, hkk]
  clear hkk
  have hst := HG
  clear HG
  go_loop [8, 9, 10] (fun s8 s9 s10 => ∃ q l ov : Nat, s8 = u64 q ∧ s9 = u64 l ∧ s10 = u64 ov ∧ l < 18446744073709551616 ∧ ov ≤ 1 ∧ Hid (M.Gs (x2 * 18446744073709551616 + x1) a b x0 q (l + 18446744073709551616 * ov))) (fun s8 _ _ => (intOf s8).toNat)
  case atStart => exact ⟨q, l, ov, rfl, rfl, rfl, hl, hov, hst⟩
  case round =>
    clear hl hov hst
    obtain ⟨q, l, ov, rfl, rfl, rfl, hl, hov, HG⟩ := hrel
    have hq := HG.out.lt
    obtain ⟨hi1, lo1, e1, e2, e3, c1m⟩ := mul64_ex q b hq bb
    have CM := Lib.hid c1m
    have E3 := Lib.hid e3
    clear e3 c1m
    rcases (show ov = 1 ∨ ov = 0 by omega) with rfl | rfl
    · have HD := Lib.hid (HG.out.stop bb (by omega))
      have t1 : (((1 : Nat) : Int) != 0) = true := by decide
      clear HG
      go_wp2_with fail
      refine (CM.out _).mono ?_
      rintro _ _ ⟨rfl, rfl⟩
      go_wp2_with fail
      go_ret
      exact ⟨q, rfl, HD.out, _, rfl⟩
    · have t1 : (((0 : Nat) : Int) != 0) = false := by decide
      have HG0 : Hid (M.Gs (x2 * 18446744073709551616 + x1) a b x0 q l) := by
        have := HG.out
        rwa [Nat.mul_zero, Nat.add_zero] at this
      clear HG
      rcases Nat.lt_trichotomy hi1 l with h | h | h
      · have HD := Lib.hid (HG0.out.done (by have := E3.out; omega))
        go_wp2_with fail
        refine (CM.out _).mono ?_
        rintro _ _ ⟨rfl, rfl⟩
        go_wp2_with fail
        go_ret
        exact ⟨q, rfl, HD.out, _, rfl⟩
      · subst h
        by_cases hle : lo1 ≤ x0
        · have HD := Lib.hid (HG0.out.done (by have := E3.out; omega))
          have t2 : decide (hi1 < hi1) = false := by simp
          have t3 : ((hi1 : Int) == (hi1 : Int)) = true := by simp
          go_wp2_with fail
          refine (CM.out _).mono ?_
          rintro _ _ ⟨rfl, rfl⟩
          go_wp2_with fail
          go_ret
          exact ⟨q, rfl, HD.out, _, rfl⟩
        · have hmore : 18446744073709551616 * hi1 + x0 < q * b := by have := E3.out; omega
          obtain ⟨q', rfl⟩ : ∃ q', q = q' + 1 := ⟨q - 1, by
            rcases Nat.eq_zero_or_pos q with h0 | h0
            · rw [h0, Nat.zero_mul] at hmore; omega
            · omega⟩
          have HN := HG0.out.next hmore
          obtain ⟨s, d, f1, f2, f3, f4⟩ := add64_zero hi1 a hl ba
          rw [f3] at HN
          have HN2 := Lib.hid HN
          have t2 : decide (hi1 < hi1) = false := by simp
          have t3 : ((hi1 : Int) == (hi1 : Int)) = true := by simp
          clear HN f3 hmore HG0 E3
          go_wp2_with fail
          refine (CM.out _).mono ?_
          rintro _ _ ⟨rfl, rfl⟩
          go_wp2_with fail
          go_round
          case rel => exact ⟨q', s, d, by go_num, rfl, rfl, f1, f2, HN2.out⟩
          case measure => simp [intOf]
      · have hmore : 18446744073709551616 * l + x0 < q * b := by have := E3.out; omega
        obtain ⟨q', rfl⟩ : ∃ q', q = q' + 1 := ⟨q - 1, by
          rcases Nat.eq_zero_or_pos q with h0 | h0
          · rw [h0, Nat.zero_mul] at hmore; omega
          · omega⟩
        have HN := HG0.out.next hmore
        obtain ⟨s, d, f1, f2, f3, f4⟩ := add64_zero l a hl ba
        rw [f3] at HN
        have HN2 := Lib.hid HN
        have t2 : decide (hi1 < l) = false := by simp; omega
        have t3 : ((hi1 : Int) == (l : Int)) = false := by rw [beq_eq_false_iff_ne]; omega
        clear HN f3 hmore HG0 E3
        go_wp2_with fail
        refine (CM.out _).mono ?_
        rintro _ _ ⟨rfl, rfl⟩
        go_wp2_with fail
        go_round
        case rel => exact ⟨q', s, d, by go_num, rfl, rfl, f1, f2, HN2.out⟩
        case measure => simp [intOf]
end Go.Proofs.YtdokioefcfcfnaaDoor
