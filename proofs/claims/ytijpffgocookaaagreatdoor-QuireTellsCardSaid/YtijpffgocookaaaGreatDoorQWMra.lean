import Derived.Test.YtijpffgocookaaaGreatDoorQWPm
import Derived.Test.YtijpffgocookaaaGreatDoorQWObm
import Derived.OwnWalk
set_option maxHeartbeats 32000000
set_option linter.unusedVariables false
set_option linter.unusedSimpArgs false
namespace Go.Proofs.YtijpffgocookaaaGreatDoor
open Go.RowKit
namespace M
def mX (p k : Nat) : Nat := if k / 2 ^ p = 0 then k % 2 ^ p else k % 2 ^ p + 2 ^ p
def mS (p : Nat) (b : Int) (k : Nat) : Int := if k / 2 ^ p = 0 then 1 - b - p else (k / 2 ^ p : Nat) - b - p
def mv (p k : Nat) : Nat := mX p k * 2 ^ (max (k / 2 ^ p) 1 - 1)
theorem mS_eq (p : Nat) (b : Int) (k : Nat) : mS p b k = 1 - b - p + (max (k / 2 ^ p) 1 - 1 : Nat) := by
 unfold mS
 obtain ⟨f, hf⟩ : ∃ f, k / 2 ^ p = f := ⟨_, rfl⟩
 rw [hf]
 split <;> omega
theorem key_parts (p k : Nat) : k = k / 2 ^ p * 2 ^ p + k % 2 ^ p ∧ k % 2 ^ p < 2 ^ p := ⟨by rw [Nat.mul_comm]; exact (Nat.div_add_mod _ _).symm, Nat.mod_lt _ (p2 p)⟩
theorem mX_lt (p k : Nat) : mX p k < 2 * 2 ^ p := by
 have := (key_parts p k).2
 unfold mX
 split <;> omega
theorem of_parts {p f m : Nat} (h : m < 2 ^ p) : (f * 2 ^ p + m) / 2 ^ p = f ∧ (f * 2 ^ p + m) % 2 ^ p = m := by
 constructor
 ·rw [Nat.mul_comm, Nat.mul_add_div (p2 p), Nat.div_eq_of_lt h]; rfl
 ·rw [Nat.mul_comm, Nat.mul_add_mod, Nat.mod_eq_of_lt h]
theorem mv_succ (p k : Nat) : mv p (k + 1) = mv p k + 2 ^ (max (k / 2 ^ p) 1 - 1) := by
 obtain ⟨e, hm⟩ := key_parts p k
 obtain ⟨f, hf⟩ : ∃ f, k / 2 ^ p = f := ⟨_, rfl⟩
 obtain ⟨m, hmm⟩ : ∃ m, k % 2 ^ p = m := ⟨_, rfl⟩
 rw [hf, hmm] at e
 rw [hmm] at hm
 have pp := p2 p
 by_cases h : m + 1 < 2 ^ p
 ·obtain ⟨a, b⟩ := of_parts (f := f) h
  have e2 : k + 1 = f * 2 ^ p + (m + 1) := by omega
  unfold mv mX
  rw [e2, a, b, hf, hmm]
  split
  ·rw [Nat.add_mul, Nat.one_mul]
  ·rw [show m + 1 + 2 ^ p = (m + 2 ^ p) + 1 by omega, Nat.add_mul, Nat.one_mul]
 ·have e2 : k + 1 = (f + 1) * 2 ^ p + 0 := by rw [Nat.add_mul]; omega
  obtain ⟨a, b⟩ := of_parts (p := p) (f := f + 1) (m := 0) pp
  unfold mv mX
  rw [e2, a, b, hf, hmm, if_neg (by omega)]
  rw [show max (f + 1) 1 - 1 = f by omega]
  split
  ·rename_i h0
   subst h0
   simp
   omega
  ·rename_i h0
   obtain ⟨g, rfl⟩ : ∃ g, f = g + 1 := ⟨f - 1, by omega⟩
   rw [show max (g + 1) 1 - 1 = g by omega, p2s g, ← Nat.add_one_mul]
   rw [show m + 2 ^ p + 1 = 2 * 2 ^ p by omega, Nat.zero_add]
   ac_rfl
theorem mv_lt {p k k' : Nat} (h : k < k') : mv p k < mv p k' := by
 obtain ⟨d, rfl⟩ : ∃ d, k' = k + 1 + d := ⟨k' - k - 1, by omega⟩
 clear h
 induction d with
 | zero =>
  rw [Nat.add_zero, mv_succ]
  have := p2 (max (k / 2 ^ p) 1 - 1)
  omega
 | succ d ih =>
  rw [← Nat.add_assoc, mv_succ]
  have := p2 (max ((k + 1 + d) / 2 ^ p) 1 - 1)
  omega
theorem mv_inj {p k k' : Nat} (h : mv p k = mv p k') : k = k' := by
 rcases Nat.lt_trichotomy k k' with e | e | e
 ·have := mv_lt (p := p) e; omega
 ·exact e
 ·have := mv_lt (p := p) e; omega
theorem mv_zero (p : Nat) : mv p 0 = 0 := by simp [mv, mX]
def IsM (p : Nat) (b : Int) (k m : Nat) (z : Int) : Prop := (mX p k = 0 ∧ m = 0 ∧ z = 0) ∨ (m % 2 = 1 ∧ ∃ t : Nat, mX p k = m * 2 ^ t ∧ z = mS p b k + t)
theorem ism_ex (p : Nat) (b : Int) (k : Nat) : ∃ m z, IsM p b k m z := by
 rcases Nat.eq_zero_or_pos (mX p k) with h | h
 ·exact ⟨0, 0, .inl ⟨h, rfl, rfl⟩⟩
 ·obtain ⟨m, t, h1, h2⟩ := odd_ex _ h
  exact ⟨m, _, .inr ⟨h2, t, h1, rfl⟩⟩
theorem mX_zero {p k : Nat} : mX p k = 0 ↔ k = 0 := by
 constructor
 ·intro h
  have h1 : mv p k = 0 := by unfold mv; rw [h, Nat.zero_mul]
  exact mv_inj (h1.trans (mv_zero p).symm)
 ·rintro rfl
  simp [mX]
theorem IsM.zero {p k m : Nat} {b z : Int} (h : IsM p b k m z) : (m = 0 ↔ k = 0) ∧ (m ≠ 0 → m % 2 = 1) := by
 rcases h with ⟨h1, h2, h3⟩ | ⟨h1, t, h2, h3⟩
 ·exact ⟨⟨fun _ => mX_zero.1 h1, fun _ => h2⟩, fun h => absurd h2 h⟩
 ·refine ⟨⟨fun e => by omega, fun e => ?_⟩, fun _ => h1⟩
  subst e
  have : mX p 0 = 0 := mX_zero.2 rfl
  rw [this] at h2
  have := p2 t
  have := Nat.mul_pos (show 0 < m by omega) this
  omega
theorem IsM.longer {p k m : Nat} {b z : Int} (h : IsM p b k m z) : IsM (p + 1) b (2 * k) m z := by
 have hd : 2 * k / 2 ^ (p + 1) = k / 2 ^ p := by rw [p2s, Nat.mul_div_mul_left _ _ (by decide)]
 have hm : 2 * k % 2 ^ (p + 1) = 2 * (k % 2 ^ p) := by rw [p2s, Nat.mul_mod_mul_left]
 have hx : mX (p + 1) (2 * k) = 2 * mX p k := by
  unfold mX
  rw [hd, hm, p2s]
  split <;> omega
 have hs : mS (p + 1) b (2 * k) = mS p b k - 1 := by
  unfold mS
  rw [hd]
  split <;> omega
 rcases h with ⟨h1, h2, h3⟩ | ⟨h1, t, h2, h3⟩
 ·exact .inl ⟨by rw [hx, h1], h2, h3⟩
 ·exact .inr ⟨h1, t + 1, by rw [hx, h2, p2s]; ac_rfl, by rw [hs]; omega⟩
def mok (p : Nat) (b : Int) (k : Nat) : Prop := p ≤ 60 ∧ -2000 ≤ b ∧ b ≤ 2000 ∧ k / 2 ^ p ≤ 4095
theorem IsM.rng {p k m : Nat} {b z : Int} (h : IsM p b k m z) (ho : mok p b k) : m < 2305843009213693952 ∧ -2100 ≤ z ∧ z ≤ 6200 := by
  have hl := mX_lt p k
  have h60 : 2 ^ p ≤ 2 ^ 60 := p2le ho.1
  have c60 : (2 : Nat) ^ 60 = 1152921504606846976 := by decide
  have hs := mS_eq p b k
  obtain ⟨h1, h2, h3, h4⟩ := ho
  rcases h with ⟨_, rfl, rfl⟩ | ⟨g1, t, g2, g3⟩
  · exact ⟨by decide, by decide, by decide⟩
  · have p1 : m ≤ m * 2 ^ t := Nat.le_mul_of_pos_right _ (p2 t)
    have p3 : 2 ^ t ≤ m * 2 ^ t := Nat.le_mul_of_pos_left _ (by omega)
    have t62 : t < 62 := p2inj (by have : (2 : Nat) ^ 62 = 4611686018427387904 := by decide
                                   omega)
    refine ⟨by omega, by omega, by omega⟩
end M
theorem shr_cast {k p f : Nat} (h : k / 2 ^ p = f) : (k : Int) / 2 ^ p = (f : Int) := by
 rw [← h]
 simp
theorem rpower_any (w : World) (n : Nat) (hn : n ≤ 60) (P : Nat) (hP : Hid (2 ^ n = P)) : Calls Tryz.prog 155 #[.int .i64 (n : Int)] w (Same (u64 P) w) := by
 go_enter Tryz.func155, Tryz.ntmps155
 go_wp2_with fail
 go_loop [3, 4] (fun xv iv => ∃ (x i : Nat), xv = u64 x ∧ iv = .int .i64 (i : Int) ∧ i ≤ n ∧ x ≤ 1152921504606846976 ∧ Hid (x = 2 ^ i)) (fun _ iv => n - (intOf iv).toNat)
 case atStart => exact ⟨1, 0, rfl, rfl, Nat.zero_le _, by decide, rfl⟩
 case round =>
  obtain ⟨x, i, rfl, rfl, hi, hx, HX⟩ := hrel
  by_cases hlt : i < n
  ·have HX2 : Hid (x + x = 2 ^ (i + 1)) := by show _ = _; rw [HX.out, M.p2s]; omega
   have hx2 : x + x ≤ 1152921504606846976 := by
    have h1 := M.p2le (a := i + 1) (b := 60) (by omega)
    have h2 : (2 : Nat) ^ 60 = 1152921504606846976 := by decide
    have := HX2.out
    omega
   clear HX
   go_wp2_with fail
   go_round
   case rel => exact ⟨x + x, i + 1, by go_num, by go_num, hlt, hx2, HX2⟩
   case measure => simp [intOf]; omega
  ·obtain rfl : x = P := by rw [HX.out, ← hP.out, show i = n by omega]
   clear HX hP
   go_wp2_with fail
   go_ret
   exact ⟨rfl, rfl⟩
def Sp2 (f m : Nat) (w : World) (e : Ending) (w' : World) : Prop := e = .returned (.tuple #[u64 f, u64 m]) ∧ Up w w'
def Mz (m : Nat) (z : Int) (w : World) (e : Ending) (w' : World) : Prop := e = .returned (.tuple #[u64 m, .int .i64 z]) ∧ Up w w'
theorem rsplit6 (w : World) (p k : Nat) (hp : p ≤ 60) (hk : k < 18446744073709551616) (f m : Nat) (hf : Hid (k / 2 ^ p = f)) (hm : Hid (k % 2 ^ p = m)) : Calls Tryz.prog 154 #[.int .i64 (p : Int), u64 k] w (Sp2 f m w) := by
 obtain ⟨P, hP⟩ : ∃ P, 2 ^ p = P := ⟨_, rfl⟩
 have hP0 := M.p2 p
 have CP := Lib.hid (fun W => rpower_any W p hp P (Lib.hid hP))
 have e1 := hf.out
 have e2 := hm.out
 rw [hP] at e1 e2 hP0
 have q1 : (k : Int) / (P : Int) = (f : Int) := by rw [← e1]; simp
 have q2 : (k : Int) % (P : Int) = (m : Int) := by rw [← e2]; simp
 have q3 : ((P : Int) == 0) = false := by rw [beq_eq_false_iff_ne]; omega
 have q4 : (P : Int) ≠ 0 := by omega
 have q5 : ¬ P = 0 := by omega
 have f64 : f < 18446744073709551616 := by rw [← e1]; exact Nat.lt_of_le_of_lt (Nat.div_le_self _ _) hk
 have qf : IntKind.u64.wrap (f : Int) = (f : Int) := by rw [IntKind.wrap_u64]; omega
 clear hf hm e1 e2 hP
 go_enter Tryz.func154, Tryz.ntmps154
 go_wp2_with fail
 refine (CP.out _).mono ?_
 rintro _ _ ⟨rfl, rfl⟩
 go_wp2_with fail
 go_quiet (fail)
 go_wp2_with fail
 go_ret2
 refine ⟨?_, (Up.refl _).drewN _⟩
 first
  | rfl
  | (show Ending.returned (.tuple #[.int .u64 (IntKind.u64.wrap (f : Int)), .int .u64 ((k : Int) % (P : Int))]) = _; rw [qf, q2])
  | (show Ending.returned (.tuple #[.int .u64 (f : Int), .int .u64 ((k : Int) % (P : Int))]) = _; rw [q2])
theorem mS_nz {p f k : Nat} {b : Int} (hf : k / 2 ^ p = f) (h : f ≠ 0) : M.mS p b k = (f : Int) - b - p := by
 unfold M.mS
 rw [hf, if_neg h]
theorem mS_z {p k : Nat} {b : Int} (hf : k / 2 ^ p = 0) : M.mS p b k = 1 - b - p := by
 unfold M.mS
 rw [if_pos hf]
theorem rvalue6 (w : World) (p k m : Nat) (b z : Int) (hk : k < 18446744073709551616) (ho : M.mok p b k) (h : M.IsM p b k m z) : Calls Tryz.prog 111 #[.int .i64 (p : Int), .int .i64 b, u64 k] w (Mz m z w) := by
  obtain ⟨f, hf⟩ : ∃ f, k / 2 ^ p = f := ⟨_, rfl⟩
  obtain ⟨a, ha⟩ : ∃ a, k % 2 ^ p = a := ⟨_, rfl⟩
  obtain ⟨P, hP⟩ : ∃ P, 2 ^ p = P := ⟨_, rfl⟩
  have CS := Lib.hid (fun W => rsplit6 W p k ho.1 hk f a (Lib.hid hf) (Lib.hid ha))
  have CP := Lib.hid (fun W => rpower_any W p ho.1 P (Lib.hid hP))
  have hl := M.mX_lt p k
  have ha2 := (M.key_parts p k).2
  rw [ha] at ha2
  have P60 : P ≤ 1152921504606846976 := by
    rw [← hP]
    have h1 := M.p2le (b := 60) ho.1
    have h2 : (2 : Nat) ^ 60 = 1152921504606846976 := by decide
    omega
  rw [hP] at hl ha2
  have f4 : f ≤ 4095 := by have := ho.2.2.2; omega
  have b1 := ho.2.1
  have b2 := ho.2.2.1
  have p60 := ho.1
  obtain ⟨X, hX⟩ : ∃ X, M.mX p k = X := ⟨_, rfl⟩
  obtain ⟨S, hS⟩ : ∃ S, M.mS p b k = S := ⟨_, rfl⟩
  have hX2 : (f = 0 → a = X) ∧ (f ≠ 0 → a + P = X) := by
    rw [← hX, M.mX, hf, ha, hP]
    exact ⟨fun h => by rw [if_pos h], fun h => by rw [if_neg h]⟩
  have hS2 : (f = 0 → 1 - b - (p : Int) = S) ∧ (f ≠ 0 → (f : Int) - b - (p : Int) = S) := by
    rw [← hS]
    exact ⟨fun h => (mS_z (by rw [hf, h])).symm, fun h => (mS_nz hf h).symm⟩
  unfold M.IsM at h
  rw [hX, hS] at h
  rw [hX] at hl
  have S1 : -2100 ≤ S ∧ S ≤ 6200 := by omega
  have HM := Lib.hid h
  clear h hf ha hP hX hS ho
  rcases (show f = 0 ∨ 0 < f by omega) with f0 | f0
  · subst f0
    obtain rfl : X = a := (hX2.1 rfl).symm
    have e1 := hS2.1 rfl
    clear hX2 hS2
    go_enter Tryz.func111, Tryz.ntmps111
    go_wp2_with fail
    refine (CS.out _).mono ?_
    rintro _ w1 ⟨rfl, U⟩
    rcases (show X = 0 ∨ 0 < X by omega) with x0 | x0
    · subst x0
      obtain ⟨rfl, rfl⟩ : m = 0 ∧ z = 0 := by
        rcases HM.out with ⟨_, h2, h3⟩ | ⟨h1, t, h2, h3⟩
        · exact ⟨h2, h3⟩
        · have := Nat.mul_pos (show 0 < m by omega) (M.p2 t)
          omega
      clear HM
      go_wp2_with fail
      go_ret2
      exact ⟨rfl, U⟩
    · obtain ⟨t, ho, hm, hz⟩ : ∃ t : Nat, m % 2 = 1 ∧ X = m * 2 ^ t ∧ z = S + t := by
        rcases HM.out with ⟨h1, _, _⟩ | ⟨h1, t, h2, h3⟩
        · omega
        · exact ⟨t, h1, h2, h3⟩
      have Hm := Lib.hid hm
      have Hz := Lib.hid hz
      have t64 : t < 64 := by
        have p3 : 2 ^ t ≤ m * 2 ^ t := Nat.le_mul_of_pos_left _ (by omega)
        exact M.p2inj (by have : (2 : Nat) ^ 64 = 18446744073709551616 := by decide
                          omega)
      have x1 : ((X : Int) == 0) = false := by rw [beq_eq_false_iff_ne]; omega
      clear hm hz HM
      go_wp2_with fail
      go_loop [9, 10] (fun xv ev => ∃ (x s : Nat) (y : Int), xv = u64 x ∧ ev = .int .i64 y ∧ s ≤ t ∧ 0 < x ∧ x ≤ X ∧ Hid (x = m * 2 ^ (t - s)) ∧ y = S + s) (fun xv _ => (intOf xv).toNat)
      case atStart => exact ⟨X, 0, S, by first | rfl | go_num, by first | rfl | go_num, Nat.zero_le _, x0, Nat.le_refl _, by show _ = _; rw [Hm.out]; rfl, by omega⟩
      case round =>
        obtain ⟨x, s, y, rfl, rfl, hs, hx0, hxX, HX, hy⟩ := hrel
        by_cases hst : s < t
        · obtain ⟨x', hx'⟩ : ∃ x', x / 2 = x' := ⟨_, rfl⟩
          have h2 : x = 2 * (m * 2 ^ (t - (s + 1))) := by
            rw [HX.out, show t - s = (t - (s + 1)) + 1 by omega, M.p2s]
            ac_rfl
          have HX3 : Hid (x' = m * 2 ^ (t - (s + 1))) := by show _ = _; omega
          have q1 : (x : Int) % 2 = 0 := by omega
          have q2 : (x : Int) / 2 = (x' : Int) := by omega
          have q3 : x' < x ∧ 0 < x' := by omega
          have HY : Hid (y + 1 = S + (s + 1 : Nat)) := by show _ = _; omega
          have yb : -2100 ≤ y ∧ y ≤ 6300 := by omega
          clear h2 hx' HX hy
          go_wp2_with fail
          go_round
          case rel => exact ⟨x', s + 1, y + 1, rfl, by go_num, hst, q3.2, by omega, HX3, HY.out⟩
          case measure => simp [intOf]; omega
        · obtain rfl : x = m := by rw [HX.out, show t - s = 0 by omega]; simp
          have q1 : (x : Int) % 2 = 1 := by omega
          obtain rfl : y = z := by have := Hz.out; omega
          clear HX hy Hz Hm
          go_wp2_with fail
          go_ret2
          exact ⟨rfl, U⟩
  · have f1 : decide (0 < (f : Int)) = true := decide_eq_true (by omega)
    have f2 := hX2.2 (by omega)
    have f3 : (a : Int) + (P : Int) = (X : Int) := by omega
    have e1 := hS2.2 (by omega)
    clear hX2 hS2
    go_enter Tryz.func111, Tryz.ntmps111
    go_wp2_with fail
    refine (CS.out _).mono ?_
    rintro _ w1 ⟨rfl, U⟩
    go_wp2_with fail
    refine (CP.out _).mono ?_
    rintro _ _ ⟨rfl, rfl⟩
    rcases (show X = 0 ∨ 0 < X by omega) with x0 | x0
    · subst x0
      obtain ⟨rfl, rfl⟩ : m = 0 ∧ z = 0 := by
        rcases HM.out with ⟨_, h2, h3⟩ | ⟨h1, t, h2, h3⟩
        · exact ⟨h2, h3⟩
        · have := Nat.mul_pos (show 0 < m by omega) (M.p2 t)
          omega
      clear HM
      go_wp2_with fail
      go_ret2
      exact ⟨rfl, U⟩
    · obtain ⟨t, ho, hm, hz⟩ : ∃ t : Nat, m % 2 = 1 ∧ X = m * 2 ^ t ∧ z = S + t := by
        rcases HM.out with ⟨h1, _, _⟩ | ⟨h1, t, h2, h3⟩
        · omega
        · exact ⟨t, h1, h2, h3⟩
      have Hm := Lib.hid hm
      have Hz := Lib.hid hz
      have t64 : t < 64 := by
        have p3 : 2 ^ t ≤ m * 2 ^ t := Nat.le_mul_of_pos_left _ (by omega)
        exact M.p2inj (by have : (2 : Nat) ^ 64 = 18446744073709551616 := by decide
                          omega)
      have x1 : ((X : Int) == 0) = false := by rw [beq_eq_false_iff_ne]; omega
      clear hm hz HM
      go_wp2_with fail
      go_loop [9, 10] (fun xv ev => ∃ (x s : Nat) (y : Int), xv = u64 x ∧ ev = .int .i64 y ∧ s ≤ t ∧ 0 < x ∧ x ≤ X ∧ Hid (x = m * 2 ^ (t - s)) ∧ y = S + s) (fun xv _ => (intOf xv).toNat)
      case atStart => exact ⟨X, 0, S, by first | rfl | go_num, by first | rfl | go_num, Nat.zero_le _, x0, Nat.le_refl _, by show _ = _; rw [Hm.out]; rfl, by omega⟩
      case round =>
        obtain ⟨x, s, y, rfl, rfl, hs, hx0, hxX, HX, hy⟩ := hrel
        by_cases hst : s < t
        · obtain ⟨x', hx'⟩ : ∃ x', x / 2 = x' := ⟨_, rfl⟩
          have h2 : x = 2 * (m * 2 ^ (t - (s + 1))) := by
            rw [HX.out, show t - s = (t - (s + 1)) + 1 by omega, M.p2s]
            ac_rfl
          have HX3 : Hid (x' = m * 2 ^ (t - (s + 1))) := by show _ = _; omega
          have q1 : (x : Int) % 2 = 0 := by omega
          have q2 : (x : Int) / 2 = (x' : Int) := by omega
          have q3 : x' < x ∧ 0 < x' := by omega
          have HY : Hid (y + 1 = S + (s + 1 : Nat)) := by show _ = _; omega
          have yb : -2100 ≤ y ∧ y ≤ 6300 := by omega
          clear h2 hx' HX hy
          go_wp2_with fail
          go_round
          case rel => exact ⟨x', s + 1, y + 1, rfl, by go_num, hst, q3.2, by omega, HX3, HY.out⟩
          case measure => simp [intOf]; omega
        · obtain rfl : x = m := by rw [HX.out, show t - s = 0 by omega]; simp
          have q1 : (x : Int) % 2 = 1 := by omega
          obtain rfl : y = z := by have := Hz.out; omega
          clear HX hy Hz Hm
          go_wp2_with fail
          go_ret2
          exact ⟨rfl, U⟩
end Go.Proofs.YtijpffgocookaaaGreatDoor
