/-
  Forms: the table, masks, signs, and what a pattern is told to be: contracts of package forms.
-/
import Derived.Test.YtekmlhgnfjgebaaDoorMem
namespace Go.Proofs.YtekmlhgnfjgebaaDoor
open Go.RowKit

namespace M
/-- A form: its kind, its width, and so on. -/
structure Fm where
  k : Int
  W : Int
  m : Int
  b : Int
  t : Int
  n : Int
  x : Int
def tb : Nat → Fm
  | 1 => ⟨1, 8, 0, 0, 127, 0, 128⟩
  | 2 => ⟨1, 16, 0, 0, 32767, 0, 32768⟩
  | 3 => ⟨1, 32, 0, 0, 2147483647, 0, 2147483648⟩
  | 4 => ⟨1, 64, 0, 0, 9223372036854775807, 0, 9223372036854775808⟩
  | 5 => ⟨2, 8, 3, 7, 126, 0, 127⟩
  | 6 => ⟨2, 8, 2, 15, 123, 124, 126⟩
  | 7 => ⟨2, 6, 2, 3, 31, 0, 0⟩
  | 8 => ⟨2, 6, 3, 1, 31, 0, 0⟩
  | 9 => ⟨2, 4, 1, 1, 7, 0, 0⟩
  | 10 => ⟨3, 8, 6, 0, 127, 0, 0⟩
  | 11 => ⟨4, 8, 0, 127, 254, 0, 255⟩
  | 12 => ⟨2, 16, 10, 15, 31743, 31744, 32256⟩
  | 13 => ⟨2, 32, 23, 127, 2139095039, 2139095040, 2143289344⟩
  | 14 => ⟨2, 64, 52, 1023, 9218868437227405311, 9218868437227405312, 9221120237041090560⟩
  | _ => ⟨0, 0, 0, 0, 0, 0, 0⟩
def msk (f : Fm) : Int := 2 ^ f.W.toNat - 1
def half (f : Fm) : Int := 2 ^ (f.W.toNat - 1)
def sgn (f : Fm) : Int := if f.k = 4 then 0 else half f
/-- The magnitude is none of a number, nor infinite. -/
def bey (f : Fm) (q : Int) : Bool := decide (f.t < q) && decide (q ≠ f.n)
/-- Fits of a form. -/
def er (i : Nat) (p : Int) : Int := if p ≤ msk (tb i) then 0 else 1
def cn (i : Nat) (p : Int) : Int := if (tb i).k = 2 ∧ bey (tb i) (p % half (tb i)) = true then (tb i).x else p

theorem all14 {p : Nat → Prop} (h1 : p 1) (h2 : p 2) (h3 : p 3) (h4 : p 4) (h5 : p 5) (h6 : p 6) (h7 : p 7) (h8 : p 8) (h9 : p 9) (h10 : p 10) (h11 : p 11) (h12 : p 12) (h13 : p 13) (h14 : p 14)
    (i : Nat) (a : 1 ≤ i) (b : i ≤ 14) : p i := by
  rcases (show i = 1 ∨ i = 2 ∨ i = 3 ∨ i = 4 ∨ i = 5 ∨ i = 6 ∨ i = 7 ∨ i = 8 ∨ i = 9 ∨ i = 10 ∨ i = 11 ∨ i = 12 ∨ i = 13 ∨ i = 14 by omega) with rfl | rfl | rfl | rfl | rfl | rfl | rfl | rfl | rfl | rfl | rfl | rfl | rfl | rfl <;> assumption

/-- What the fields of a form may be. -/
structure Ok (f : Fm) : Prop where
  W : f.W = 4 ∨ f.W = 6 ∨ f.W = 8 ∨ f.W = 16 ∨ f.W = 32 ∨ f.W = 64
  k : f.k = 1 ∨ f.k = 2 ∨ f.k = 3 ∨ f.k = 4
  hm : 0 < half f ∧ msk f = 2 * half f - 1 ∧ half f ≤ 9223372036854775808
  t : 0 < f.t ∧ f.t ≤ msk f
  n : 0 ≤ f.n ∧ f.n ≤ msk f
  x : 0 ≤ f.x ∧ f.x ≤ msk f
  two : f.k = 2 → f.t < half f ∧ f.x < half f ∧ (f.x = 0 → f.t + 1 = half f) ∧ (f.x ≠ 0 → f.t < f.x ∧ f.x ≠ f.n)
theorem ok (i : Nat) (a : 1 ≤ i) (b : i ≤ 14) : Ok (tb i) := by
  refine all14 (p := fun i => Ok (tb i)) ?_ ?_ ?_ ?_ ?_ ?_ ?_ ?_ ?_ ?_ ?_ ?_ ?_ ?_ i a b <;> exact ⟨by decide, by decide, by decide, by decide, by decide, by decide, by decide⟩

theorem and_not_low (n p : Nat) (hp : p < 18446744073709551616) (hn : n ≤ 64) : p &&& (18446744073709551615 - (2 ^ n - 1)) = p - p % 2 ^ n := by
  have e : 18446744073709551615 - (2 ^ n - 1) = (2 ^ (64 - n) - 1) * 2 ^ n := by
    have h : 2 ^ (64 - n) * 2 ^ n = 18446744073709551616 := by rw [← Nat.pow_add, show 64 - n + n = 64 by omega]
    have h2 := Nat.pow_pos (n := n) (show 0 < 2 by decide)
    rw [Nat.sub_mul, h]
    omega
  apply Nat.eq_of_testBit_eq
  intro j
  have hd : p - p % 2 ^ n = (p / 2 ^ n) * 2 ^ n := by have := Nat.div_add_mod p (2 ^ n); rw [Nat.mul_comm (p / 2 ^ n)]; omega
  rw [Nat.testBit_and, e, hd, Nat.testBit_mul_two_pow, Nat.testBit_mul_two_pow, Nat.testBit_two_pow_sub_one, Nat.testBit_div_two_pow]
  by_cases hj : n ≤ j
  · by_cases hk : j - n < 64 - n
    · simp [hj, hk, show j - n + n = j by omega]
    · have : p.testBit j = false := by
        apply Nat.testBit_lt_two_pow
        have : 2 ^ 64 ≤ 2 ^ j := Nat.pow_le_pow_right (by decide) (by omega)
        have h64 : (2 : Nat) ^ 64 = 18446744073709551616 := by decide
        omega
      simp [hj, hk, this, show j - n + n = j by omega]
  · simp [hj]
theorem and_not_bit (n p : Nat) (hp : p < 2 ^ (n + 1)) (hn : n < 64) : p &&& (18446744073709551615 - 2 ^ n) = p % 2 ^ n := by
  apply Nat.eq_of_testBit_eq
  intro j
  have e : (18446744073709551615 - 2 ^ n).testBit j = (decide (j < 64) && !decide (n = j)) := by
    have h2 : (2 : Nat) ^ n < 2 ^ 64 := Nat.pow_lt_pow_right (by decide) hn
    have h : 18446744073709551615 - 2 ^ n = 2 ^ 64 - (2 ^ n + 1) := by
      have h64 : (2 : Nat) ^ 64 = 18446744073709551616 := by decide
      omega
    rw [h, Nat.testBit_two_pow_sub_succ h2, Nat.testBit_two_pow]
  rw [Nat.testBit_and, e, Nat.testBit_mod_two_pow]
  by_cases h : j < n
  · simp [h, show j < 64 by omega, show ¬ n = j by omega]
  · by_cases h2 : n = j
    · simp [h2]
    · have : p.testBit j = false := by
        apply Nat.testBit_lt_two_pow
        have : 2 ^ (n + 1) ≤ 2 ^ j := Nat.pow_le_pow_right (by decide) (by omega)
        omega
      simp [h, this]
end M

/-- A form as a value. -/
abbrev fv (f : M.Fm) : Value := .agg #[.int .i64 f.k, .int .i64 f.W, .int .i64 f.m, .int .i64 f.b, .int .u64 f.t, .int .u64 f.n, .int .u64 f.x]
/-- What a call comes to that makes a word, or a number, or a bool; nothing that was there has turned. -/
def Wz (z : Int) (w : World) (e : Ending) (w' : World) : Prop := e = .returned (.int .u64 z) ∧ Up w w'
def Nz (z : Int) (w : World) (e : Ending) (w' : World) : Prop := e = .returned (.int .i64 z) ∧ Up w w'
def Bz (t : Bool) (w : World) (e : Ending) (w' : World) : Prop := e = .returned (.bool t) ∧ Up w w'
def Wn (z y : Int) (w : World) (e : Ending) (w' : World) : Prop := e = .returned (.tuple #[.int .u64 z, .int .i64 y]) ∧ Up w w'
def Fn (f : M.Fm) (y : Int) (w : World) (e : Ending) (w' : World) : Prop := e = .returned (.tuple #[fv f, .int .i64 y]) ∧ Up w w'
def Fb (f : M.Fm) (t : Bool) (w : World) (e : Ending) (w' : World) : Prop := e = .returned (.tuple #[fv f, .bool t]) ∧ Up w w'
def Fo (f : M.Fm) (w : World) (e : Ending) (w' : World) : Prop := e = .returned (fv f) ∧ Up w w'

set_option maxHeartbeats 1000000 in
theorem mask_any (w : World) (f : M.Fm) (hf : M.Ok f) (M' : Int) (hM : Hid (M.msk f = M')) : Calls Tryd.prog 11 #[fv f] w (Wz M' w) := by
  obtain ⟨k, W, m, b, t, n, x⟩ := f
  have h := hf.W
  clear hf
  simp only at h
  rcases h with rfl | rfl | rfl | rfl | rfl | rfl <;>
  · go_enter Tryd.func11, Tryd.ntmps11
    go_wp2_with fail
    go_ret
    exact ⟨ret_int (by rw [← hM.out]; rfl), (Up.refl _).alloc _⟩
set_option maxHeartbeats 1000000 in
theorem sign_any (w : World) (f : M.Fm) (hf : M.Ok f) (S : Int) (hS : Hid (M.sgn f = S)) : Calls Tryd.prog 13 #[fv f] w (Wz S w) := by
  by_cases hk : f.k = 4
  · have d : decide (f.k = 4) = true := decide_eq_true hk
    obtain ⟨k, W, m, b, t, n, x⟩ := f
    simp only at hk d
    subst hk
    go_enter Tryd.func13, Tryd.ntmps13
    go_wp2_with fail
    go_ret
    exact ⟨ret_int (by rw [← hS.out]; rfl), (Up.refl _).alloc _⟩
  · obtain ⟨M', hM⟩ : ∃ z, M.msk f = z := ⟨_, rfl⟩
    have h := hf.W
    have mask := mask_any (w.alloc (.cells (fv f).cells 25)) f hf M' hM
    have e : Hid (bits .xor .u64 M' (M' / 2) = S) := by
      show _ = _
      rw [← hM, ← hS.out, M.sgn, if_neg hk]
      unfold M.msk M.half
      rcases h with h | h | h | h | h | h <;> rw [h] <;> decide
    clear hM h hS hf
    have MASK := Lib.hid mask
    clear mask
    have d : (f.k == 4) = false := by simpa using hk
    obtain ⟨k, W, m, b, t, n, x⟩ := f
    simp only at hk d
    go_enter Tryd.func13, Tryd.ntmps13
    go_wp2_with fail
    refine MASK.out.mono ?_
    rintro _ w1 ⟨rfl, u1⟩
    have U := ((Up.refl w).alloc (.cells #[.int .i64 k, .int .i64 W, .int .i64 m, .int .i64 b, .int .u64 t, .int .u64 n, .int .u64 x] 25)).trans u1
    clear u1
    go_wp2_with fail
    go_ret
    exact ⟨ret_int e.out, U⟩
/-- Seven cells that hold a form, from the address on. -/
def Cs (w : World) (b o : Nat) (f : M.Fm) : Prop :=
  w.cell? ⟨b, o, none⟩ = some (.int .i64 f.k) ∧ w.cell? ⟨b, o + 1, none⟩ = some (.int .i64 f.W) ∧ w.cell? ⟨b, o + 2, none⟩ = some (.int .i64 f.m) ∧ w.cell? ⟨b, o + 3, none⟩ = some (.int .i64 f.b) ∧ w.cell? ⟨b, o + 4, none⟩ = some (.int .u64 f.t) ∧ w.cell? ⟨b, o + 5, none⟩ = some (.int .u64 f.n) ∧ w.cell? ⟨b, o + 6, none⟩ = some (.int .u64 f.x)
theorem Cs.lt {w : World} {b o : Nat} {f : M.Fm} (h : Cs w b o f) : b < w.heap.size := World.block_lt_of_cell? _ _ h.1
theorem Cs.up {w w' : World} {b o : Nat} {f : M.Fm} (h : Cs w b o f) (hu : Up w w') : Cs w' b o f := by
  have hl := h.lt
  obtain ⟨h0, h1, h2, h3, h4, h5, h6⟩ := h
  exact ⟨by rw [Below.cell hu hl]; exact h0, by rw [Below.cell hu hl]; exact h1, by rw [Below.cell hu hl]; exact h2, by rw [Below.cell hu hl]; exact h3, by rw [Below.cell hu hl]; exact h4, by rw [Below.cell hu hl]; exact h5, by rw [Below.cell hu hl]; exact h6⟩
/-- The variable table holds the table. -/
def TabF (w : World) : Prop := ∀ i, i < 15 → Cs w 0 (i * 7) (M.tb i)
theorem TabF.up {w w' : World} (h : TabF w) (hu : Up w w') : TabF w' := fun i hi => (h i hi).up hu
set_option maxHeartbeats 1000000 in
theorem of_in (w : World) (hF : TabF w) (i : Nat) (f : M.Fm) (hf : Hid (M.tb i = f)) (h1 : 1 ≤ i) (h2 : i ≤ 14) : Calls Tryd.prog 9 #[.int .i64 (i : Int)] w (Fn f 0 w) := by
  have c := hF i (by omega)
  rw [hf.out] at c
  have s0 := c.lt
  obtain ⟨c0, c1, c2, c3, c4, c5, c6⟩ := c
  obtain ⟨k, W, m, b, t, n, x⟩ := f
  simp only at c0 c1 c2 c3 c4 c5 c6
  have d1 : decide ((i : Int) < 1) = false := decide_eq_false (by omega)
  have d2 : decide (15 ≤ (i : Int)) = false := decide_eq_false (by omega)
  clear hf hF
  go_enter Tryd.func9, Tryd.ntmps9
  go_wp2_with fail
  refine bodyPost_ret (v := .tuple #[fv ⟨k, W, m, b, t, n, x⟩, .int .i64 0]) (by simp [results, Tryd.results9, go_sem]) rfl ?_
  exact ⟨rfl, (Up.refl _).alloc _⟩
end Go.Proofs.YtekmlhgnfjgebaaDoor
