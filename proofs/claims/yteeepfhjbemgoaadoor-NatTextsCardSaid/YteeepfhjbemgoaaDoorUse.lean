/-
  The calls of package nat, as the laws' walks use them.
-/
import Derived.Test.YteeepfhjbemgoaaDoorFirst
import Derived.Test.YteeepfhjbemgoaaDoorShl
import Derived.Test.YteeepfhjbemgoaaDoorLong
import Derived.Test.YteeepfhjbemgoaaDoorShown
namespace Go.Proofs.YteeepfhjbemgoaaDoor
open Go.RowKit Go.Shelf

/-- Add, of numbers of at most so many words each. -/
theorem add_of (w : World) (lo lo' s s' S : Nat) (v v' : Value) (a b : Nat) (h : Nw w lo s v a) (h' : Nw w lo' s' v' b) (h1 : s ≤ S) (h2 : s' ≤ S) (hS : S ≤ 1000000000) :
    Calls Tryd.prog 25 #[v, v'] w (Res (S + 1) (a + b) w) := add_any w lo lo' S v v' a b (h.more h1) (h'.more h2) hS
/-- Cmp, of equal numbers. -/
theorem cmp_same (w : World) (lo lo' s s' : Nat) (v v' : Value) (a b : Nat) (h : Nw w lo s v a) (h' : Nw w lo' s' v' b) (e : a = b) :
    Calls Tryd.prog 35 #[v, v'] w (Val (.int .i64 0) w) := by
  have := cmp_any w lo lo' s s' v v' a b h h'
  rwa [M.cmp_eq e] at this
/-- Sub, of no more than there is. -/
theorem sub_ok (w : World) (lo lo' s s' : Nat) (v v' : Value) (a b : Nat) (h : Nw w lo s v a) (h' : Nw w lo' s' v' b) (e : b ≤ a) :
    Calls Tryd.prog 24 #[v, v'] w (Opt s (a - b) true w) := by
  have := sub_any w lo lo' s s' v v' a b h h'
  rwa [decide_eq_true e] at this

namespace M
theorem cmp_le {a b : Nat} : cmp a b ≤ 0 ↔ a ≤ b := by
  rcases Nat.lt_trichotomy a b with h | h | h
  · rw [cmp_lt h]; omega
  · rw [cmp_eq h]; omega
  · rw [cmp_gt h]; omega
theorem cmp_swap (a b : Nat) : cmp b a = -cmp a b := by
  rcases Nat.lt_trichotomy a b with h | h | h
  · rw [cmp_lt h, cmp_gt h]; rfl
  · rw [cmp_eq h, cmp_eq h.symm]; rfl
  · rw [cmp_gt h, cmp_lt h]
theorem cmp_rng (a b : Nat) : -1 ≤ cmp a b ∧ cmp a b ≤ 1 := by
  rcases Nat.lt_trichotomy a b with h | h | h
  · rw [cmp_lt h]; omega
  · rw [cmp_eq h]; omega
  · rw [cmp_gt h]; omega
theorem cmp_plus (a b c : Nat) : cmp (a + c) (b + c) = cmp a b := by
  rcases Nat.lt_trichotomy a b with h | h | h
  · rw [cmp_lt h, cmp_lt (by omega)]
  · rw [cmp_eq h, cmp_eq (by omega)]
  · rw [cmp_gt h, cmp_gt (by omega)]
theorem cmp_times (a b c : Nat) (hc : 0 < c) : cmp (a * c) (b * c) = cmp a b := by
  rcases Nat.lt_trichotomy a b with h | h | h
  · rw [cmp_lt h, cmp_lt (Nat.mul_lt_mul_of_pos_right h hc)]
  · rw [cmp_eq h, cmp_eq (by rw [h])]
  · rw [cmp_gt h, cmp_gt (Nat.mul_lt_mul_of_pos_right h hc)]
end M
/-- Cmp, where it is known what it tells. -/
theorem cmp_at (w : World) (lo lo' s s' : Nat) (v v' : Value) (a b : Nat) (z : Int) (h : Nw w lo s v a) (h' : Nw w lo' s' v' b) (e : Hid (M.cmp a b = z)) :
    Calls Tryd.prog 35 #[v, v'] w (Val (.int .i64 z) w) := by
  have := cmp_any w lo lo' s s' v v' a b h h'
  rwa [e.out] at this
/-- Bits, where it is known what it tells. -/
theorem bits_at (w : World) (lo s : Nat) (v : Value) (a : Nat) (z : Int) (h : Nw w lo s v a) (e : Hid (M.bits a = z)) : Calls Tryd.prog 37 #[v] w (Same (.int .i64 z) w) := by
  have := bits_any w lo s v a h
  rwa [e.out] at this

namespace M
theorem bit_on {a k : Nat} (h : a.testBit k = true) : a % 2 ^ (k + 1) = a % 2 ^ k + 1 * 2 ^ k := by
  rw [Nat.testBit_eq_decide_div_mod_eq, decide_eq_true_iff] at h
  rw [Nat.pow_succ, Nat.mod_mul, h, Nat.mul_one, Nat.one_mul]
theorem bit_off {a k : Nat} (h : a.testBit k = false) : a % 2 ^ (k + 1) = a % 2 ^ k := by
  rw [Nat.testBit_eq_decide_div_mod_eq, decide_eq_false_iff_not] at h
  rw [Nat.pow_succ, Nat.mod_mul, show a / 2 ^ k % 2 = 0 from by omega, Nat.mul_zero, Nat.add_zero]
theorem bit_below {a k : Nat} (h : a.testBit k = true) : k < bits a := by
  rcases Nat.lt_or_ge k (bits a) with h1 | h1
  · exact h1
  · exfalso
    have h2 : a < 2 ^ k := Nat.lt_of_lt_of_le (bits_lt a) (Nat.pow_le_pow_right (by omega) h1)
    rw [Nat.testBit_lt_two_pow h2] at h
    cases h
theorem bit_top {a y : Nat} (h : bits a = y + 1) : a.testBit y = true := by
  have h0 : a ≠ 0 := by intro e; rw [e, bits_zero] at h; omega
  have h1 := bits_le h0
  have h2 := bits_lt a
  rw [h] at h1 h2
  rw [Nat.testBit_eq_decide_div_mod_eq, decide_eq_true_iff]
  have h3 : a / 2 ^ y = 1 := by
    apply Nat.div_eq_of_lt_le
    · simpa using h1
    · rw [Nat.pow_succ] at h2; omega
  rw [h3]
theorem bits_all {a y : Nat} (h : bits a = y) : a % 2 ^ (y + 5) = a := by
  apply Nat.mod_eq_of_lt
  have h1 := bits_lt a
  rw [h] at h1
  exact Nat.lt_of_lt_of_le h1 (Nat.pow_le_pow_right (by omega) (by omega))
theorem bits_words {a : Nat} (k : Nat) (h : a < 18446744073709551616 ^ k) : bits a ≤ 64 * k := by
  apply bits_le_of_lt
  rw [Nat.pow_mul]
  exact h
end M
/-- Bit, where it is known what it tells. -/
theorem bit_at (w : World) (lo s : Nat) (v : Value) (a : Nat) (h : Nw w lo s v a) (k : Nat) (K : Int) (hK : K = (k : Int)) (hk : k ≤ 1000000000000000) (t : Bool) (e : Hid (a.testBit k = t)) : Calls Tryd.prog 51 #[v, .int .i64 K] w (Same (.bool t) w) := by
  subst hK
  have := bit_nat w lo s v a h k hk
  rwa [e.out] at this
theorem even_at (w : World) (lo s : Nat) (v : Value) (a : Nat) (h : Nw w lo s v a) (t : Bool) (e : Hid (a.testBit 0 = t)) : Calls Tryd.prog 55 #[v] w (Same (.bool (!t)) w) := by
  have := even_any w lo s v a h
  rwa [e.out] at this
theorem bits_at2 (w : World) (lo s : Nat) (v : Value) (a : Nat) (z : Int) (h : Nw w lo s v a) (e : Hid ((M.bits a : Int) = z)) : Calls Tryd.prog 37 #[v] w (Same (.int .i64 z) w) := by
  have := bits_any w lo s v a h
  rwa [e.out] at this

theorem wf_u64 {x : Int} (h : (Lit.int .u64 x).wf = true) : ∃ n : Nat, x = (n : Int) ∧ n < 18446744073709551616 := by
  have h6 : (0 : Int) ≤ x ∧ x ≤ 18446744073709551615 := by simpa [Lit.wf, IntKind.min, IntKind.max, IntKind.signed, IntKind.bits] using h
  exact ⟨x.toNat, by omega, by omega⟩
theorem wf_i64 {x : Int} (h : (Lit.int .i64 x).wf = true) : -9223372036854775808 ≤ x ∧ x ≤ 9223372036854775807 := by
  simpa [Lit.wf, IntKind.min, IntKind.max, IntKind.signed, IntKind.bits] using h
theorem wf_u8 {x : Int} (h : (Lit.int .u8 x).wf = true) : ∃ n : Nat, x = (n : Int) ∧ n < 256 := by
  have h6 : (0 : Int) ≤ x ∧ x ≤ 255 := by simpa [Lit.wf, IntKind.min, IntKind.max, IntKind.signed, IntKind.bits] using h
  exact ⟨x.toNat, by omega, by omega⟩

theorem tmod_rng_of (x : Int) (m : Int) (hm : 0 < m) : ∃ r, x.tmod m = r ∧ -m < r ∧ r < m := by
  refine ⟨_, rfl, ?_, ?_⟩
  · rcases Int.le_total 0 x with h | h
    · rw [Int.tmod_eq_emod_of_nonneg h]; have := Int.emod_nonneg x (show m ≠ 0 by omega); omega
    · have e : x.tmod m = -((-x).tmod m) := by rw [Int.neg_tmod]; omega
      rw [e, Int.tmod_eq_emod_of_nonneg (by omega)]
      have := Int.emod_lt_of_pos (-x) hm
      omega
  · rcases Int.le_total 0 x with h | h
    · rw [Int.tmod_eq_emod_of_nonneg h]
      exact Int.emod_lt_of_pos x hm
    · have e : x.tmod m = -((-x).tmod m) := by rw [Int.neg_tmod]; omega
      rw [e, Int.tmod_eq_emod_of_nonneg (by omega)]
      have := Int.emod_nonneg (-x) (show m ≠ 0 by omega)
      omega
theorem lit1_ow (w : World) (x : Nat) (X : Int) (hX : X = (x : Int)) : Ow (w.alloc (.cells #[.int .u64 X] 41)) w.heap.size (.slice (some ⟨w.heap.size, 0, none⟩) 1 1) 1 [x] := by
  subst hX
  exact World.ownsRow_lit w #[u64 x] 1 (Nat.le_refl _) (by simp only [maxLen]; omega) rfl
theorem lit1_wd (w : World) (x : Nat) (X : Int) (hX : X = (x : Int)) (hx : x < 18446744073709551616) :
    Wd (w.alloc (.cells #[.int .u64 X] 41)) w.heap.size (some ⟨w.heap.size, 0, none⟩) 1 1 [x] :=
  Ow.wd_ (lit1_ow w x X hX) (M.Wds.cons hx M.Wds.nil) (by omega)
end Go.Proofs.YteeepfhjbemgoaaDoor
