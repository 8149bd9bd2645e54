/-
  Plain facts on dividing two words by one, digit by digit: no program is named here.
-/
import Derived.Test.YtdokioefcfcfnaaDoorMath2
namespace Go.Proofs.YtdokioefcfcfnaaDoor.M

section
variable {U Y a b d q r : Nat}
theorem guess_done (hY : Y = a * 4294967296 + b) (hq : q * a + r = U) (hge : (U * 4294967296 + d) / Y ≤ q) (hY0 : 0 < Y) (hc : q * b ≤ 4294967296 * r + d) : q = (U * 4294967296 + d) / Y := by
  refine Nat.le_antisymm ((Nat.le_div_iff_mul_le hY0).2 ?_) hge
  rw [hY, Nat.mul_add, ← Nat.mul_assoc, ← hq]
  omega
theorem guess_more (hY : Y = a * 4294967296 + b) (hq : q * a + r = U) (hY0 : 0 < Y) (hc : 4294967296 * r + d < q * b) : (U * 4294967296 + d) / Y < q := by
  refine (Nat.div_lt_iff_lt_mul hY0).2 ?_
  rw [hY, Nat.mul_add, ← Nat.mul_assoc, ← hq]
  omega
theorem guess_big (hU : U < Y) (hd : d < 4294967296) (hc : 4294967296 ≤ q) : (U * 4294967296 + d) / Y < q := by
  refine Nat.lt_of_lt_of_le (Nat.div_lt_of_lt_mul ?_) hc
  omega
theorem guess_start (hY : Y = a * 4294967296 + b) (ha : 0 < a) (hd : d < 4294967296) : (U * 4294967296 + d) / Y ≤ U / a := by
  refine (Nat.le_div_iff_mul_le ha).2 ?_
  generalize hQ : (U * 4294967296 + d) / Y = Q
  have h1 : Q * Y ≤ U * 4294967296 + d := by rw [← hQ]; exact Nat.div_mul_le_self _ _
  clear hQ
  rw [hY, Nat.mul_add, ← Nat.mul_assoc] at h1
  generalize Q * a = p at *
  omega
theorem guess_start_le (hY : Y = a * 4294967296 + b) (hb : b < 4294967296) (ha : 2147483648 ≤ a) (hU : U < Y) : U / a ≤ 4294967297 := by
  have h1 : U < a * 4294967298 := by omega
  have := Nat.div_lt_of_lt_mul h1
  omega
theorem guess_break (hY : Y = a * 4294967296 + b) (hb : b < 4294967296) (hq : q * a + r = U) (hge : (U * 4294967296 + d) / Y ≤ q) (hY0 : 0 < Y) (hqs : q ≤ 4294967296) (hr : 4294967296 ≤ r) : q = (U * 4294967296 + d) / Y := by
  refine guess_done hY hq hge hY0 ?_
  have : q * b ≤ 4294967296 * 4294967295 := Nat.mul_le_mul hqs (by omega)
  omega
/-- A step of the guess. -/
theorem guess_pred (hq : (q + 1) * a + r = U) : q * a + (r + a) = U := by
  rw [Nat.add_mul] at hq; omega

/-- What the guessing knows of its digit and its remainder. -/
structure Guess (U Y a b d q r : Nat) : Prop where
  eq : q * a + r = U
  ge : (U * 4294967296 + d) / Y ≤ q
  le : q ≤ 4294967297
/-- What the divisor is. -/
structure Divr (Y a b : Nat) : Prop where
  eq : Y = a * 4294967296 + b
  lo : b < 4294967296
  hi : 2147483648 ≤ a
  hi' : a < 4294967296
theorem Divr.pos (h : Divr Y a b) : 0 < Y := by have := h.eq; have := h.hi; omega
theorem Divr.of (h1 : 9223372036854775808 ≤ Y) (h2 : Y < 18446744073709551616) : Divr Y (Y / 4294967296) (Y % 4294967296) := ⟨by omega, by omega, by omega, by omega⟩
theorem Guess.start (hD : Divr Y a b) (hU : U < Y) (hd : d < 4294967296) : Guess U Y a b d (U / a) (U - U / a * a) := by
  refine ⟨?_, guess_start hD.eq (by have := hD.hi; omega) hd, guess_start_le hD.eq hD.lo hD.hi hU⟩
  have := Nat.div_mul_le_self U a
  omega
theorem Guess.rest_lt (hD : Divr Y a b) : U - U / a * a < a := by
  have h1 := Nat.mod_lt U (show 0 < a by have := hD.hi; omega)
  have h2 := Nat.div_add_mod U a
  rw [Nat.mul_comm] at h2
  omega
theorem Guess.next (h : Guess U Y a b d q r) (hlt : (U * 4294967296 + d) / Y < q) : Guess U Y a b d (q - 1) (r + a) := by
  obtain ⟨h1, h2, h3⟩ := h
  obtain ⟨p, rfl⟩ : ∃ p, q = p + 1 := ⟨q - 1, by have := Nat.lt_of_le_of_lt (Nat.zero_le _) hlt; omega⟩
  exact ⟨by rw [Nat.add_sub_cancel]; exact guess_pred h1, by rw [Nat.add_sub_cancel]; exact Nat.le_of_lt_succ hlt, by omega⟩
theorem Guess.done (h : Guess U Y a b d q r) (hD : Divr Y a b) (hc : q * b ≤ 4294967296 * r + d) : q = (U * 4294967296 + d) / Y := guess_done hD.eq h.eq h.ge hD.pos hc
theorem Guess.more (h : Guess U Y a b d q r) (hD : Divr Y a b) (hc : 4294967296 * r + d < q * b) : (U * 4294967296 + d) / Y < q := guess_more hD.eq h.eq hD.pos hc
theorem Guess.stop (h : Guess U Y a b d q r) (hD : Divr Y a b) (hqs : q ≤ 4294967296) (hr : 4294967296 ≤ r) : q = (U * 4294967296 + d) / Y := guess_break hD.eq hD.lo h.eq h.ge hD.pos hqs hr
theorem digit_lt (hU : U < Y) (hd : d < 4294967296) : (U * 4294967296 + d) / Y < 4294967296 := guess_big hU hd (Nat.le_refl _)
end

/-- Two words by one: shifted, the quotient is the same, what is left is shifted. -/
theorem div_shift (x y p : Nat) (hp : 0 < p) : x * p / (y * p) = x / y ∧ x * p % (y * p) = x % y * p :=
  ⟨Nat.mul_div_mul_right _ _ hp, Nat.mul_mod_mul_right _ _ _⟩
/-- Two digits, one behind the other. -/
theorem div_two (U u1 u0 Y : Nat) (hY : 0 < Y) :
    (U * 18446744073709551616 + (u1 * 4294967296 + u0)) / Y = (U * 4294967296 + u1) / Y * 4294967296 + ((U * 4294967296 + u1) % Y * 4294967296 + u0) / Y ∧
    (U * 18446744073709551616 + (u1 * 4294967296 + u0)) % Y = ((U * 4294967296 + u1) % Y * 4294967296 + u0) % Y := by
  have e : U * 18446744073709551616 + (u1 * 4294967296 + u0) = ((U * 4294967296 + u1) % Y * 4294967296 + u0) + Y * ((U * 4294967296 + u1) / Y * 4294967296) := by
    have := Nat.div_add_mod (U * 4294967296 + u1) Y
    rw [← Nat.mul_assoc]
    omega
  rw [e, Nat.add_mul_div_left _ _ hY, Nat.add_mul_mod_self_left]
  exact ⟨Nat.add_comm _ _, rfl⟩

/-- The shifted words: the higher one. -/
theorem shift_hi {hi lo y s : Nat} (hs : s ≤ 63) (hh : hi < y) (hlo : lo < 18446744073709551616) (hy : y * 2 ^ s < 18446744073709551616) :
    (hi * 18446744073709551616 + lo) * 2 ^ s = (hi * 2 ^ s + lo / 2 ^ (64 - s)) * 18446744073709551616 + lo * 2 ^ s % 18446744073709551616 ∧ hi * 2 ^ s + lo / 2 ^ (64 - s) < y * 2 ^ s ∧ hi * 2 ^ s < 18446744073709551616 ∧ lo / 2 ^ (64 - s) < 2 ^ s := by
  have e : (18446744073709551616 : Nat) = 2 ^ s * 2 ^ (64 - s) := by
    rw [← Nat.pow_add, show s + (64 - s) = 64 from by omega]
  have hp : 0 < 2 ^ s := Nat.pow_pos (by omega)
  have hlt : lo / 2 ^ (64 - s) < 2 ^ s := by
    refine Nat.div_lt_of_lt_mul ?_
    rw [Nat.mul_comm, ← e]; exact hlo
  have h1 : (hi + 1) * 2 ^ s ≤ y * 2 ^ s := Nat.mul_le_mul_right _ hh
  rw [Nat.add_mul, Nat.one_mul] at h1
  have h2 : lo * 2 ^ s / 18446744073709551616 = lo / 2 ^ (64 - s) := by
    rw [e, Nat.mul_comm (2 ^ s), Nat.mul_div_mul_right _ _ hp]
  have h3 := Nat.div_add_mod (lo * 2 ^ s) 18446744073709551616
  rw [h2] at h3
  refine ⟨?_, by omega, by omega, hlt⟩
  rw [Nat.add_mul, Nat.mul_right_comm, Nat.add_mul]
  omega
end Go.Proofs.YtdokioefcfcfnaaDoor.M
