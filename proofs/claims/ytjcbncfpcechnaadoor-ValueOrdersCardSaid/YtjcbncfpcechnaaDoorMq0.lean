/-
  Package mini: the field and the shift of a number; the small calls.
-/
import Derived.Test.YtjcbncfpcechnaaDoorMr
namespace Go.Proofs.YtjcbncfpcechnaaDoor
open Go.RowKit

theorem isMan_any (w : World) (x : Int) (b : Bool) (h : decide (0 ≤ x ∧ x ≤ 60) = b) : Calls Tryd.prog 84 #[.int .i64 x] w (Same (.bool b) w) := by
  by_cases h1 : 0 ≤ x
  · have d1 : decide (0 ≤ x) = true := decide_eq_true h1
    have d2 : decide (x ≤ 60) = b := by rw [← h]; simp [h1]
    clear h
    go_enter Tryd.func84, Tryd.ntmps84
    go_wp2_with fail
    go_ret
    exact ⟨by first | rfl | exact ret_bool d2, rfl⟩
  · have d1 : decide (0 ≤ x) = false := decide_eq_false h1
    obtain rfl : false = b := by rw [← h]; simp [h1]
    clear h
    go_enter Tryd.func84, Tryd.ntmps84
    go_wp2_with fail
    go_ret
    exact ⟨rfl, rfl⟩
theorem isBias_any (w : World) (x : Int) (b : Bool) (h : decide (-2000 ≤ x ∧ x ≤ 2000) = b) : Calls Tryd.prog 79 #[.int .i64 x] w (Same (.bool b) w) := by
  by_cases h1 : -2000 ≤ x
  · have d1 : decide (-2000 ≤ x) = true := decide_eq_true h1
    have d2 : decide (x ≤ 2000) = b := by rw [← h]; simp [h1]
    clear h
    go_enter Tryd.func79, Tryd.ntmps79
    go_wp2_with fail
    go_ret
    exact ⟨by first | rfl | exact ret_bool d2, rfl⟩
  · have d1 : decide (-2000 ≤ x) = false := decide_eq_false h1
    obtain rfl : false = b := by rw [← h]; simp [h1]
    clear h
    go_enter Tryd.func79, Tryd.ntmps79
    go_wp2_with fail
    go_ret
    exact ⟨rfl, rfl⟩
theorem unit_any (w : World) (p f : Nat) (b : Int) (hp : p ≤ 60) (b1 : -2000 ≤ b) (b2 : b ≤ 2000) (hf : f ≤ 100000) :
    Calls Tryd.prog 80 #[.int .i64 (p : Int), .int .i64 b, .int .i64 (f : Int)] w (Same (.int .i64 ((f : Int) - b - p)) w) := by
  go_enter Tryd.func80, Tryd.ntmps80
  go_wp2_with fail
  go_ret
  exact ⟨by first | rfl | exact ret_int (by omega), rfl⟩
theorem pow_small6 {p P : Nat} (h : 2 ^ p = P) (hp : p ≤ 63) : 0 < P ∧ P ≤ 9223372036854775808 := by
  rw [← h]
  have h1 := M.p2le (a := p) (b := 63) hp
  have h2 : (2 : Nat) ^ 63 = 9223372036854775808 := by decide
  exact ⟨M.p2 p, by omega⟩
namespace M
theorem bits_shl {m : Nat} (h : m ≠ 0) (t : Nat) : bits (m * 2 ^ t) = bits m + t := by
  have hb := bits_pos h
  have h1 := bits_le h
  have h2 := bits_lt m
  obtain ⟨c, hc⟩ : ∃ c, bits m = c + 1 := ⟨bits m - 1, by omega⟩
  rw [hc, Nat.add_sub_cancel] at h1
  rw [hc] at h2
  have p := p2 t
  rw [hc, bits_of (b := c + t)]
  · omega
  · rw [Nat.pow_add]; exact Nat.mul_le_mul_right _ h1
  · rw [show c + t + 1 = (c + 1) + t by omega, Nat.pow_add]
    exact Nat.mul_lt_mul_of_pos_right h2 p
theorem bits_ge {a k : Nat} (h : 2 ^ k ≤ a) : k + 1 ≤ bits a := by
  have := bits_lt a
  rcases Nat.lt_or_ge k (bits a) with h' | h'
  · omega
  · have := p2le h'; omega
/-- The field and the shift of a magnitude's odd part. -/
theorem key_nums {p k m : Nat} {b z : Int} (hk : k < 18446744073709551616) (ho : mok p b k) (h : IsM p b k m z) (h0 : m ≠ 0) :
    ∃ F t : Nat, 1 ≤ F ∧ F ≤ min 4095 (18446744073709551615 / 2 ^ p) ∧ max (b + z + (bits m : Int) - 1) 1 = (F : Int) ∧ z - ((F : Int) - b - p) = (t : Int) ∧ (F - 1) * 2 ^ p + m * 2 ^ t = k ∧ t < 62 := by
  obtain ⟨hp, hb1, hb2, h4⟩ := ho
  rcases h with ⟨_, h2, _⟩ | ⟨h1, t, h2, h3⟩
  · exact absurd h2 h0
  · have hl := mX_lt p k
    obtain ⟨e, hlow⟩ := key_parts p k
    have hbits := bits_shl h0 t
    rw [← h2] at hbits
    have hs := mS_eq p b k
    have h60 : 2 ^ p ≤ 2 ^ 60 := p2le hp
    have c60 : (2 : Nat) ^ 60 = 1152921504606846976 := by decide
    have hdiv : 1 ≤ 18446744073709551615 / 2 ^ p := by
      rw [Nat.le_div_iff_mul_le (p2 p)]; omega
    have hfd : k / 2 ^ p ≤ 18446744073709551615 / 2 ^ p := Nat.div_le_div_right (by omega)
    have t62 : t < 62 := p2inj (by have : (2 : Nat) ^ 62 = 4611686018427387904 := by decide
                                   have p3 : 2 ^ t ≤ m * 2 ^ t := Nat.le_mul_of_pos_left _ (by omega)
                                   omega)
    obtain ⟨f, hf⟩ : ∃ f, k / 2 ^ p = f := ⟨_, rfl⟩
    obtain ⟨a, ha⟩ : ∃ a, k % 2 ^ p = a := ⟨_, rfl⟩
    rw [hf, ha] at e
    rw [ha] at hlow
    rw [hf] at hs h4 hfd
    have hX : mX p k = if f = 0 then a else a + 2 ^ p := by unfold mX; rw [hf, ha]
    obtain ⟨P, hP⟩ : ∃ P, 2 ^ p = P := ⟨_, rfl⟩
    rcases (show f = 0 ∨ 0 < f by omega) with f0 | f0
    · subst f0
      rw [if_pos rfl] at hX
      have hb := bits_le_of_lt (a := mX p k) (k := p) (by omega)
      refine ⟨1, t, by omega, by omega, by omega, by omega, ?_, t62⟩
      rw [← h2, hX]; omega
    · rw [if_neg (by omega)] at hX
      have hb := bits_le_of_lt (a := mX p k) (k := p + 1) (by rw [p2s]; omega)
      have hb2 := bits_ge (a := mX p k) (k := p) (by omega)
      refine ⟨f, t, by omega, by omega, by omega, by omega, ?_, t62⟩
      rw [← h2, hX]
      obtain ⟨g, rfl⟩ : ∃ g, f = g + 1 := ⟨f - 1, by omega⟩
      rw [Nat.add_sub_cancel]
      rw [Nat.add_mul] at e
      omega
/-- A number whose field and shift may be is a magnitude's. -/
theorem key_found {p m F t : Nat} {b z : Int} (hp : p ≤ 60) (hb1 : -2000 ≤ b) (hb2 : b ≤ 2000) (h1 : m % 2 = 1) (hF : max (b + z + (bits m : Int) - 1) 1 = (F : Int)) (ht : z - ((F : Int) - b - p) = (t : Int)) (h4 : F ≤ 4095) :
    ∃ k, mok p b k ∧ IsM p b k m z := by
  have hbits := bits_shl (m := m) (by omega) t
  obtain ⟨y, hy⟩ : ∃ y, m * 2 ^ t = y := ⟨_, rfl⟩
  rw [hy] at hbits
  have y0 : y ≠ 0 := by
    have := Nat.mul_pos (show 0 < m by omega) (p2 t)
    omega
  have hyl : y < 2 ^ (p + 1) := Nat.lt_of_lt_of_le (bits_lt y) (p2le (by omega))
  rw [p2s] at hyl
  rcases (show y < 2 ^ p ∨ 2 ^ p ≤ y by omega) with hc | hc
  · have hb := bits_le_of_lt hc
    have F1 : F = 1 := by omega
    subst F1
    have hd : y / 2 ^ p = 0 := Nat.div_eq_of_lt hc
    refine ⟨y, ⟨hp, hb1, hb2, by omega⟩, .inr ⟨h1, t, ?_, ?_⟩⟩
    · unfold mX
      rw [hd, if_pos rfl, Nat.mod_eq_of_lt hc, hy]
    · unfold mS
      rw [hd, if_pos rfl]
      omega
  · have hb := bits_ge hc
    obtain ⟨d, hd⟩ := of_parts (p := p) (f := F) (m := y - 2 ^ p) (by omega)
    refine ⟨F * 2 ^ p + (y - 2 ^ p), ⟨hp, hb1, hb2, by omega⟩, .inr ⟨h1, t, ?_, ?_⟩⟩
    · unfold mX
      rw [d, hd, if_neg (by omega), hy]
      omega
    · unfold mS
      rw [d, if_neg (by omega)]
      omega
end M
end Go.Proofs.YtjcbncfpcechnaaDoor
