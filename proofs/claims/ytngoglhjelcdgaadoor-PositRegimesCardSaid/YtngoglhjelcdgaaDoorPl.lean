/-
  The reference of layer 5: which number is less.
-/
import Derived.Test.YtngoglhjelcdgaaDoorPv
namespace Go.Proofs.YtngoglhjelcdgaaDoor
open Go.RowKit

namespace M
theorem bits_up {a : Nat} (h : 0 < a) (i : Nat) : bits (a * 2 ^ i) = bits a + i := by
  induction i with
  | zero => simp
  | succ i ih =>
    have hp : 0 < a * 2 ^ i := Nat.mul_pos h (p2 i)
    have h1 := bits_half (a := a * 2 ^ (i + 1)) (by rw [p2s]; have := hp; rw [Nat.mul_left_comm]; omega)
    rw [show a * 2 ^ (i + 1) / 2 = a * 2 ^ i by rw [p2s, Nat.mul_left_comm]; omega, ih] at h1
    omega
/-- Which of two numbers is less, by their highest bits. -/
theorem top_lt {a b A B : Nat} (ha : 0 < a) (hb : 0 < b) (h : bits a + A < bits b + B) : a * 2 ^ A < b * 2 ^ B := by
  have h1 := bits_lt (a * 2 ^ A)
  have h2 := bits_le (a := b * 2 ^ B) (by have := Nat.mul_pos hb (p2 B); omega)
  rw [bits_up ha] at h1
  rw [bits_up hb] at h2
  have h3 : 2 ^ (bits a + A) ≤ 2 ^ (bits b + B - 1) := p2le (by omega)
  omega
theorem same_lt {a b A B i j : Nat} (h : i + B = j + A) : a * 2 ^ A < b * 2 ^ B ↔ a * 2 ^ i < b * 2 ^ j := by
  have e1 : a * 2 ^ A * 2 ^ (i + j) = a * 2 ^ i * 2 ^ (A + j) := by rw [Nat.mul_assoc, Nat.mul_assoc, ← Nat.pow_add, ← Nat.pow_add, show A + (i + j) = i + (A + j) by omega]
  have e2 : b * 2 ^ B * 2 ^ (i + j) = b * 2 ^ j * 2 ^ (A + j) := by rw [Nat.mul_assoc, Nat.mul_assoc, ← Nat.pow_add, ← Nat.pow_add, show B + (i + j) = j + (A + j) by omega]
  have p := p2 (i + j)
  have p' := p2 (A + j)
  rw [← Nat.mul_lt_mul_right p, e1, e2, Nat.mul_lt_mul_right p']
end M
theorem shl_up {a i : Nat} (ha : 0 < a) (h : M.bits a + i ≤ 64) : a * 2 ^ i < 18446744073709551616 := by
  have h1 := M.bits_lt (a * 2 ^ i)
  rw [M.bits_up ha] at h1
  have h2 : 2 ^ (M.bits a + i) ≤ 2 ^ 64 := M.p2le h
  have h3 : (2 : Nat) ^ 64 = 18446744073709551616 := by decide
  omega
theorem shl_top {a i : Nat} (ha : 0 < a) : (a * 2 ^ i < 9223372036854775808) ↔ M.bits a + i < 64 := by
  have h1 := M.bits_lt (a * 2 ^ i)
  have h2 := M.bits_le (a := a * 2 ^ i) (by have := Nat.mul_pos ha (M.p2 i); omega)
  rw [M.bits_up ha] at h1 h2
  have h3 : (2 : Nat) ^ 63 = 9223372036854775808 := by decide
  constructor
  · intro h
    have : M.bits a + i - 1 < 63 := M.p2inj (by omega)
    omega
  · intro h
    have : 2 ^ (M.bits a + i) ≤ 2 ^ 63 := M.p2le (by omega)
    omega

set_option maxHeartbeats 4000000 in
set_option maxRecDepth 100000 in
theorem rless_any (w : World) (a b : Nat) (d e : Int) (ha0 : 0 < a) (hb0 : 0 < b) (ha : a < 18446744073709551616) (hb : b < 18446744073709551616) (hd : -1000 ≤ d ∧ d ≤ 1000) (he : -1000 ≤ e ∧ e ≤ 1000) (t : Bool) (ht : Hid (decide (a * 2 ^ (d + 1000).toNat < b * 2 ^ (e + 1000).toNat) = t)) :
    Calls Tryd.prog 34 #[u64 a, .int .i64 d, u64 b, .int .i64 e] w (Same (.bool t) w) := by
  obtain ⟨x, hx⟩ : ∃ x : Nat, M.bits a = x := ⟨_, rfl⟩
  obtain ⟨y, hy⟩ : ∃ y : Nat, M.bits b = y := ⟨_, rfl⟩
  have hx64 : x ≤ 64 := by rw [← hx]; exact M.bits_le_of_lt (k := 64) ha
  have hy64 : y ≤ 64 := by rw [← hy]; exact M.bits_le_of_lt (k := 64) hb
  have C1 := Lib.hid (fun W => rtop_any W a ha (x : Int) (Lib.hid (by rw [hx])))
  have C2 := Lib.hid (fun W => rtop_any W b hb (y : Int) (Lib.hid (by rw [hy])))
  have HX := Lib.hid hx
  have HY := Lib.hid hy
  rcases Int.lt_trichotomy ((x : Int) + d) ((y : Int) + e) with h | h | h
  · obtain rfl : true = t := by
      rw [← ht.out, eq_comm, decide_eq_true_iff]
      exact M.top_lt ha0 hb0 (by rw [hx, hy]; omega)
    have d1 : ((x : Int) + d != (y : Int) + e) = true := by rw [bne_iff_ne]; omega
    have d2 : decide ((x : Int) + d < (y : Int) + e) = true := decide_eq_true h
    clear ht hx hy
    go_enter Tryd.func34, Tryd.ntmps34
    go_wp2_with fail
    refine (C1.out _).mono ?_
    rintro _ _ ⟨rfl, rfl⟩
    go_wp2_with fail
    refine (C2.out _).mono ?_
    rintro _ _ ⟨rfl, rfl⟩
    go_wp2_with fail
    go_ret
    exact ⟨rfl, rfl⟩
  · -- the same highest bit
    have d1 : ((x : Int) + d != (y : Int) + e) = false := by rw [bne_eq_false_iff_eq]; exact h
    have HT : Hid (∀ i j, x + i = 64 → y + j = 64 → decide (a * 2 ^ i < b * 2 ^ j) = t) := by
      intro i j hi hj
      rw [← ht.out]
      congr 1
      exact propext (M.same_lt (by omega)).symm
    clear ht hx hy h
    go_enter Tryd.func34, Tryd.ntmps34
    go_wp2_with fail
    refine (C1.out _).mono ?_
    rintro _ _ ⟨rfl, rfl⟩
    go_wp2_with fail
    refine (C2.out _).mono ?_
    rintro _ _ ⟨rfl, rfl⟩
    clear C1 C2
    go_wp2_with fail
    go_loop [0] (fun xv => ∃ z i : Nat, xv = u64 z ∧ x + i ≤ 64 ∧ Hid (z = a * 2 ^ i)) (fun xv => 18446744073709551616 - (intOf xv).toNat)
    case atStart => exact ⟨a, 0, rfl, by omega, by show _ = _; simp⟩
    case round =>
      obtain ⟨z, i, rfl, hi, HZ⟩ := hrel
      have hz0 : 0 < z := by rw [HZ.out]; exact Nat.mul_pos ha0 (M.p2 i)
      have hz64 : z < 18446744073709551616 := by rw [HZ.out]; exact shl_up ha0 (by rw [HX.out]; exact hi)
      have hzt : z < 9223372036854775808 ↔ x + i < 64 := by rw [HZ.out, ← HX.out]; exact shl_top ha0
      by_cases hlt : x + i < 64
      · have q1 : (z : Int) / 9223372036854775808 = 0 := by have := hzt.2 hlt; omega
        have q2 : 2 * z < 18446744073709551616 := by have := hzt.2 hlt; omega
        have HZ2 : Hid (2 * z = a * 2 ^ (i + 1)) := by show _ = _; rw [HZ.out, M.p2s]; ac_rfl
        clear hzt HZ
        go_wp2_with fail
        go_round
        case rel => exact ⟨2 * z, i + 1, by go_num, by omega, HZ2⟩
        case measure => simp [intOf]; omega
      · have q1 : (z : Int) / 9223372036854775808 = 1 := by
          have : ¬ z < 9223372036854775808 := fun h => hlt (hzt.1 h)
          omega
        have hi64 : x + i = 64 := by omega
        clear hzt hlt hi
        go_wp2_with fail
        go_loop [2] (fun yv => ∃ v j : Nat, yv = u64 v ∧ y + j ≤ 64 ∧ Hid (v = b * 2 ^ j)) (fun yv => 18446744073709551616 - (intOf yv).toNat)
        case atStart => exact ⟨b, 0, rfl, by omega, by show _ = _; simp⟩
        case round =>
          obtain ⟨v, j, rfl, hj, HV⟩ := hrel
          have hv0 : 0 < v := by rw [HV.out]; exact Nat.mul_pos hb0 (M.p2 j)
          have hv64 : v < 18446744073709551616 := by rw [HV.out]; exact shl_up hb0 (by rw [HY.out]; exact hj)
          have hvt : v < 9223372036854775808 ↔ y + j < 64 := by rw [HV.out, ← HY.out]; exact shl_top hb0
          by_cases hlt : y + j < 64
          · have q3 : (v : Int) / 9223372036854775808 = 0 := by have := hvt.2 hlt; omega
            have q2 : 2 * v < 18446744073709551616 := by have := hvt.2 hlt; omega
            have HV2 : Hid (2 * v = b * 2 ^ (j + 1)) := by show _ = _; rw [HV.out, M.p2s]; ac_rfl
            clear hvt HV
            go_wp2_with fail
            go_round
            case rel => exact ⟨2 * v, j + 1, by go_num, by omega, HV2⟩
            case measure => simp [intOf]; omega
          · have q3 : (v : Int) / 9223372036854775808 = 1 := by
              have : ¬ v < 9223372036854775808 := fun h => hlt (hvt.1 h)
              omega
            have HR : Hid (decide ((z : Int) < (v : Int)) = t) := by
              show _ = _
              rw [← HT.out i j hi64 (by omega), ← HZ.out, ← HV.out]
              congr 1
              exact propext Int.ofNat_lt
            clear hvt hlt hj HV HZ
            go_wp2_with fail
            go_ret
            exact ⟨ret_bool (by first | exact HR.out | (rw [← HR.out]; simp)), rfl⟩
  · obtain rfl : false = t := by
      rw [← ht.out, eq_comm, decide_eq_false_iff_not, Nat.not_lt]
      exact Nat.le_of_lt (M.top_lt hb0 ha0 (by rw [hx, hy]; omega))
    have d1 : ((x : Int) + d != (y : Int) + e) = true := by rw [bne_iff_ne]; omega
    have d2 : decide ((x : Int) + d < (y : Int) + e) = false := decide_eq_false (by omega)
    clear ht hx hy
    go_enter Tryd.func34, Tryd.ntmps34
    go_wp2_with fail
    refine (C1.out _).mono ?_
    rintro _ _ ⟨rfl, rfl⟩
    go_wp2_with fail
    refine (C2.out _).mono ?_
    rintro _ _ ⟨rfl, rfl⟩
    go_wp2_with fail
    go_ret
    exact ⟨rfl, rfl⟩
end Go.Proofs.YtngoglhjelcdgaaDoor
