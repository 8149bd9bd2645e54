/-
  The laws of layer 5: which number is less.
-/
import Derived.Test.YtngoglhjelcdgaaDoorPc
namespace Go.Proofs.YtngoglhjelcdgaaDoor
open Go.RowKit

set_option maxHeartbeats 4000000 in
set_option maxRecDepth 100000 in
theorem lless_any (w : World) (a b : Nat) (d e : Int) (ha0 : 0 < a) (hb0 : 0 < b) (ha : a < 18446744073709551616) (hb : b < 18446744073709551616) (hd : -1000 ≤ d ∧ d ≤ 1000) (he : -1000 ≤ e ∧ e ≤ 1000) (t : Bool) (ht : Hid (decide (a * 2 ^ (d + 1000).toNat < b * 2 ^ (e + 1000).toNat) = t)) :
    Calls Tryd.prog 21 #[u64 a, .int .i64 d, u64 b, .int .i64 e] w (Same (.bool t) w) := by
  obtain ⟨x, hx⟩ : ∃ x : Nat, M.bits a = x := ⟨_, rfl⟩
  obtain ⟨y, hy⟩ : ∃ y : Nat, M.bits b = y := ⟨_, rfl⟩
  have hx64 : x ≤ 64 := by rw [← hx]; exact M.bits_le_of_lt (k := 64) ha
  have hy64 : y ≤ 64 := by rw [← hy]; exact M.bits_le_of_lt (k := 64) hb
  have HX := Lib.hid hx
  have HY := Lib.hid hy
  rcases Int.lt_trichotomy ((x : Int) + d) ((y : Int) + e) with h | h | h
  · obtain rfl : true = t := by
      rw [← ht.out, eq_comm, decide_eq_true_iff]
      exact M.top_lt ha0 hb0 (by rw [hx, hy]; omega)
    have d1 : (d + (x : Int) != e + (y : Int)) = true := by rw [bne_iff_ne]; omega
    have d2 : decide (d + (x : Int) < e + (y : Int)) = true := decide_eq_true (by omega)
    clear ht hx hy
    go_enter Tryd.func21, Tryd.ntmps21
    go_wp2_with fail
    go_loop [9, 10] (fun xv pv => ∃ v i : Nat, xv = u64 v ∧ pv = .int .i64 (d + (i : Int)) ∧ v < 18446744073709551616 ∧ i ≤ 64 ∧ Hid (i + M.bits v = x)) (fun xv _ => (intOf xv).toNat)
    case atStart => exact ⟨a, 0, rfl, by go_num, ha, by omega, by show _ = _; rw [← HX.out]; omega⟩
    case round =>
      obtain ⟨v, i, rfl, rfl, hv, hi, HI⟩ := hrel
      by_cases hv0 : v = 0
      · subst hv0
        obtain rfl : x = i := by rw [← HI.out]; simp [M.bits]
        clear HI hv
        go_wp2_with fail
        go_loop [11, 12] (fun yv qv => ∃ v j : Nat, yv = u64 v ∧ qv = .int .i64 (e + (j : Int)) ∧ v < 18446744073709551616 ∧ j ≤ 64 ∧ Hid (j + M.bits v = y)) (fun yv _ => (intOf yv).toNat)
        case atStart => exact ⟨b, 0, rfl, by go_num, hb, by omega, by show _ = _; rw [← HY.out]; omega⟩
        case round =>
          obtain ⟨v, j, rfl, rfl, hv, hj, HJ⟩ := hrel
          by_cases hv0 : v = 0
          · subst hv0
            obtain rfl : y = j := by rw [← HJ.out]; simp [M.bits]
            clear HJ hv
            go_wp2_with fail
            go_ret
            exact ⟨rfl, rfl⟩
          · obtain ⟨v', hv'⟩ : ∃ v', v / 2 = v' := ⟨_, rfl⟩
            have q2 : (v : Int) / 2 = (v' : Int) := by omega
            have q3 : 0 < v := by omega
            have q4 : v' < v := by omega
            have HJ2 : Hid (j + 1 + M.bits v' = y) := by
              have h1 := M.bits_half hv0
              rw [hv'] at h1
              have := HJ.out
              show _ = _
              omega
            have hj2 : j + 1 ≤ 64 := by have := HJ2.out; omega
            clear HJ hv' hv0
            go_wp2_with fail
            go_round
            case rel => exact ⟨v', j + 1, rfl, by go_num, by omega, hj2, HJ2⟩
            case measure => simp [intOf]; omega
      · obtain ⟨v', hv'⟩ : ∃ v', v / 2 = v' := ⟨_, rfl⟩
        have q2 : (v : Int) / 2 = (v' : Int) := by omega
        have q3 : 0 < v := by omega
        have q4 : v' < v := by omega
        have HI2 : Hid (i + 1 + M.bits v' = x) := by
          have h1 := M.bits_half hv0
          rw [hv'] at h1
          have := HI.out
          show _ = _
          omega
        have hi2 : i + 1 ≤ 64 := by have := HI2.out; omega
        clear HI hv' hv0
        go_wp2_with fail
        go_round
        case rel => exact ⟨v', i + 1, rfl, by go_num, by omega, hi2, HI2⟩
        case measure => simp [intOf]; omega
  · -- the same highest bit
    have d1 : (d + (x : Int) != e + (y : Int)) = false := by rw [bne_eq_false_iff_eq]; omega
    have HT : Hid (∀ i j, x + i = 64 → y + j = 64 → decide (a * 2 ^ i < b * 2 ^ j) = t) := by
      intro i j hi hj
      rw [← ht.out]
      congr 1
      exact propext (M.same_lt (by omega)).symm
    clear ht hx hy h
    go_enter Tryd.func21, Tryd.ntmps21
    go_wp2_with fail
    go_loop [9, 10] (fun xv pv => ∃ v i : Nat, xv = u64 v ∧ pv = .int .i64 (d + (i : Int)) ∧ v < 18446744073709551616 ∧ i ≤ 64 ∧ Hid (i + M.bits v = x)) (fun xv _ => (intOf xv).toNat)
    case atStart => exact ⟨a, 0, rfl, by go_num, ha, by omega, by show _ = _; rw [← HX.out]; omega⟩
    case round =>
      obtain ⟨v, i, rfl, rfl, hv, hi, HI⟩ := hrel
      by_cases hv0 : v = 0
      · subst hv0
        obtain rfl : x = i := by rw [← HI.out]; simp [M.bits]
        clear HI hv
        go_wp2_with fail
        go_loop [11, 12] (fun yv qv => ∃ v j : Nat, yv = u64 v ∧ qv = .int .i64 (e + (j : Int)) ∧ v < 18446744073709551616 ∧ j ≤ 64 ∧ Hid (j + M.bits v = y)) (fun yv _ => (intOf yv).toNat)
        case atStart => exact ⟨b, 0, rfl, by go_num, hb, by omega, by show _ = _; rw [← HY.out]; omega⟩
        case round =>
          obtain ⟨v, j, rfl, rfl, hv, hj, HJ⟩ := hrel
          by_cases hv0 : v = 0
          · subst hv0
            obtain rfl : y = j := by rw [← HJ.out]; simp [M.bits]
            clear HJ hv
            go_wp2_with fail
            go_loop [0] (fun xv => ∃ z i : Nat, xv = u64 z ∧ x + i ≤ 64 ∧ Hid (z = a * 2 ^ i)) (fun xv => 18446744073709551616 - (intOf xv).toNat)
            case atStart => exact ⟨a, 0, rfl, by omega, by show _ = _; simp⟩
            case round =>
              obtain ⟨z, i, rfl, hi, HZ⟩ := hrel
              have hz0 : 0 < z := by rw [HZ.out]; exact Nat.mul_pos ha0 (M.p2 i)
              have hz64 : z < 18446744073709551616 := by rw [HZ.out]; exact shl_up ha0 (by rw [HX.out]; exact hi)
              have hzt : z < 9223372036854775808 ↔ x + i < 64 := by rw [HZ.out, ← HX.out]; exact shl_top ha0
              by_cases hlt : x + i < 64
              · have q1 : (z : Int) / 9223372036854775808 = 0 := by have := hzt.2 hlt; omega
                have q2 : 2 * z < 18446744073709551616 := by have := hzt.2 hlt; omega
                have HZ2 : Hid (2 * z = a * 2 ^ (i + 1)) := by show _ = _; rw [HZ.out, M.p2s]; ac_rfl
                clear hzt HZ
                go_wp2_with fail
                go_round
                case rel => exact ⟨2 * z, i + 1, by go_num, by omega, HZ2⟩
                case measure => simp [intOf]; omega
              · have q1 : (z : Int) / 9223372036854775808 = 1 := by
                  have : ¬ z < 9223372036854775808 := fun h => hlt (hzt.1 h)
                  omega
                have hi64 : x + i = 64 := by omega
                clear hzt hlt hi
                go_wp2_with fail
                go_loop [2] (fun yv => ∃ v j : Nat, yv = u64 v ∧ y + j ≤ 64 ∧ Hid (v = b * 2 ^ j)) (fun yv => 18446744073709551616 - (intOf yv).toNat)
                case atStart => exact ⟨b, 0, rfl, by omega, by show _ = _; simp⟩
                case round =>
                  obtain ⟨v, j, rfl, hj, HV⟩ := hrel
                  have hv0 : 0 < v := by rw [HV.out]; exact Nat.mul_pos hb0 (M.p2 j)
                  have hv64 : v < 18446744073709551616 := by rw [HV.out]; exact shl_up hb0 (by rw [HY.out]; exact hj)
                  have hvt : v < 9223372036854775808 ↔ y + j < 64 := by rw [HV.out, ← HY.out]; exact shl_top hb0
                  by_cases hlt : y + j < 64
                  · have q3 : (v : Int) / 9223372036854775808 = 0 := by have := hvt.2 hlt; omega
                    have q2 : 2 * v < 18446744073709551616 := by have := hvt.2 hlt; omega
                    have HV2 : Hid (2 * v = b * 2 ^ (j + 1)) := by show _ = _; rw [HV.out, M.p2s]; ac_rfl
                    clear hvt HV
                    go_wp2_with fail
                    go_round
                    case rel => exact ⟨2 * v, j + 1, by go_num, by omega, HV2⟩
                    case measure => simp [intOf]; omega
                  · have q3 : (v : Int) / 9223372036854775808 = 1 := by
                      have : ¬ v < 9223372036854775808 := fun h => hlt (hvt.1 h)
                      omega
                    have HR : Hid (decide ((z : Int) < (v : Int)) = t) := by
                      show _ = _
                      rw [← HT.out i j hi64 (by omega), ← HZ.out, ← HV.out]
                      congr 1
                      exact propext Int.ofNat_lt
                    clear hvt hlt hj HV HZ
                    go_wp2_with fail
                    go_ret
                    exact ⟨ret_bool (by first | exact HR.out | (rw [← HR.out]; simp)), rfl⟩
          · obtain ⟨v', hv'⟩ : ∃ v', v / 2 = v' := ⟨_, rfl⟩
            have q2 : (v : Int) / 2 = (v' : Int) := by omega
            have q3 : 0 < v := by omega
            have q4 : v' < v := by omega
            have HJ2 : Hid (j + 1 + M.bits v' = y) := by
              have h1 := M.bits_half hv0
              rw [hv'] at h1
              have := HJ.out
              show _ = _
              omega
            have hj2 : j + 1 ≤ 64 := by have := HJ2.out; omega
            clear HJ hv' hv0
            go_wp2_with fail
            go_round
            case rel => exact ⟨v', j + 1, rfl, by go_num, by omega, hj2, HJ2⟩
            case measure => simp [intOf]; omega
      · obtain ⟨v', hv'⟩ : ∃ v', v / 2 = v' := ⟨_, rfl⟩
        have q2 : (v : Int) / 2 = (v' : Int) := by omega
        have q3 : 0 < v := by omega
        have q4 : v' < v := by omega
        have HI2 : Hid (i + 1 + M.bits v' = x) := by
          have h1 := M.bits_half hv0
          rw [hv'] at h1
          have := HI.out
          show _ = _
          omega
        have hi2 : i + 1 ≤ 64 := by have := HI2.out; omega
        clear HI hv' hv0
        go_wp2_with fail
        go_round
        case rel => exact ⟨v', i + 1, rfl, by go_num, by omega, hi2, HI2⟩
        case measure => simp [intOf]; omega
  · obtain rfl : false = t := by
      rw [← ht.out, eq_comm, decide_eq_false_iff_not, Nat.not_lt]
      exact Nat.le_of_lt (M.top_lt hb0 ha0 (by rw [hx, hy]; omega))
    have d1 : (d + (x : Int) != e + (y : Int)) = true := by rw [bne_iff_ne]; omega
    have d2 : decide (d + (x : Int) < e + (y : Int)) = false := decide_eq_false (by omega)
    clear ht hx hy
    go_enter Tryd.func21, Tryd.ntmps21
    go_wp2_with fail
    go_loop [9, 10] (fun xv pv => ∃ v i : Nat, xv = u64 v ∧ pv = .int .i64 (d + (i : Int)) ∧ v < 18446744073709551616 ∧ i ≤ 64 ∧ Hid (i + M.bits v = x)) (fun xv _ => (intOf xv).toNat)
    case atStart => exact ⟨a, 0, rfl, by go_num, ha, by omega, by show _ = _; rw [← HX.out]; omega⟩
    case round =>
      obtain ⟨v, i, rfl, rfl, hv, hi, HI⟩ := hrel
      by_cases hv0 : v = 0
      · subst hv0
        obtain rfl : x = i := by rw [← HI.out]; simp [M.bits]
        clear HI hv
        go_wp2_with fail
        go_loop [11, 12] (fun yv qv => ∃ v j : Nat, yv = u64 v ∧ qv = .int .i64 (e + (j : Int)) ∧ v < 18446744073709551616 ∧ j ≤ 64 ∧ Hid (j + M.bits v = y)) (fun yv _ => (intOf yv).toNat)
        case atStart => exact ⟨b, 0, rfl, by go_num, hb, by omega, by show _ = _; rw [← HY.out]; omega⟩
        case round =>
          obtain ⟨v, j, rfl, rfl, hv, hj, HJ⟩ := hrel
          by_cases hv0 : v = 0
          · subst hv0
            obtain rfl : y = j := by rw [← HJ.out]; simp [M.bits]
            clear HJ hv
            go_wp2_with fail
            go_ret
            exact ⟨rfl, rfl⟩
          · obtain ⟨v', hv'⟩ : ∃ v', v / 2 = v' := ⟨_, rfl⟩
            have q2 : (v : Int) / 2 = (v' : Int) := by omega
            have q3 : 0 < v := by omega
            have q4 : v' < v := by omega
            have HJ2 : Hid (j + 1 + M.bits v' = y) := by
              have h1 := M.bits_half hv0
              rw [hv'] at h1
              have := HJ.out
              show _ = _
              omega
            have hj2 : j + 1 ≤ 64 := by have := HJ2.out; omega
            clear HJ hv' hv0
            go_wp2_with fail
            go_round
            case rel => exact ⟨v', j + 1, rfl, by go_num, by omega, hj2, HJ2⟩
            case measure => simp [intOf]; omega
      · obtain ⟨v', hv'⟩ : ∃ v', v / 2 = v' := ⟨_, rfl⟩
        have q2 : (v : Int) / 2 = (v' : Int) := by omega
        have q3 : 0 < v := by omega
        have q4 : v' < v := by omega
        have HI2 : Hid (i + 1 + M.bits v' = x) := by
          have h1 := M.bits_half hv0
          rw [hv'] at h1
          have := HI.out
          show _ = _
          omega
        have hi2 : i + 1 ≤ 64 := by have := HI2.out; omega
        clear HI hv' hv0
        go_wp2_with fail
        go_round
        case rel => exact ⟨v', i + 1, rfl, by go_num, by omega, hi2, HI2⟩
        case measure => simp [intOf]; omega
end Go.Proofs.YtngoglhjelcdgaaDoor
