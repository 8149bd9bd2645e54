/-
  ValueOrder: which number is above; a boundary stands between its neighbours.
-/
import Derived.Test.YtjcbncfpcechnaaDoorVh
import Derived.Test.YtjcbncfpcechnaaDoorVo
import Derived.Test.YtjcbncfpcechnaaDoorPk
namespace Go.Proofs.YtjcbncfpcechnaaDoor
open Go.RowKit
set_option linter.unusedSimpArgs false
set_option linter.unusedVariables false

namespace M
/-- A number is above another one. -/
def Gt (a : Nat) (d : Int) (b : Nat) (e : Int) : Prop := ∃ D : Int, 0 ≤ d + D ∧ 0 ≤ e + D ∧ b * 2 ^ (e + D).toNat < a * 2 ^ (d + D).toNat
theorem isk7_longer {n k m : Nat} {z : Int} (hn : n ≤ 63) (h : IsK n k m z) : IsK (n + 1) (2 * k) m z := by
  have g := h.rng (by omega)
  obtain ⟨R, r, q, h1, e⟩ := h.vx (by omega)
  have rg := h1.rng
  obtain ⟨r', q', h2, e2⟩ := h1.longer hn
  obtain ⟨m', z', hk'⟩ := isk_ex (n := n + 1) (k := 2 * k) (by omega) (by omega) (by rw [p2s]; omega)
  have g' := hk'.rng (by omega)
  obtain ⟨R2, r2, q2, h3, e3⟩ := hk'.vx (by omega)
  obtain ⟨rfl, rfl, rfl⟩ := ps_uniq h2 h3
  have e4 : vz m' z' = vz m z := by rw [← e3, ← e]; unfold vx; rw [e2]
  obtain ⟨a, b⟩ := odd_uniq hk'.1 h.1 e4
  obtain rfl : z' = z := by omega
  rwa [a] at hk'
theorem isk_gt {n k k' m m' : Nat} {z z' : Int} (hn : n ≤ 64) (h : IsK n k m z) (h' : IsK n k' m' z') (hk : k < k') : Gt m' z' m z := by
  have r := h.rng hn
  have r' := h'.rng hn
  exact ⟨1000, by omega, by omega, isk_lt hn h h' hk⟩
theorem ism_mv {p k m : Nat} {b z : Int} (h : IsM p b k m z) (h0 : m ≠ 0) : 0 ≤ z + (b + p - 1) ∧ m * 2 ^ (z + (b + p - 1)).toNat = mv p k := by
  rcases h with ⟨_, h2, _⟩ | ⟨h1, t, h2, h3⟩
  · exact absurd h2 h0
  · rw [mS_eq] at h3
    unfold mv
    obtain ⟨g, hg⟩ : ∃ g, max (k / 2 ^ p) 1 - 1 = g := ⟨_, rfl⟩
    rw [hg] at h3 ⊢
    refine ⟨by omega, ?_⟩
    rw [h2, Nat.mul_assoc, ← Nat.pow_add]
    congr 2
    omega
theorem ism_gt {p k k' m m' : Nat} {b z z' : Int} (h : IsM p b k m z) (h0 : m ≠ 0) (h' : IsM p b k' m' z') (h0' : m' ≠ 0) (hk : k < k') : Gt m' z' m z := by
  obtain ⟨a1, a2⟩ := ism_mv h h0
  obtain ⟨b1, b2⟩ := ism_mv h' h0'
  exact ⟨_, b1, a1, by rw [a2, b2]; exact mv_lt hk⟩
theorem bd_nz {f : Fm} {k n : Nat} {y : Int} (h : Bd f k n y) : n ≠ 0 := by
  rcases h with ⟨_, _, _, _, _, h⟩ | ⟨_, p, _, _, _, h⟩ | ⟨_, _, _, rfl, _⟩ | ⟨_, _, _, rfl, _⟩
  · have := h.1; omega
  · intro e
    have := h.zero.1.1 e
    omega
  · omega
  · omega
theorem gt_mid {f : Fm} {k m n : Nat} {z y : Int} (h : Mg0 f k m z) (h' : Bd f k n y) : m = 0 ∨ (m ≠ 0 ∧ Gt n y m z) := by
  rcases h with ⟨_, _, h, _⟩ | ⟨h0, h⟩
  · exact .inl h
  · have mz := mg_nz h h0
    refine .inr ⟨mz, ?_⟩
    have nz := bd_nz h'
    rcases h with ⟨e, a, ha, haW, h⟩ | ⟨e, p, hp, ho, h⟩ | ⟨e, hm, k0, ho, t, hk, hz⟩ | ⟨e, hb, hk, rfl, rfl⟩
    · rcases h' with ⟨_, a', ha2, ha', haW', h'⟩ | ⟨e', _⟩ | ⟨e', _⟩ | ⟨e', _⟩
      · obtain rfl : a = a' := by omega
        exact isk_gt (by omega) (isk7_longer ha' h) h' (by omega)
      · omega
      · omega
      · omega
    · rcases h' with ⟨e', _⟩ | ⟨_, p', hp', hpm', ho', h'⟩ | ⟨e', _⟩ | ⟨e', _⟩
      · omega
      · obtain rfl : p = p' := by omega
        exact ism_gt h.longer mz h' nz (by omega)
      · omega
      · omega
    · rcases h' with ⟨e', _⟩ | ⟨e', _⟩ | ⟨_, _, _, rfl, rfl⟩ | ⟨e', _⟩
      · omega
      · omega
      · refine ⟨f.m + 1, by omega, by omega, ?_⟩
        rw [show (z + (f.m + 1)).toNat = t + 1 by omega, show (-f.m - 1 + (f.m + 1)).toNat = 0 by omega, p2s, hk]
        have : m * (2 * 2 ^ t) = 2 * (m * 2 ^ t) := by ac_rfl
        omega
      · omega
    · rcases h' with ⟨e', _⟩ | ⟨e', _⟩ | ⟨e', _⟩ | ⟨_, _, _, rfl, rfl⟩
      · omega
      · omega
      · omega
      · refine ⟨f.b - k + 1, by omega, by omega, ?_⟩
        rw [show ((k : Int) - f.b + (f.b - k + 1)).toNat = 1 by omega, show ((k : Int) - f.b - 1 + (f.b - k + 1)).toNat = 0 by omega]
        decide
theorem gt_next {f : Fm} {k x n : Nat} {z y : Int} (h' : Bd f k n y) (h : Mg0 f (k + 1) x z) : x ≠ 0 ∧ Gt x z n y := by
  rcases h with ⟨h, _⟩ | ⟨h0, h⟩
  · omega
  · have xz := mg_nz h h0
    refine ⟨xz, ?_⟩
    have nz := bd_nz h'
    rcases h with ⟨e, a, ha, haW, h⟩ | ⟨e, p, hp, ho, h⟩ | ⟨e, hm, k0, ho, t, hk, hz⟩ | ⟨e, hb, hk, rfl, hz⟩
    · rcases h' with ⟨_, a', ha2, ha', haW', h'⟩ | ⟨e', _⟩ | ⟨e', _⟩ | ⟨e', _⟩
      · obtain rfl : a = a' := by omega
        exact isk_gt (by omega) h' (isk7_longer ha' h) (by omega)
      · omega
      · omega
      · omega
    · rcases h' with ⟨e', _⟩ | ⟨_, p', hp', hpm', ho', h'⟩ | ⟨e', _⟩ | ⟨e', _⟩
      · omega
      · obtain rfl : p = p' := by omega
        exact ism_gt h' nz h.longer xz (by omega)
      · omega
      · omega
    · rcases h' with ⟨e', _⟩ | ⟨e', _⟩ | ⟨_, _, _, rfl, rfl⟩ | ⟨e', _⟩
      · omega
      · omega
      · refine ⟨f.m + 1, by omega, by omega, ?_⟩
        rw [show (z + (f.m + 1)).toNat = t + 1 by omega, show (-f.m - 1 + (f.m + 1)).toNat = 0 by omega, p2s]
        have : x * (2 * 2 ^ t) = 2 * (x * 2 ^ t) := by ac_rfl
        omega
      · omega
    · rcases h' with ⟨e', _⟩ | ⟨e', _⟩ | ⟨e', _⟩ | ⟨_, _, _, rfl, rfl⟩
      · omega
      · omega
      · omega
      · refine ⟨f.b - k + 1, by omega, by omega, ?_⟩
        rw [show (z + (f.b - k + 1)).toNat = 2 by omega, show ((k : Int) - f.b - 1 + (f.b - k + 1)).toNat = 0 by omega]
        decide
theorem mg_rng {f : Fm} {k m : Nat} {z : Int} (kb : k < 18446744073709551616) (h : Mg0 f k m z) : m < 18446744073709551616 ∧ -100000 ≤ z ∧ z ≤ 1200000 := by
  rcases h with ⟨_, _, rfl, rfl⟩ | ⟨_, h⟩
  · exact ⟨by decide, by decide, by decide⟩
  · rcases h with ⟨e, a, ha, haW, h⟩ | ⟨e, p, hp, ho, h⟩ | ⟨e, hm, k0, ho, t, hk, hz⟩ | ⟨e, hb, hk, rfl, hz⟩
    · have := h.rng ha; omega
    · have := h.rng ho; omega
    · have p3 : m ≤ m * 2 ^ t := Nat.le_mul_of_pos_right _ (p2 t)
      have p4 : 2 ^ t ≤ m * 2 ^ t := Nat.le_mul_of_pos_left _ (by omega)
      have t64 : t < 64 := p2inj (by have : (2 : Nat) ^ 64 = 18446744073709551616 := by decide
                                     omega)
      omega
    · omega
theorem bd_rng {f : Fm} {k m : Nat} {z : Int} (h : Bd f k m z) : m < 18446744073709551616 ∧ -200000 ≤ z ∧ z ≤ 1200000 := by
  rcases h with ⟨e, a, _, ha, haW, h⟩ | ⟨e, p, _, hp, ho, h⟩ | ⟨e, hm, k0, rfl, rfl⟩ | ⟨e, hb, hk, rfl, rfl⟩
  · have := h.rng (by omega); omega
  · have := h.rng ho; omega
  · omega
  · omega
end M
set_option maxHeartbeats 4000000 in
set_option maxRecDepth 100000 in
theorem above_zero (w : World) (a : Nat) (d : Int) (b : Nat) (e : Int) (hb : b = 0) (ha : a ≠ 0) : Calls Tryd.prog 24 #[u64 a, .int .i64 d, u64 b, .int .i64 e] w (Same (.bool true) w) := by
  subst hb
  have d1 : ((a : Int) != 0) = true := by rw [bne_iff_ne]; omega
  clear ha
  go_enter Tryd.func24, Tryd.ntmps24
  go_wp2_with fail
  go_ret
  exact ⟨by first | rfl | simp, rfl⟩
set_option maxHeartbeats 4000000 in
set_option maxRecDepth 100000 in
theorem above_any (w : World) (a : Nat) (d : Int) (b : Nat) (e : Int) (ha0 : 0 < a) (hb0 : 0 < b) (ha : a < 18446744073709551616) (hb : b < 18446744073709551616) (hd : -2000000 ≤ d ∧ d ≤ 2000000) (he : -2000000 ≤ e ∧ e ≤ 2000000) (hgt : M.Gt a d b e) : Calls Tryd.prog 24 #[u64 a, .int .i64 d, u64 b, .int .i64 e] w (Same (.bool true) w) := by
  obtain ⟨D, hD1, hD2, hgt⟩ := hgt
  obtain ⟨x, hx⟩ : ∃ x : Nat, M.bits a = x := ⟨_, rfl⟩
  obtain ⟨y, hy⟩ : ∃ y : Nat, M.bits b = y := ⟨_, rfl⟩
  have hx64 : x ≤ 64 := by rw [← hx]; exact M.bits_le_of_lt (k := 64) ha
  have hy64 : y ≤ 64 := by rw [← hy]; exact M.bits_le_of_lt (k := 64) hb
  have HX := Lib.hid hx
  have HY := Lib.hid hy
  have e1 : ((a : Int) == 0) = false := by rw [beq_eq_false_iff_ne]; omega
  have e2 : ((b : Int) == 0) = false := by rw [beq_eq_false_iff_ne]; omega
  rcases Int.lt_trichotomy ((x : Int) + d) ((y : Int) + e) with h | h | h
  · exfalso
    have := M.top_lt ha0 hb0 (A := (d + D).toNat) (B := (e + D).toNat) (by rw [hx, hy]; omega)
    omega
  · -- the same highest bit
    have d1 : (d + (x : Int) != e + (y : Int)) = false := by rw [bne_eq_false_iff_eq]; omega
    have HT : Hid (∀ i j, x + i = 64 → y + j = 64 → b * 2 ^ j < a * 2 ^ i) := by
      intro i j hi hj
      exact (M.same_lt (by omega)).1 hgt
    clear hgt hx hy h hD1 hD2
    go_enter Tryd.func24, Tryd.ntmps24
    go_wp2_with fail
    go_loop [9, 10] (fun xv pv => ∃ v i : Nat, xv = u64 v ∧ pv = .int .i64 (d + (i : Int)) ∧ v < 18446744073709551616 ∧ i ≤ 64 ∧ Hid (i + M.bits v = x)) (fun xv _ => (intOf xv).toNat)
    case atStart => exact ⟨a, 0, rfl, by go_num, ha, by omega, by show _ = _; rw [← HX.out]; omega⟩
    case round =>
      obtain ⟨v, i, rfl, rfl, hv, hi, HI⟩ := hrel
      by_cases hv0 : v = 0
      · subst hv0
        obtain rfl : x = i := by rw [← HI.out]; simp [M.bits]
        clear HI hv
        go_wp2_with fail
        go_loop [11, 12] (fun yv qv => ∃ v j : Nat, yv = u64 v ∧ qv = .int .i64 (e + (j : Int)) ∧ v < 18446744073709551616 ∧ j ≤ 64 ∧ Hid (j + M.bits v = y)) (fun yv _ => (intOf yv).toNat)
        case atStart => exact ⟨b, 0, rfl, by go_num, hb, by omega, by show _ = _; rw [← HY.out]; omega⟩
        case round =>
          obtain ⟨v, j, rfl, rfl, hv, hj, HJ⟩ := hrel
          by_cases hv0 : v = 0
          · subst hv0
            obtain rfl : y = j := by rw [← HJ.out]; simp [M.bits]
            clear HJ hv
            go_wp2_with fail
            go_loop [0] (fun xv => ∃ z i : Nat, xv = u64 z ∧ x + i ≤ 64 ∧ Hid (z = a * 2 ^ i)) (fun xv => 18446744073709551616 - (intOf xv).toNat)
            case atStart => exact ⟨a, 0, rfl, by omega, by show _ = _; simp⟩
            case round =>
              obtain ⟨z, i, rfl, hi, HZ⟩ := hrel
              have hz0 : 0 < z := by rw [HZ.out]; exact Nat.mul_pos ha0 (M.p2 i)
              have hz64 : z < 18446744073709551616 := by rw [HZ.out]; exact shl_up ha0 (by rw [HX.out]; exact hi)
              have hzt : z < 9223372036854775808 ↔ x + i < 64 := by rw [HZ.out, ← HX.out]; exact shl_top ha0
              by_cases hlt : x + i < 64
              · have q1 : (z : Int) / 9223372036854775808 = 0 := by have := hzt.2 hlt; omega
                have q2 : 2 * z < 18446744073709551616 := by have := hzt.2 hlt; omega
                have HZ2 : Hid (2 * z = a * 2 ^ (i + 1)) := by show _ = _; rw [HZ.out, M.p2s]; ac_rfl
                clear hzt HZ
                go_wp2_with fail
                go_round
                case rel => exact ⟨2 * z, i + 1, by go_num, by omega, HZ2⟩
                case measure => simp [intOf]; omega
              · have q1 : (z : Int) / 9223372036854775808 = 1 := by
                  have : ¬ z < 9223372036854775808 := fun h => hlt (hzt.1 h)
                  omega
                have hi64 : x + i = 64 := by omega
                clear hzt hlt hi
                go_wp2_with fail
                go_loop [2] (fun yv => ∃ v j : Nat, yv = u64 v ∧ y + j ≤ 64 ∧ Hid (v = b * 2 ^ j)) (fun yv => 18446744073709551616 - (intOf yv).toNat)
                case atStart => exact ⟨b, 0, rfl, by omega, by show _ = _; simp⟩
                case round =>
                  obtain ⟨v, j, rfl, hj, HV⟩ := hrel
                  have hv0 : 0 < v := by rw [HV.out]; exact Nat.mul_pos hb0 (M.p2 j)
                  have hv64 : v < 18446744073709551616 := by rw [HV.out]; exact shl_up hb0 (by rw [HY.out]; exact hj)
                  have hvt : v < 9223372036854775808 ↔ y + j < 64 := by rw [HV.out, ← HY.out]; exact shl_top hb0
                  by_cases hlt : y + j < 64
                  · have q3 : (v : Int) / 9223372036854775808 = 0 := by have := hvt.2 hlt; omega
                    have q2 : 2 * v < 18446744073709551616 := by have := hvt.2 hlt; omega
                    have HV2 : Hid (2 * v = b * 2 ^ (j + 1)) := by show _ = _; rw [HV.out, M.p2s]; ac_rfl
                    clear hvt HV
                    go_wp2_with fail
                    go_round
                    case rel => exact ⟨2 * v, j + 1, by go_num, by omega, HV2⟩
                    case measure => simp [intOf]; omega
                  · have q3 : (v : Int) / 9223372036854775808 = 1 := by
                      have : ¬ v < 9223372036854775808 := fun h => hlt (hvt.1 h)
                      omega
                    have HR : Hid (decide ((v : Int) < (z : Int)) = true) := by
                      have h9 := HT.out i j hi64 (by omega)
                      rw [← HZ.out, ← HV.out] at h9
                      exact decide_eq_true (by omega)
                    clear hvt hlt hj HV HZ
                    go_wp2_with fail
                    go_ret
                    exact ⟨ret_bool (by first | exact HR.out | (rw [← HR.out]; simp)), rfl⟩
          · obtain ⟨v', hv'⟩ : ∃ v', v / 2 = v' := ⟨_, rfl⟩
            have q2 : (v : Int) / 2 = (v' : Int) := by omega
            have q3 : 0 < v := by omega
            have q4 : v' < v := by omega
            have HJ2 : Hid (j + 1 + M.bits v' = y) := by
              have h1 := M.bits_half hv0
              rw [hv'] at h1
              have := HJ.out
              show _ = _
              omega
            have hj2 : j + 1 ≤ 64 := by have := HJ2.out; omega
            clear HJ hv' hv0
            go_wp2_with fail
            go_round
            case rel => exact ⟨v', j + 1, rfl, by go_num, by omega, hj2, HJ2⟩
            case measure => simp [intOf]; omega
      · obtain ⟨v', hv'⟩ : ∃ v', v / 2 = v' := ⟨_, rfl⟩
        have q2 : (v : Int) / 2 = (v' : Int) := by omega
        have q3 : 0 < v := by omega
        have q4 : v' < v := by omega
        have HI2 : Hid (i + 1 + M.bits v' = x) := by
          have h1 := M.bits_half hv0
          rw [hv'] at h1
          have := HI.out
          show _ = _
          omega
        have hi2 : i + 1 ≤ 64 := by have := HI2.out; omega
        clear HI hv' hv0
        go_wp2_with fail
        go_round
        case rel => exact ⟨v', i + 1, rfl, by go_num, by omega, hi2, HI2⟩
        case measure => simp [intOf]; omega
  · have d1 : (d + (x : Int) != e + (y : Int)) = true := by rw [bne_iff_ne]; omega
    have d2 : decide (e + (y : Int) < d + (x : Int)) = true := decide_eq_true (by omega)
    clear hgt hx hy hD1 hD2
    go_enter Tryd.func24, Tryd.ntmps24
    go_wp2_with fail
    go_loop [9, 10] (fun xv pv => ∃ v i : Nat, xv = u64 v ∧ pv = .int .i64 (d + (i : Int)) ∧ v < 18446744073709551616 ∧ i ≤ 64 ∧ Hid (i + M.bits v = x)) (fun xv _ => (intOf xv).toNat)
    case atStart => exact ⟨a, 0, rfl, by go_num, ha, by omega, by show _ = _; rw [← HX.out]; omega⟩
    case round =>
      obtain ⟨v, i, rfl, rfl, hv, hi, HI⟩ := hrel
      by_cases hv0 : v = 0
      · subst hv0
        obtain rfl : x = i := by rw [← HI.out]; simp [M.bits]
        clear HI hv
        go_wp2_with fail
        go_loop [11, 12] (fun yv qv => ∃ v j : Nat, yv = u64 v ∧ qv = .int .i64 (e + (j : Int)) ∧ v < 18446744073709551616 ∧ j ≤ 64 ∧ Hid (j + M.bits v = y)) (fun yv _ => (intOf yv).toNat)
        case atStart => exact ⟨b, 0, rfl, by go_num, hb, by omega, by show _ = _; rw [← HY.out]; omega⟩
        case round =>
          obtain ⟨v, j, rfl, rfl, hv, hj, HJ⟩ := hrel
          by_cases hv0 : v = 0
          · subst hv0
            obtain rfl : y = j := by rw [← HJ.out]; simp [M.bits]
            clear HJ hv
            go_wp2_with fail
            go_ret
            exact ⟨rfl, rfl⟩
          · obtain ⟨v', hv'⟩ : ∃ v', v / 2 = v' := ⟨_, rfl⟩
            have q2 : (v : Int) / 2 = (v' : Int) := by omega
            have q3 : 0 < v := by omega
            have q4 : v' < v := by omega
            have HJ2 : Hid (j + 1 + M.bits v' = y) := by
              have h1 := M.bits_half hv0
              rw [hv'] at h1
              have := HJ.out
              show _ = _
              omega
            have hj2 : j + 1 ≤ 64 := by have := HJ2.out; omega
            clear HJ hv' hv0
            go_wp2_with fail
            go_round
            case rel => exact ⟨v', j + 1, rfl, by go_num, by omega, hj2, HJ2⟩
            case measure => simp [intOf]; omega
      · obtain ⟨v', hv'⟩ : ∃ v', v / 2 = v' := ⟨_, rfl⟩
        have q2 : (v : Int) / 2 = (v' : Int) := by omega
        have q3 : 0 < v := by omega
        have q4 : v' < v := by omega
        have HI2 : Hid (i + 1 + M.bits v' = x) := by
          have h1 := M.bits_half hv0
          rw [hv'] at h1
          have := HI.out
          show _ = _
          omega
        have hi2 : i + 1 ≤ 64 := by have := HI2.out; omega
        clear HI hv' hv0
        go_wp2_with fail
        go_round
        case rel => exact ⟨v', i + 1, rfl, by go_num, by omega, hi2, HI2⟩
        case measure => simp [intOf]; omega

set_option maxHeartbeats 4000000 in
set_option maxRecDepth 100000 in
theorem vorder_walk (w : World) (TT : Hid (Tz w)) (TF : Hid (TabF w)) (x0 : Int) (_wx0 : (Lit.int .i64 x0).wf = true) (x1 : Int) (wx1 : (Lit.int .u64 x1).wf = true) : Calls Tryd.prog 7 #[.int .i64 x0, .int .u64 x1] w (True7 w) := by
  obtain ⟨k, rfl, hk⟩ := nat_u6 wx1
  clear wx1
  obtain ⟨m, z, x, h1⟩ := M.ac_ex x0 k
  obtain ⟨n, y, x2, h2⟩ := M.bc_ex x0 k
  have CA := Lib.hid (fun W (T : Tz W) (F : TabF W) => vat_any W (Lib.hid T) (Lib.hid F) x0 k hk m z x h1)
  have CB := Lib.hid (fun W (T : Tz W) (F : TabF W) => vbetween_any W (Lib.hid T) (Lib.hid F) x0 k hk n y x2 h2)
  have hx : (x ≠ 0 ∧ x2 = x) ∨ (x = 0 ∧ x2 = 0 ∧ ∃ i : Nat, x0 = i ∧ 1 ≤ i ∧ i ≤ 14 ∧ (k : Int) ≤ M.tp (M.tb i) ∧ M.Mg0 (M.tb i) k m z ∧ M.Bd (M.tb i) k n y) := by
    rcases h1 with ⟨h, rfl, rfl, rfl⟩ | ⟨i, rfl, a, b, ⟨h, rfl, rfl, rfl⟩ | ⟨h, hm, rfl⟩⟩
    · rcases h2 with ⟨h', rfl, rfl, rfl⟩ | ⟨i', e, a', b', _⟩
      · exact .inl ⟨by decide, rfl⟩
      · omega
    · rcases h2 with ⟨h', _⟩ | ⟨i', e, a', b', ⟨h', rfl, rfl, rfl⟩ | ⟨h', _⟩⟩
      · omega
      · exact .inl ⟨by decide, rfl⟩
      · obtain rfl : i = i' := by omega
        omega
    · rcases h2 with ⟨h', _⟩ | ⟨i', e, a', b', ⟨h', _⟩ | ⟨h', hb, rfl⟩⟩
      · omega
      · obtain rfl : i = i' := by omega
        omega
      · obtain rfl : i = i' := by omega
        exact .inr ⟨rfl, rfl, i, rfl, a, b, h, hm, hb⟩
  clear h1 h2
  rcases hx with ⟨hx, rfl⟩ | ⟨rfl, rfl, i, rfl, a, b, hkt, hm, hb⟩
  ·
    have d1 : (x2 != 0) = true := by simpa using hx
    have d2 : (x2 == x2) = true := by simp
    clear hx
    have U := Up.refl w
    go_enter Tryd.func7, Tryd.ntmps7
    go_wp2_with fail
    refine (vshown_any _ (Lib.hid (TT.out.up U)) (Lib.hid (TF.out.up U))).mono ?_
    rintro _ w1 ⟨rfl, h1⟩
    replace U := U.trans h1
    clear h1
    go_wp2_with fail
    refine (CA.out _ (TT.out.up U) (TF.out.up U)).mono ?_
    rintro _ w2 ⟨rfl, h2⟩
    replace U := U.trans h2
    clear h2
    go_wp2_with fail
    refine (CB.out _ (TT.out.up U) (TF.out.up U)).mono ?_
    rintro _ w3 ⟨rfl, h3⟩
    replace U := U.trans h3
    clear h3
    go_wp2_with fail
    go_ret
    exact ⟨by first | rfl | simp, by first | exact U | exact U.alloc _⟩
  ·
    have k1 := (tp_le (M.ok i a b) (M.ok2 i a b) hkt).1
    have nz := M.bd_nz hb
    have mr := M.mg_rng hk hm
    have nr := M.bd_rng hb
    have C1 : Hid (∀ W, Calls Tryd.prog 24 #[u64 n, .int .i64 y, u64 m, .int .i64 z] W (Same (.bool true) W)) := fun W => by
      rcases M.gt_mid hm hb with h | ⟨h, hg⟩
      · exact above_zero W n y m z h nz
      · exact above_any W n y m z (by omega) (by omega) (by omega) (by omega) (by omega) (by omega) hg
    obtain ⟨m', z', x', h3⟩ := M.ac_ex (i : Int) (k + 1)
    have CA2 : Hid (∀ W, Tz W → TabF W → Calls Tryd.prog 20 #[.int .i64 (i : Int), .int .u64 ((k : Int) + 1)] W (Mzx m' z' x' W)) := fun W T F => by
      have h := vat_any W (Lib.hid T) (Lib.hid F) (i : Int) (k + 1) (by omega) m' z' x' h3
      rw [show u64 (k + 1) = .int .u64 ((k : Int) + 1) by unfold u64; congr 1] at h
      exact h
    have hx : (x' ≠ 0) ∨ (x' = 0 ∧ M.Mg0 (M.tb i) (k + 1) m' z') := by
      rcases h3 with ⟨h, rfl, rfl, rfl⟩ | ⟨i', e, a', b', ⟨h, rfl, rfl, rfl⟩ | ⟨h, hm', rfl⟩⟩
      · exact .inl (by decide)
      · exact .inl (by decide)
      · obtain rfl : i = i' := by omega
        exact .inr ⟨rfl, hm'⟩
    clear h3
    rcases hx with hx | ⟨rfl, hm'⟩
    ·
      have d1 : (x' != 0) = true := by simpa using hx
      clear hx hm hb hkt mr nr nz
      have U := Up.refl w
      go_enter Tryd.func7, Tryd.ntmps7
      go_wp2_with fail
      refine (vshown_any _ (Lib.hid (TT.out.up U)) (Lib.hid (TF.out.up U))).mono ?_
      rintro _ w1 ⟨rfl, h1⟩
      replace U := U.trans h1
      clear h1
      go_wp2_with fail
      refine (CA.out _ (TT.out.up U) (TF.out.up U)).mono ?_
      rintro _ w2 ⟨rfl, h2⟩
      replace U := U.trans h2
      clear h2
      go_wp2_with fail
      refine (CB.out _ (TT.out.up U) (TF.out.up U)).mono ?_
      rintro _ w3 ⟨rfl, h3⟩
      replace U := U.trans h3
      clear h3
      go_wp2_with fail
      refine (C1.out _).mono ?_
      rintro _ _ ⟨rfl, rfl⟩
      go_wp2_with fail
      refine (CA2.out _ (TT.out.up U) (TF.out.up U)).mono ?_
      rintro _ w4 ⟨rfl, h4⟩
      replace U := U.trans h4
      clear h4
      go_wp2_with fail
      go_ret
      exact ⟨by first | rfl | simp, by first | exact U | exact U.alloc _⟩
    ·
      have mr' := M.mg_rng (by omega) hm'
      obtain ⟨xz, hg⟩ := M.gt_next hb hm'
      have C2 := Lib.hid (fun W => above_any W m' z' n y (by omega) (by omega) (by omega) (by omega) (by omega) (by omega) hg)
      clear hm hb hkt mr nr nz mr' hm' hg xz
      have U := Up.refl w
      go_enter Tryd.func7, Tryd.ntmps7
      go_wp2_with fail
      refine (vshown_any _ (Lib.hid (TT.out.up U)) (Lib.hid (TF.out.up U))).mono ?_
      rintro _ w1 ⟨rfl, h1⟩
      replace U := U.trans h1
      clear h1
      go_wp2_with fail
      refine (CA.out _ (TT.out.up U) (TF.out.up U)).mono ?_
      rintro _ w2 ⟨rfl, h2⟩
      replace U := U.trans h2
      clear h2
      go_wp2_with fail
      refine (CB.out _ (TT.out.up U) (TF.out.up U)).mono ?_
      rintro _ w3 ⟨rfl, h3⟩
      replace U := U.trans h3
      clear h3
      go_wp2_with fail
      refine (C1.out _).mono ?_
      rintro _ _ ⟨rfl, rfl⟩
      go_wp2_with fail
      refine (CA2.out _ (TT.out.up U) (TF.out.up U)).mono ?_
      rintro _ w4 ⟨rfl, h4⟩
      replace U := U.trans h4
      clear h4
      go_wp2_with fail
      refine (C2.out _).mono ?_
      rintro _ _ ⟨rfl, rfl⟩
      go_wp2_with fail
      go_ret
      exact ⟨by first | rfl | simp, by first | exact U | exact U.alloc _⟩
end Go.Proofs.YtjcbncfpcechnaaDoor
