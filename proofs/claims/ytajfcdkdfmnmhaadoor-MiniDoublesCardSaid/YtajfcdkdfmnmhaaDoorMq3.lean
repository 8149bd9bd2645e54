/-
  Package mini: where Key finds no magnitude; what is asked of mini.
-/
import Derived.Test.YtajfcdkdfmnmhaaDoorMq2
namespace Go.Proofs.YtajfcdkdfmnmhaaDoor
open Go.RowKit Go.Shelf

set_option maxHeartbeats 1000000 in
theorem mkey_none (w : World) (TW : Hid (Tz w)) (p m0 m t : Nat) (b e0 : Int) (p60 : p ≤ 60) (b1 : -2000 ≤ b) (b2 : b ≤ 2000) (hm0 : m0 < 18446744073709551616) (he : m0 = m * 2 ^ t) (ho : m % 2 = 1)
    (e1 : -9223372036854775808 ≤ e0) (e2 : e0 ≤ 9223372036854775807) (h : ∀ k, M.mok p b k → ¬ M.IsM p b k m (e0 + t)) :
    Calls Tryd.prog 13 #[.int .i64 (p : Int), .int .i64 b, u64 m0, .int .i64 e0] w (Kn6 0 8 w) := by
  have U := Up.refl w
  have CM := Lib.hid (fun W => isMan_any W p true (decide_eq_true ⟨by omega, by omega⟩))
  have CB := Lib.hid (fun W => isBias_any W b true (decide_eq_true ⟨b1, b2⟩))
  have d0 : ((m0 : Int) == 0) = false := by
    rw [beq_eq_false_iff_ne]
    have : 0 < m * 2 ^ t := Nat.mul_pos (by omega) (M.p2 t)
    omega
  by_cases c1 : e0 < -10000
  · have f1 : decide (e0 < -10000) = true := decide_eq_true c1
    clear he h hm0 ho c1
    go_enter Tryd.func13, Tryd.ntmps13
    go_wp2_with fail
    refine (CM.out _).mono ?_
    rintro _ _ ⟨rfl, rfl⟩
    go_wp2_with fail
    refine (CB.out _).mono ?_
    rintro _ _ ⟨rfl, rfl⟩
    go_wp2_with fail
    go_ret2
    exact ⟨rfl, U⟩
  have f1 : decide (e0 < -10000) = false := decide_eq_false c1
  by_cases c2 : 10000 < e0
  · have f2 : decide (10000 < e0) = true := decide_eq_true c2
    clear he h hm0 ho c1 c2
    go_enter Tryd.func13, Tryd.ntmps13
    go_wp2_with fail
    refine (CM.out _).mono ?_
    rintro _ _ ⟨rfl, rfl⟩
    go_wp2_with fail
    refine (CB.out _).mono ?_
    rintro _ _ ⟨rfl, rfl⟩
    go_wp2_with fail
    go_ret2
    exact ⟨rfl, U⟩
  have f2 : decide (10000 < e0) = false := decide_eq_false c2
  have t64 : t < 64 := by
    refine M.p2inj (a := t) (b := 64) ?_
    have p3 : 2 ^ t ≤ m * 2 ^ t := Nat.le_mul_of_pos_left _ (by omega)
    have c64 : (2 : Nat) ^ 64 = 18446744073709551616 := by decide
    omega
  have hml : m < 18446744073709551616 := by
    have p3 : m ≤ m * 2 ^ t := Nat.le_mul_of_pos_right _ (M.p2 t)
    omega
  have hL := M.bits_le_of_lt (a := m) (k := 64) (by have c64 : (2 : Nat) ^ 64 = 18446744073709551616 := by decide
                                                    omega)
  have CT := Lib.hid (fun W (T : Tz W) => tz_any W T m0 m t hm0 he ho)
  have CL := Lib.hid (fun W => len64_any m hml W)
  obtain ⟨z, Z0⟩ : ∃ z, e0 + (t : Int) = z := ⟨_, rfl⟩
  rw [Z0] at h
  have z1 : -11000 ≤ z ∧ z ≤ 11000 := by omega
  obtain ⟨F, hF⟩ : ∃ F : Nat, max (b + z + (M.bits m : Int) - 1) 1 = (F : Int) := ⟨(max (b + z + (M.bits m : Int) - 1) 1).toNat, by omega⟩
  have hF1 : 1 ≤ F := by omega
  have hF5 : F ≤ 100000 := by omega
  have CU := Lib.hid (fun W => unit_any W p F b p60 b1 b2 hF5)
  obtain ⟨u, hu⟩ : ∃ u, z - ((F : Int) - b - p) = u := ⟨_, rfl⟩
  have dv : (m0 : Int) / 2 ^ t = (m : Int) := shr_cast (by rw [he]; exact Nat.mul_div_cancel _ (M.p2 t))
  by_cases c3 : u < 0
  · have g1 : decide (u < 0) = true := decide_eq_true c3
    obtain ⟨L, hL'⟩ : ∃ L, M.bits m = L := ⟨_, rfl⟩
    rw [hL'] at hF hL CL
    clear he h hm0 ho c1 c2 c3 hL'
    go_enter Tryd.func13, Tryd.ntmps13
    go_wp2_with fail
    refine (CM.out _).mono ?_
    rintro _ _ ⟨rfl, rfl⟩
    go_wp2_with fail
    refine (CB.out _).mono ?_
    rintro _ _ ⟨rfl, rfl⟩
    go_wp2_with fail
    refine (CT.out _ TW.out).mono ?_
    rintro _ _ ⟨rfl, rfl⟩
    go_wp2_with fail
    refine (CL.out _).mono ?_
    rintro _ _ ⟨rfl, rfl⟩
    go_wp2_with fail
    refine (CU.out _).mono ?_
    rintro _ _ ⟨rfl, rfl⟩
    go_wp2_with fail
    go_ret2
    exact ⟨rfl, U⟩
  have g1 : decide (u < 0) = false := decide_eq_false c3
  obtain ⟨g, hg⟩ : ∃ g, min 4095 (18446744073709551615 / 2 ^ p) = g := ⟨_, rfl⟩
  have CG := Lib.hid (fun W => greatest_any W p g p60 (Lib.hid hg))
  by_cases c4 : g < F
  · obtain ⟨L, hL'⟩ : ∃ L, M.bits m = L := ⟨_, rfl⟩
    rw [hL'] at hF hL CL
    clear he h hm0 ho c1 c2 c3 hL' hg
    go_enter Tryd.func13, Tryd.ntmps13
    go_wp2_with fail
    refine (CM.out _).mono ?_
    rintro _ _ ⟨rfl, rfl⟩
    go_wp2_with fail
    refine (CB.out _).mono ?_
    rintro _ _ ⟨rfl, rfl⟩
    go_wp2_with fail
    refine (CT.out _ TW.out).mono ?_
    rintro _ _ ⟨rfl, rfl⟩
    go_wp2_with fail
    refine (CL.out _).mono ?_
    rintro _ _ ⟨rfl, rfl⟩
    go_wp2_with fail
    refine (CU.out _).mono ?_
    rintro _ _ ⟨rfl, rfl⟩
    go_wp2_with fail
    refine (CG.out _).mono ?_
    rintro _ _ ⟨rfl, rfl⟩
    go_wp2_with fail
    go_ret2
    exact ⟨rfl, U⟩
  · exfalso
    obtain ⟨v, rfl⟩ := Int.eq_ofNat_of_zero_le (show 0 ≤ u by omega)
    obtain ⟨k, h1, h2⟩ := M.key_found p60 b1 b2 ho hF hu (by omega)
    exact h k h1 h2
theorem mini_face : Mini where
  split := fun w _ => msplit_any w
  splitBad := fun w _ => msplit_bad w
  value := fun w T p k m b z => mvalue_any w (Lib.hid T) p k m b z
  valueBad := fun w _ => mvalue_bad w
  key := fun w T p k m0 m t b e0 z => mkey_any w (Lib.hid T) p k m0 m t b e0 z
  keyNone := fun w T p m0 m t b e0 => mkey_none w (Lib.hid T) p m0 m t b e0
end Go.Proofs.YtajfcdkdfmnmhaaDoor
