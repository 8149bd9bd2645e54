/-
  Package mini: what Key comes to.
-/
import Derived.Test.YtajfcdkdfmnmhaaDoorMq
import Derived.Test.YtajfcdkdfmnmhaaDoorLz
namespace Go.Proofs.YtajfcdkdfmnmhaaDoor
open Go.RowKit Go.Shelf

theorem k10000 (x : Int) (h1 : -2200 ≤ x) (h2 : x ≤ 6300) : decide (x < -10000) = false ∧ decide (10000 < x) = false := ⟨decide_eq_false (by omega), decide_eq_false (by omega)⟩
set_option maxHeartbeats 4000000 in
theorem mkey_any (w : World) (TW : Hid (Tz w)) (p k m0 m t : Nat) (b e0 z : Int) (hk : k < 18446744073709551616) (ho : M.mok p b k) (hm0 : m0 < 18446744073709551616) (he : m0 = m * 2 ^ t)
    (_e1 : -9223372036854775808 ≤ e0) (_e2 : e0 ≤ 9223372036854775807) (hz : m ≠ 0 → e0 + t = z) (h : M.IsM p b k m z) :
    Calls Tryd.prog 13 #[.int .i64 (p : Int), .int .i64 b, u64 m0, .int .i64 e0] w (Kn6 k 0 w) := by
  have U := Up.refl w
  have CM := Lib.hid (fun W => isMan_any W p true (decide_eq_true ⟨by omega, by have := ho.1; omega⟩))
  have CB := Lib.hid (fun W => isBias_any W b true (decide_eq_true ⟨ho.2.1, ho.2.2.1⟩))
  by_cases h0 : m = 0
  · subst h0
    obtain rfl : k = 0 := h.zero.1.1 rfl
    obtain rfl : m0 = 0 := by rw [he, Nat.zero_mul]
    clear he hz h hm0 hk _e1 _e2
    go_enter Tryd.func13, Tryd.ntmps13
    go_wp2_with fail
    refine (CM.out _).mono ?_
    rintro _ _ ⟨rfl, rfl⟩
    go_wp2_with fail
    refine (CB.out _).mono ?_
    rintro _ _ ⟨rfl, rfl⟩
    go_wp2_with fail
    go_ret2
    exact ⟨rfl, U⟩
  · obtain ⟨F, u, F1, Fg, hF, hu, hsum, u62⟩ := M.key_nums hk ho h h0
    obtain ⟨g, hg⟩ : ∃ g, min 4095 (18446744073709551615 / 2 ^ p) = g := ⟨_, rfl⟩
    have CG := Lib.hid (fun W => greatest_any W p g ho.1 (Lib.hid hg))
    rw [hg] at Fg
    have F5 : F ≤ 4095 := by omega
    have hr := h.rng ho
    have ho2 := h.zero.2 h0
    replace hz := hz h0
    have t64 : t < 64 := by
      refine M.p2inj (a := t) (b := 64) ?_
      have p3 : 2 ^ t ≤ m * 2 ^ t := Nat.le_mul_of_pos_left _ (by omega)
      have c64 : (2 : Nat) ^ 64 = 18446744073709551616 := by decide
      omega
    obtain ⟨p60, b1, b2, _⟩ := ho
    have CT := Lib.hid (fun W (T : Tz W) => tz_any W T m0 m t hm0 he ho2)
    have hL := M.bits_le_of_lt (a := m) (k := 64) (by have c64 : (2 : Nat) ^ 64 = 18446744073709551616 := by decide
                                                      omega)
    have CL := Lib.hid (fun W => len64_any m (by omega) W)
    have CU := Lib.hid (fun W => unit_any W p F b p60 b1 b2 (by omega))
    obtain ⟨L, hL'⟩ : ∃ L, M.bits m = L := ⟨_, rfl⟩
    rw [hL'] at hF hL CL
    have d0 : ((m0 : Int) == 0) = false := by
      rw [beq_eq_false_iff_ne]
      have : 0 < m * 2 ^ t := Nat.mul_pos (by omega) (M.p2 t)
      omega
    have dv : (m0 : Int) / 2 ^ t = (m : Int) := shr_cast (by rw [he]; exact Nat.mul_div_cancel _ (M.p2 t))
    obtain ⟨f1, f2⟩ := k10000 e0 (by omega) (by omega)
    obtain ⟨z1, z2, z3⟩ := hr
    obtain ⟨G, rfl⟩ : ∃ G, F = G + 1 := ⟨F - 1, by omega⟩
    rw [Nat.add_sub_cancel] at hsum
    obtain ⟨P, hP⟩ : ∃ P : Nat, 2 ^ p = P := ⟨_, rfl⟩
    obtain ⟨T, hT⟩ : ∃ T : Nat, 2 ^ u = T := ⟨_, rfl⟩
    have pz : (2 : Int) ^ p = (P : Int) := by rw [← hP]; push_cast; rfl
    have tz : (2 : Int) ^ u = (T : Int) := by rw [← hT]; push_cast; rfl
    rw [hP, hT] at hsum
    obtain ⟨A, hA⟩ : ∃ A, G * P = A := ⟨_, rfl⟩
    obtain ⟨B, hB⟩ : ∃ B, m * T = B := ⟨_, rfl⟩
    have qa : (G : Int) * (P : Int) = (A : Int) := by rw [← hA]; push_cast; rfl
    have qb : (m : Int) * (T : Int) = (B : Int) := by rw [← hB]; push_cast; rfl
    rw [hA, hB] at hsum
    have qs : (A : Int) + (B : Int) = (k : Int) := by omega
    have A64 : (A : Int) ≤ 18446744073709551615 := by omega
    have B64 : (B : Int) ≤ 18446744073709551615 := by omega
    have kw : IntKind.u64.wrap (k : Int) = (k : Int) := by rw [IntKind.wrap_u64]; omega
    have aw : IntKind.u64.wrap (A : Int) = (A : Int) := by rw [IntKind.wrap_u64]; omega
    have bw : IntKind.u64.wrap (B : Int) = (B : Int) := by rw [IntKind.wrap_u64]; omega
    have qF : ((G + 1 : Nat) : Int) - 1 = (G : Int) := by omega
    have qg : ¬ g < G + 1 := by omega
    obtain ⟨F, hFF⟩ : ∃ F : Nat, G + 1 = F := ⟨_, rfl⟩
    rw [hFF] at hF hu CU qF qg F1 F5 Fg
    have U2 : z - ((F : Int) - b - p) = (u : Int) := hu
    have Z0 : e0 + (t : Int) = z := hz
    clear he hg hP hT hA hB h ho2 h0 hm0 hL' hsum hu hz hFF Fg
    go_enter Tryd.func13, Tryd.ntmps13
    go_wp2_with fail
    refine (CM.out _).mono ?_
    rintro _ _ ⟨rfl, rfl⟩
    go_wp2_with fail
    refine (CB.out _).mono ?_
    rintro _ _ ⟨rfl, rfl⟩
    go_wp2_with fail
    refine (CT.out _ TW.out).mono ?_
    rintro _ _ ⟨rfl, rfl⟩
    go_wp2_with fail
    refine (CL.out _).mono ?_
    rintro _ _ ⟨rfl, rfl⟩
    go_wp2_with fail
    refine (CU.out _).mono ?_
    rintro _ _ ⟨rfl, rfl⟩
    go_wp2_with fail
    refine (CG.out _).mono ?_
    rintro _ _ ⟨rfl, rfl⟩
    go_wp2_with fail
    go_quiet (fail)
    go_wp2_with fail
    go_ret2
    exact ⟨rfl, by first | exact U | exact U.drewN _⟩
end Go.Proofs.YtajfcdkdfmnmhaaDoor
