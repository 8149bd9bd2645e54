/-
  MiniRises.
-/
import Derived.Test.YtajfcdkdfmnmhaaDoorMc
namespace Go.Proofs.YtajfcdkdfmnmhaaDoor
open Go.RowKit
namespace M
theorem rises {p k m m' : Nat} {b z z' : Int} (h : IsM p b k m z) (h' : IsM p b (k + 1) m' z') :
    ((m = 0 ∧ mX p k = 0) ∨ (0 < m ∧ ∃ t : Nat, mX p k = m * 2 ^ t ∧ z = mS p b k + t)) ∧ ∃ u : Nat, z' = mS p b k + u ∧ m' * 2 ^ u = mX p k + 1 := by
  refine ⟨?_, ?_⟩
  · rcases h with ⟨h1, h2, h3⟩ | ⟨h1, t, h2, h3⟩
    · exact .inl ⟨h2, h1⟩
    · exact .inr ⟨by omega, t, h2, h3⟩
  · rcases h' with ⟨h1, h2, h3⟩ | ⟨h1, t, h2, h3⟩
    · have := mX_zero.1 h1
      omega
    · have hv := mv_succ p k
      have s1 := mS_eq p b k
      have s2 := mS_eq p b (k + 1)
      unfold mv at hv
      have hg : max (k / 2 ^ p) 1 - 1 ≤ max ((k + 1) / 2 ^ p) 1 - 1 := by
        have : k / 2 ^ p ≤ (k + 1) / 2 ^ p := Nat.div_le_div_right (Nat.le_succ _)
        omega
      obtain ⟨d, hd⟩ : ∃ d, max ((k + 1) / 2 ^ p) 1 - 1 = max (k / 2 ^ p) 1 - 1 + d := ⟨_, (Nat.add_sub_cancel' hg).symm⟩
      obtain ⟨g, hgg⟩ : ∃ g, max (k / 2 ^ p) 1 - 1 = g := ⟨_, rfl⟩
      rw [hd, hgg] at hv s2
      rw [hgg] at s1
      refine ⟨t + d, by omega, ?_⟩
      rw [← Nat.add_one_mul, Nat.pow_add, Nat.mul_comm (2 ^ g), ← Nat.mul_assoc] at hv
      have := Nat.eq_of_mul_eq_mul_right (p2 g) hv
      rw [← this, h2, Nat.pow_add, Nat.mul_assoc]
end M
set_option maxHeartbeats 4000000 in
set_option maxRecDepth 100000 in
theorem mrises_walk (w : World) (TT : Hid (Tz w)) (C : Mini) (x0 : Int) (_wx0 : (Lit.int .i64 x0).wf = true) (x1 : Int) (_wx1 : (Lit.int .i64 x1).wf = true) (x2 : Int) (wx2 : (Lit.int .u64 x2).wf = true) : Calls Tryd.prog 5 #[.int .i64 x0, .int .i64 x1, .int .u64 x2] w (True6 w) := by
  obtain ⟨k, rfl, hk⟩ := nat_u6 wx2
  clear wx2
  by_cases kmax : k = 18446744073709551615
  ·
    subst kmax
    have U := Up.refl w
    go_enter Tryd.func5, Tryd.ntmps5
    go_wp2_with fail
    refine (mshown_any _ (Lib.hid (TT.out.up U)) C).mono ?_
    rintro _ w1 ⟨rfl, h1⟩
    replace U := U.trans h1
    clear h1
    go_wp2_with fail
    go_ret
    exact ⟨rfl, U⟩
  ·
    have kx : ((k : Int) == 18446744073709551615) = false := by rw [beq_eq_false_iff_ne]; omega
    have k1 : k + 1 < 18446744073709551616 := by omega
    have V2 : ∀ m z x, Hid (∀ W, Tz W → Calls Tryd.prog 9 #[.int .i64 x0, .int .i64 x1, u64 (k + 1)] W (Vn6 m z x W)) → Hid (∀ W, Tz W → Calls Tryd.prog 9 #[.int .i64 x0, .int .i64 x1, .int .u64 ((k : Int) + 1)] W (Vn6 m z x W)) := fun m z x h W TW => by
      have h2 := h.out W TW
      have e2 : u64 (k + 1) = .int .u64 ((k : Int) + 1) := by unfold u64; congr 1
      rw [e2] at h2
      exact h2
    clear kmax
    by_cases h : bad6 x0 x1 k
    ·
      have C1 := Lib.hid (fun W (TW : Tz W) => C.valueBad W TW x0 x1 k hk h)
      obtain ⟨m, z, x, C2⟩ : ∃ m z x, Hid (∀ W, Tz W → Calls Tryd.prog 9 #[.int .i64 x0, .int .i64 x1, .int .u64 ((k : Int) + 1)] W (Vn6 m z x W)) := by
        by_cases h2 : bad6 x0 x1 (k + 1)
        · exact ⟨0, 0, 1, V2 _ _ _ (fun W TW => C.valueBad W TW x0 x1 (k + 1) k1 h2)⟩
        · obtain ⟨p, rfl, ho⟩ := of_bad6 h2
          obtain ⟨m, z, hm⟩ := M.ism_ex p x1 (k + 1)
          exact ⟨m, z, 0, V2 _ _ _ (fun W TW => C.value W TW p (k + 1) m x1 z k1 ho hm)⟩
      clear h V2
      have U := Up.refl w
      go_enter Tryd.func5, Tryd.ntmps5
      go_wp2_with fail
      refine (mshown_any _ (Lib.hid (TT.out.up U)) C).mono ?_
      rintro _ w1 ⟨rfl, h1⟩
      replace U := U.trans h1
      clear h1
      go_wp2_with fail
      refine (C1.out _ (TT.out.up U)).mono ?_
      rintro _ w2 ⟨rfl, h2⟩
      replace U := U.trans h2
      clear h2
      go_wp2_with fail
      refine (C2.out _ (TT.out.up U)).mono ?_
      rintro _ w3 ⟨rfl, h3⟩
      replace U := U.trans h3
      clear h3
      go_wp2_with fail
      go_ret
      exact ⟨rfl, U⟩
    ·
      obtain ⟨p, rfl, ho⟩ := of_bad6 h
      clear h
      obtain ⟨m, z, hm⟩ := M.ism_ex p x1 k
      have C1 := Lib.hid (fun W (TW : Tz W) => C.value W TW p k m x1 z hk ho hm)
      by_cases h : bad6 (p : Int) x1 (k + 1)
      ·
        have C2 := V2 _ _ _ (fun W TW => C.valueBad W TW (p : Int) x1 (k + 1) k1 h)
        clear h V2 hm ho
        have U := Up.refl w
        go_enter Tryd.func5, Tryd.ntmps5
        go_wp2_with fail
        refine (mshown_any _ (Lib.hid (TT.out.up U)) C).mono ?_
        rintro _ w1 ⟨rfl, h1⟩
        replace U := U.trans h1
        clear h1
        go_wp2_with fail
        refine (C1.out _ (TT.out.up U)).mono ?_
        rintro _ w2 ⟨rfl, h2⟩
        replace U := U.trans h2
        clear h2
        go_wp2_with fail
        refine (C2.out _ (TT.out.up U)).mono ?_
        rintro _ w3 ⟨rfl, h3⟩
        replace U := U.trans h3
        clear h3
        go_wp2_with fail
        go_ret
        exact ⟨rfl, U⟩
      ·
        obtain ⟨p', ep, ho'⟩ := of_bad6 h
        obtain rfl : p = p' := by omega
        clear h ep
        obtain ⟨m', z', hm'⟩ := M.ism_ex p x1 (k + 1)
        have C2 := V2 _ _ _ (fun W TW => C.value W TW p (k + 1) m' x1 z' k1 ho' hm')
        obtain ⟨f, hf⟩ : ∃ f, k / 2 ^ p = f := ⟨_, rfl⟩
        obtain ⟨a, ha⟩ : ∃ a, k % 2 ^ p = a := ⟨_, rfl⟩
        have C3 := Lib.hid (fun W (TW : Tz W) => C.split W TW p k f a ho.1 hk ho.2.2.2 hf ha)
        obtain ⟨r1, u, r2, r3⟩ := M.rises hm hm'
        have hl := M.mX_lt p k
        have P60 : 2 ^ p ≤ 1152921504606846976 := by
          have h1 := M.p2le (b := 60) ho.1
          have h2 : (2 : Nat) ^ 60 = 1152921504606846976 := by decide
          omega
        obtain ⟨X, hX⟩ : ∃ X, M.mX p k = X := ⟨_, rfl⟩
        obtain ⟨S, hS⟩ : ∃ S, M.mS p x1 k = S := ⟨_, rfl⟩
        rw [hX] at r1 r3 hl
        rw [hS] at r1 r2
        have Xb : X < 2305843009213693952 := by omega
        have hS2 : (f = 0 → 1 - x1 - (p : Int) = S) ∧ (f ≠ 0 → (f : Int) - x1 - (p : Int) = S) := by
          rw [← hS]
          exact ⟨fun h => (mS_z (by rw [hf, h])).symm, fun h => (mS_nz hf h).symm⟩
        have f4 : f ≤ 4095 := by rw [← hf]; exact ho.2.2.2
        have b1 := ho.2.1
        have b2 := ho.2.2.1
        have p60 := ho.1
        have m64 : m < 18446744073709551616 := by have := (hm.rng ho).1; omega
        have m64' : m' < 18446744073709551616 := by have := (hm'.rng ho').1; omega
        have m0' : 0 < m' := by
          rcases Nat.eq_zero_or_pos m' with e | e
          · rw [e, Nat.zero_mul] at r3; omega
          · exact e
        have u62 : u < 62 := by
          have p3 : 2 ^ u ≤ m' * 2 ^ u := Nat.le_mul_of_pos_left _ m0'
          exact M.p2inj (by have : (2 : Nat) ^ 62 = 4611686018427387904 := by decide
                            omega)
        have zb := (hm.rng ho).2
        have R1 := Lib.hid r1
        have R3 := Lib.hid r3
        clear hf ha hm hm' ho ho' hX hS hl P60 V2 r1 r3
        rcases (show f = 0 ∨ f = 1 ∨ 1 < f by omega) with f0 | f0 | f0
        ·
          subst f0
          have e1 := hS2.1 rfl
          clear hS2
          have Sb : -2100 ≤ S ∧ S ≤ 6200 := by omega
          have U := Up.refl w
          go_enter Tryd.func5, Tryd.ntmps5
          go_wp2_with fail
          refine (mshown_any _ (Lib.hid (TT.out.up U)) C).mono ?_
          rintro _ w1 ⟨rfl, h1⟩
          replace U := U.trans h1
          clear h1
          go_wp2_with fail
          refine (C1.out _ (TT.out.up U)).mono ?_
          rintro _ w2 ⟨rfl, h2⟩
          replace U := U.trans h2
          clear h2
          go_wp2_with fail
          refine (C2.out _ (TT.out.up U)).mono ?_
          rintro _ w3 ⟨rfl, h3⟩
          replace U := U.trans h3
          clear h3
          go_wp2_with fail
          refine (C3.out _ (TT.out.up U)).mono ?_
          rintro _ w4 ⟨rfl, h4⟩
          replace U := U.trans h4
          clear h4
          go_wp2_with fail
          go_loop [8, 18] (fun xv iv => ∃ (x : Nat) (i : Int), xv = u64 x ∧ iv = .int .i64 i ∧ x < 18446744073709551616 ∧ ((x = 0 ∧ X = 0 ∧ i = z) ∨ (0 < x ∧ ∃ s : Nat, i = S + s ∧ s ≤ 9000 ∧ Hid (x * 2 ^ s = X)))) (fun _ iv => (intOf iv - S).toNat)
          case atStart =>
            refine ⟨m, z, rfl, rfl, m64, ?_⟩
            rcases R1.out with ⟨h1, h2⟩ | ⟨h1, t, h2, h3⟩
            · exact .inl ⟨h1, h2, rfl⟩
            · exact .inr ⟨h1, t, h3, by omega, h2.symm⟩
          case round =>
            obtain ⟨x, i, rfl, rfl, hx, hxi⟩ := hrel
            rcases hxi with ⟨rfl, hX0, rfl⟩ | ⟨hx0, s, rfl, hs, HX⟩
            · subst hX0
              rcases (show S < i ∨ ¬ S < i by omega) with hsi | hsi
              all_goals
                go_wp2_with fail
                go_loop [11, 19] (fun yv jv => ∃ (v s : Nat), yv = .int .u64 (v : Int) ∧ jv = .int .i64 (S + (s : Int)) ∧ 0 < v ∧ v < 18446744073709551616 ∧ s ≤ 62 ∧ Hid (v * 2 ^ s = 0 + 1)) (fun _ jv => (intOf jv - S).toNat)
                case atStart => exact ⟨m', u, rfl, by first | rfl | rw [r2], m0', m64', by omega, R3.out⟩
                case round =>
                  obtain ⟨v, s, rfl, rfl, hv0, hv, hs, HV⟩ := hrel
                  rcases Nat.eq_zero_or_pos s with s0 | s0
                  · subst s0
                    have hV : v = 0 + 1 := by have := HV.out; simpa using this
                    have hb : ((v : Int) == (0 : Int) + 1) = true := by rw [beq_iff_eq]; omega
                    have hsi2 : ¬ S < S + ((0 : Nat) : Int) := by omega
                    subst hV
                    clear HV
                    go_wp2_with fail
                    go_ret
                    exact ⟨by first | rfl | simp, U⟩
                  · obtain ⟨q, rfl⟩ : ∃ q, s = q + 1 := ⟨s - 1, by omega⟩
                    have hsi2 : S < S + ((q + 1 : Nat) : Int) := by omega
                    have HV2 : Hid (2 * v * 2 ^ q = 0 + 1) := by
                      have := HV.out
                      rw [M.p2s] at this
                      show _ = _
                      rw [← this]
                      ac_rfl
                    have v2 : 2 * v < 18446744073709551616 := by
                      have := HV2.out
                      have : 2 * v ≤ 2 * v * 2 ^ q := Nat.le_mul_of_pos_right _ (M.p2 q)
                      omega
                    clear HV
                    go_wp2_with fail
                    go_round
                    case rel => exact ⟨2 * v, q, by go_num, by go_num, by omega, v2, by omega, HV2⟩
                    case measure => simp [intOf]; omega
            · rcases Nat.eq_zero_or_pos s with s0 | s0
              · subst s0
                obtain rfl : x = X := by have := HX.out; simpa using this
                clear HX
                have hsi : ¬ S < S + ((0 : Nat) : Int) := by omega
                go_wp2_with fail
                go_loop [11, 19] (fun yv jv => ∃ (v s : Nat), yv = .int .u64 (v : Int) ∧ jv = .int .i64 (S + (s : Int)) ∧ 0 < v ∧ v < 18446744073709551616 ∧ s ≤ 62 ∧ Hid (v * 2 ^ s = x + 1)) (fun _ jv => (intOf jv - S).toNat)
                case atStart => exact ⟨m', u, rfl, by first | rfl | rw [r2], m0', m64', by omega, R3.out⟩
                case round =>
                  obtain ⟨v, s, rfl, rfl, hv0, hv, hs, HV⟩ := hrel
                  rcases Nat.eq_zero_or_pos s with s0 | s0
                  · subst s0
                    have hV : v = x + 1 := by have := HV.out; simpa using this
                    have hb : ((v : Int) == (x : Int) + 1) = true := by rw [beq_iff_eq]; omega
                    have hsi2 : ¬ S < S + ((0 : Nat) : Int) := by omega
                    subst hV
                    clear HV
                    go_wp2_with fail
                    go_ret
                    exact ⟨by first | rfl | simp, U⟩
                  · obtain ⟨q, rfl⟩ : ∃ q, s = q + 1 := ⟨s - 1, by omega⟩
                    have hsi2 : S < S + ((q + 1 : Nat) : Int) := by omega
                    have HV2 : Hid (2 * v * 2 ^ q = x + 1) := by
                      have := HV.out
                      rw [M.p2s] at this
                      show _ = _
                      rw [← this]
                      ac_rfl
                    have v2 : 2 * v < 18446744073709551616 := by
                      have := HV2.out
                      have : 2 * v ≤ 2 * v * 2 ^ q := Nat.le_mul_of_pos_right _ (M.p2 q)
                      omega
                    clear HV
                    go_wp2_with fail
                    go_round
                    case rel => exact ⟨2 * v, q, by go_num, by go_num, by omega, v2, by omega, HV2⟩
                    case measure => simp [intOf]; omega
              · obtain ⟨q, rfl⟩ : ∃ q, s = q + 1 := ⟨s - 1, by omega⟩
                have hsi : S < S + ((q + 1 : Nat) : Int) := by omega
                have x1' : ((x : Int) != 0) = true := by rw [bne_iff_ne]; omega
                have HX2 : Hid (2 * x * 2 ^ q = X) := by
                  have := HX.out
                  rw [M.p2s] at this
                  show _ = _
                  rw [← this]
                  ac_rfl
                have x2 : 2 * x < 18446744073709551616 := by
                  have := HX2.out
                  have : 2 * x ≤ 2 * x * 2 ^ q := Nat.le_mul_of_pos_right _ (M.p2 q)
                  omega
                clear HX
                go_wp2_with fail
                go_round
                case rel => exact ⟨2 * x, S + (q : Int), by go_num, by go_num, x2, .inr ⟨by omega, q, rfl, by omega, HX2⟩⟩
                case measure => simp [intOf]; omega
        ·
          subst f0
          have e1 := hS2.2 (by decide)
          clear hS2
          have Sb : -2100 ≤ S ∧ S ≤ 6200 := by omega
          have U := Up.refl w
          go_enter Tryd.func5, Tryd.ntmps5
          go_wp2_with fail
          refine (mshown_any _ (Lib.hid (TT.out.up U)) C).mono ?_
          rintro _ w1 ⟨rfl, h1⟩
          replace U := U.trans h1
          clear h1
          go_wp2_with fail
          refine (C1.out _ (TT.out.up U)).mono ?_
          rintro _ w2 ⟨rfl, h2⟩
          replace U := U.trans h2
          clear h2
          go_wp2_with fail
          refine (C2.out _ (TT.out.up U)).mono ?_
          rintro _ w3 ⟨rfl, h3⟩
          replace U := U.trans h3
          clear h3
          go_wp2_with fail
          refine (C3.out _ (TT.out.up U)).mono ?_
          rintro _ w4 ⟨rfl, h4⟩
          replace U := U.trans h4
          clear h4
          go_wp2_with fail
          go_loop [8, 18] (fun xv iv => ∃ (x : Nat) (i : Int), xv = u64 x ∧ iv = .int .i64 i ∧ x < 18446744073709551616 ∧ ((x = 0 ∧ X = 0 ∧ i = z) ∨ (0 < x ∧ ∃ s : Nat, i = S + s ∧ s ≤ 9000 ∧ Hid (x * 2 ^ s = X)))) (fun _ iv => (intOf iv - S).toNat)
          case atStart =>
            refine ⟨m, z, rfl, rfl, m64, ?_⟩
            rcases R1.out with ⟨h1, h2⟩ | ⟨h1, t, h2, h3⟩
            · exact .inl ⟨h1, h2, rfl⟩
            · exact .inr ⟨h1, t, h3, by omega, h2.symm⟩
          case round =>
            obtain ⟨x, i, rfl, rfl, hx, hxi⟩ := hrel
            rcases hxi with ⟨rfl, hX0, rfl⟩ | ⟨hx0, s, rfl, hs, HX⟩
            · subst hX0
              rcases (show S < i ∨ ¬ S < i by omega) with hsi | hsi
              all_goals
                go_wp2_with fail
                go_loop [11, 19] (fun yv jv => ∃ (v s : Nat), yv = .int .u64 (v : Int) ∧ jv = .int .i64 (S + (s : Int)) ∧ 0 < v ∧ v < 18446744073709551616 ∧ s ≤ 62 ∧ Hid (v * 2 ^ s = 0 + 1)) (fun _ jv => (intOf jv - S).toNat)
                case atStart => exact ⟨m', u, rfl, by first | rfl | rw [r2], m0', m64', by omega, R3.out⟩
                case round =>
                  obtain ⟨v, s, rfl, rfl, hv0, hv, hs, HV⟩ := hrel
                  rcases Nat.eq_zero_or_pos s with s0 | s0
                  · subst s0
                    have hV : v = 0 + 1 := by have := HV.out; simpa using this
                    have hb : ((v : Int) == (0 : Int) + 1) = true := by rw [beq_iff_eq]; omega
                    have hsi2 : ¬ S < S + ((0 : Nat) : Int) := by omega
                    subst hV
                    clear HV
                    go_wp2_with fail
                    go_ret
                    exact ⟨by first | rfl | simp, U⟩
                  · obtain ⟨q, rfl⟩ : ∃ q, s = q + 1 := ⟨s - 1, by omega⟩
                    have hsi2 : S < S + ((q + 1 : Nat) : Int) := by omega
                    have HV2 : Hid (2 * v * 2 ^ q = 0 + 1) := by
                      have := HV.out
                      rw [M.p2s] at this
                      show _ = _
                      rw [← this]
                      ac_rfl
                    have v2 : 2 * v < 18446744073709551616 := by
                      have := HV2.out
                      have : 2 * v ≤ 2 * v * 2 ^ q := Nat.le_mul_of_pos_right _ (M.p2 q)
                      omega
                    clear HV
                    go_wp2_with fail
                    go_round
                    case rel => exact ⟨2 * v, q, by go_num, by go_num, by omega, v2, by omega, HV2⟩
                    case measure => simp [intOf]; omega
            · rcases Nat.eq_zero_or_pos s with s0 | s0
              · subst s0
                obtain rfl : x = X := by have := HX.out; simpa using this
                clear HX
                have hsi : ¬ S < S + ((0 : Nat) : Int) := by omega
                go_wp2_with fail
                go_loop [11, 19] (fun yv jv => ∃ (v s : Nat), yv = .int .u64 (v : Int) ∧ jv = .int .i64 (S + (s : Int)) ∧ 0 < v ∧ v < 18446744073709551616 ∧ s ≤ 62 ∧ Hid (v * 2 ^ s = x + 1)) (fun _ jv => (intOf jv - S).toNat)
                case atStart => exact ⟨m', u, rfl, by first | rfl | rw [r2], m0', m64', by omega, R3.out⟩
                case round =>
                  obtain ⟨v, s, rfl, rfl, hv0, hv, hs, HV⟩ := hrel
                  rcases Nat.eq_zero_or_pos s with s0 | s0
                  · subst s0
                    have hV : v = x + 1 := by have := HV.out; simpa using this
                    have hb : ((v : Int) == (x : Int) + 1) = true := by rw [beq_iff_eq]; omega
                    have hsi2 : ¬ S < S + ((0 : Nat) : Int) := by omega
                    subst hV
                    clear HV
                    go_wp2_with fail
                    go_ret
                    exact ⟨by first | rfl | simp, U⟩
                  · obtain ⟨q, rfl⟩ : ∃ q, s = q + 1 := ⟨s - 1, by omega⟩
                    have hsi2 : S < S + ((q + 1 : Nat) : Int) := by omega
                    have HV2 : Hid (2 * v * 2 ^ q = x + 1) := by
                      have := HV.out
                      rw [M.p2s] at this
                      show _ = _
                      rw [← this]
                      ac_rfl
                    have v2 : 2 * v < 18446744073709551616 := by
                      have := HV2.out
                      have : 2 * v ≤ 2 * v * 2 ^ q := Nat.le_mul_of_pos_right _ (M.p2 q)
                      omega
                    clear HV
                    go_wp2_with fail
                    go_round
                    case rel => exact ⟨2 * v, q, by go_num, by go_num, by omega, v2, by omega, HV2⟩
                    case measure => simp [intOf]; omega
              · obtain ⟨q, rfl⟩ : ∃ q, s = q + 1 := ⟨s - 1, by omega⟩
                have hsi : S < S + ((q + 1 : Nat) : Int) := by omega
                have x1' : ((x : Int) != 0) = true := by rw [bne_iff_ne]; omega
                have HX2 : Hid (2 * x * 2 ^ q = X) := by
                  have := HX.out
                  rw [M.p2s] at this
                  show _ = _
                  rw [← this]
                  ac_rfl
                have x2 : 2 * x < 18446744073709551616 := by
                  have := HX2.out
                  have : 2 * x ≤ 2 * x * 2 ^ q := Nat.le_mul_of_pos_right _ (M.p2 q)
                  omega
                clear HX
                go_wp2_with fail
                go_round
                case rel => exact ⟨2 * x, S + (q : Int), by go_num, by go_num, x2, .inr ⟨by omega, q, rfl, by omega, HX2⟩⟩
                case measure => simp [intOf]; omega
        ·
          have e1 := hS2.2 (by omega)
          have hf2 : ¬ ((f : Int) ≤ 1) := by omega
          clear hS2
          have Sb : -2100 ≤ S ∧ S ≤ 6200 := by omega
          have U := Up.refl w
          go_enter Tryd.func5, Tryd.ntmps5
          go_wp2_with fail
          refine (mshown_any _ (Lib.hid (TT.out.up U)) C).mono ?_
          rintro _ w1 ⟨rfl, h1⟩
          replace U := U.trans h1
          clear h1
          go_wp2_with fail
          refine (C1.out _ (TT.out.up U)).mono ?_
          rintro _ w2 ⟨rfl, h2⟩
          replace U := U.trans h2
          clear h2
          go_wp2_with fail
          refine (C2.out _ (TT.out.up U)).mono ?_
          rintro _ w3 ⟨rfl, h3⟩
          replace U := U.trans h3
          clear h3
          go_wp2_with fail
          refine (C3.out _ (TT.out.up U)).mono ?_
          rintro _ w4 ⟨rfl, h4⟩
          replace U := U.trans h4
          clear h4
          go_wp2_with fail
          go_loop [8, 18] (fun xv iv => ∃ (x : Nat) (i : Int), xv = u64 x ∧ iv = .int .i64 i ∧ x < 18446744073709551616 ∧ ((x = 0 ∧ X = 0 ∧ i = z) ∨ (0 < x ∧ ∃ s : Nat, i = S + s ∧ s ≤ 9000 ∧ Hid (x * 2 ^ s = X)))) (fun _ iv => (intOf iv - S).toNat)
          case atStart =>
            refine ⟨m, z, rfl, rfl, m64, ?_⟩
            rcases R1.out with ⟨h1, h2⟩ | ⟨h1, t, h2, h3⟩
            · exact .inl ⟨h1, h2, rfl⟩
            · exact .inr ⟨h1, t, h3, by omega, h2.symm⟩
          case round =>
            obtain ⟨x, i, rfl, rfl, hx, hxi⟩ := hrel
            rcases hxi with ⟨rfl, hX0, rfl⟩ | ⟨hx0, s, rfl, hs, HX⟩
            · subst hX0
              rcases (show S < i ∨ ¬ S < i by omega) with hsi | hsi
              all_goals
                go_wp2_with fail
                go_loop [11, 19] (fun yv jv => ∃ (v s : Nat), yv = .int .u64 (v : Int) ∧ jv = .int .i64 (S + (s : Int)) ∧ 0 < v ∧ v < 18446744073709551616 ∧ s ≤ 62 ∧ Hid (v * 2 ^ s = 0 + 1)) (fun _ jv => (intOf jv - S).toNat)
                case atStart => exact ⟨m', u, rfl, by first | rfl | rw [r2], m0', m64', by omega, R3.out⟩
                case round =>
                  obtain ⟨v, s, rfl, rfl, hv0, hv, hs, HV⟩ := hrel
                  rcases Nat.eq_zero_or_pos s with s0 | s0
                  · subst s0
                    have hV : v = 0 + 1 := by have := HV.out; simpa using this
                    have hb : ((v : Int) == (0 : Int) + 1) = true := by rw [beq_iff_eq]; omega
                    have hsi2 : ¬ S < S + ((0 : Nat) : Int) := by omega
                    subst hV
                    clear HV
                    go_wp2_with fail
                    go_ret
                    exact ⟨by first | rfl | simp, U⟩
                  · obtain ⟨q, rfl⟩ : ∃ q, s = q + 1 := ⟨s - 1, by omega⟩
                    have hsi2 : S < S + ((q + 1 : Nat) : Int) := by omega
                    have HV2 : Hid (2 * v * 2 ^ q = 0 + 1) := by
                      have := HV.out
                      rw [M.p2s] at this
                      show _ = _
                      rw [← this]
                      ac_rfl
                    have v2 : 2 * v < 18446744073709551616 := by
                      have := HV2.out
                      have : 2 * v ≤ 2 * v * 2 ^ q := Nat.le_mul_of_pos_right _ (M.p2 q)
                      omega
                    clear HV
                    go_wp2_with fail
                    go_round
                    case rel => exact ⟨2 * v, q, by go_num, by go_num, by omega, v2, by omega, HV2⟩
                    case measure => simp [intOf]; omega
            · rcases Nat.eq_zero_or_pos s with s0 | s0
              · subst s0
                obtain rfl : x = X := by have := HX.out; simpa using this
                clear HX
                have hsi : ¬ S < S + ((0 : Nat) : Int) := by omega
                go_wp2_with fail
                go_loop [11, 19] (fun yv jv => ∃ (v s : Nat), yv = .int .u64 (v : Int) ∧ jv = .int .i64 (S + (s : Int)) ∧ 0 < v ∧ v < 18446744073709551616 ∧ s ≤ 62 ∧ Hid (v * 2 ^ s = x + 1)) (fun _ jv => (intOf jv - S).toNat)
                case atStart => exact ⟨m', u, rfl, by first | rfl | rw [r2], m0', m64', by omega, R3.out⟩
                case round =>
                  obtain ⟨v, s, rfl, rfl, hv0, hv, hs, HV⟩ := hrel
                  rcases Nat.eq_zero_or_pos s with s0 | s0
                  · subst s0
                    have hV : v = x + 1 := by have := HV.out; simpa using this
                    have hb : ((v : Int) == (x : Int) + 1) = true := by rw [beq_iff_eq]; omega
                    have hsi2 : ¬ S < S + ((0 : Nat) : Int) := by omega
                    subst hV
                    clear HV
                    go_wp2_with fail
                    go_ret
                    exact ⟨by first | rfl | simp, U⟩
                  · obtain ⟨q, rfl⟩ : ∃ q, s = q + 1 := ⟨s - 1, by omega⟩
                    have hsi2 : S < S + ((q + 1 : Nat) : Int) := by omega
                    have HV2 : Hid (2 * v * 2 ^ q = x + 1) := by
                      have := HV.out
                      rw [M.p2s] at this
                      show _ = _
                      rw [← this]
                      ac_rfl
                    have v2 : 2 * v < 18446744073709551616 := by
                      have := HV2.out
                      have : 2 * v ≤ 2 * v * 2 ^ q := Nat.le_mul_of_pos_right _ (M.p2 q)
                      omega
                    clear HV
                    go_wp2_with fail
                    go_round
                    case rel => exact ⟨2 * v, q, by go_num, by go_num, by omega, v2, by omega, HV2⟩
                    case measure => simp [intOf]; omega
              · obtain ⟨q, rfl⟩ : ∃ q, s = q + 1 := ⟨s - 1, by omega⟩
                have hsi : S < S + ((q + 1 : Nat) : Int) := by omega
                have x1' : ((x : Int) != 0) = true := by rw [bne_iff_ne]; omega
                have HX2 : Hid (2 * x * 2 ^ q = X) := by
                  have := HX.out
                  rw [M.p2s] at this
                  show _ = _
                  rw [← this]
                  ac_rfl
                have x2 : 2 * x < 18446744073709551616 := by
                  have := HX2.out
                  have : 2 * x ≤ 2 * x * 2 ^ q := Nat.le_mul_of_pos_right _ (M.p2 q)
                  omega
                clear HX
                go_wp2_with fail
                go_round
                case rel => exact ⟨2 * x, S + (q : Int), by go_num, by go_num, x2, .inr ⟨by omega, q, rfl, by omega, HX2⟩⟩
                case measure => simp [intOf]; omega
end Go.Proofs.YtajfcdkdfmnmhaaDoor
