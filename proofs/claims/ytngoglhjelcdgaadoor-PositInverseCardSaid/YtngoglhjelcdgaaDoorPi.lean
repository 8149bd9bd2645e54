/-
  PositInverse, PositDoubles, PositRegimes.
-/
import Derived.Test.YtngoglhjelcdgaaDoorPa
namespace Go.Proofs.YtngoglhjelcdgaaDoor
open Go.RowKit
namespace M
theorem isk_turned {n k : Nat} {z : Int} (h : IsK n k 1 z) : IsK n (2 ^ n - k) 1 (-z) := by
  obtain ⟨_, R, r, q, t, h1, h2, h3⟩ := h
  have hf := fr_lt r q
  rw [Nat.one_mul] at h2
  have ht : t = r - 2 := by
    have a : t < r - 2 + 1 := p2inj (by rw [p2s]; omega)
    rcases Nat.lt_or_ge t (r - 2) with b | b
    · have := p2le (a := t + 1) (b := r - 2) b
      rw [p2s] at this
      have := p2 t
      omega
    · omega
  subst ht
  obtain ⟨R', r', q', h4, h5, h6⟩ := h1.turned (by omega)
  exact ⟨rfl, R', r', q', r' - 2, h4, by rw [h5]; simp, by omega⟩
end M
set_option maxHeartbeats 4000000 in
set_option maxRecDepth 100000 in
theorem pinverse_walk (w : World) (TT : Hid (Tz w)) (x0 : Int) (_wx0 : (Lit.int .i64 x0).wf = true) (x1 : Int) (wx1 : (Lit.int .i64 x1).wf = true) : Calls Tryd.prog 8 #[.int .i64 x0, .int .i64 x1] w (True5 w) := by
  have he := int_i64 wx1
  clear wx1
  obtain ⟨y, hy, y1, y2, y3⟩ : ∃ y, IntKind.i64.wrap (-x1) = y ∧ -9223372036854775808 ≤ y ∧ y ≤ 9223372036854775807 ∧ (x1 ≤ 1000 → -1000 ≤ x1 → y = -x1) := by
    by_cases h : x1 = -9223372036854775808
    · exact ⟨-9223372036854775808, by rw [h]; decide, by decide, by decide, by omega⟩
    · exact ⟨-x1, by simp [IntKind.wrap, IntKind.bits, IntKind.signed]; omega, by omega, by omega, by omega⟩
  have Y3 := Lib.hid y3
  clear y3
  by_cases hw : x0 < 3 ∨ 65 < x0
  ·
    have CA := Lib.hid (fun W (_ : Tz W) => show Calls Tryd.prog 18 #[.int .i64 x0, .int .u64 1, .int .i64 x1] W (Kn 0 1 W) from pkey_out W x0 1 x1 (by omega))
    have CB := Lib.hid (fun W (_ : Tz W) => show Calls Tryd.prog 18 #[.int .i64 x0, .int .u64 1, .int .i64 y] W (Kn 0 1 W) from pkey_out W x0 1 y (by omega))
    clear hw Y3 he y1 y2
    have U := Up.refl w
    go_enter Tryd.func8, Tryd.ntmps8
    go_wp2_with fail
    refine (pshown_any _ (Lib.hid (TT.out.up U))).mono ?_
    rintro _ w1 ⟨rfl, h1⟩
    replace U := U.trans h1
    clear h1
    go_wp2_with fail
    refine (CA.out _ (TT.out.up U)).mono ?_
    rintro _ w2 ⟨rfl, h2⟩
    replace U := U.trans h2
    clear h2
    go_wp2_with fail
    refine (CB.out _ (TT.out.up U)).mono ?_
    rintro _ w3 ⟨rfl, h3⟩
    replace U := U.trans h3
    clear h3
    go_wp2_with fail
    go_ret
    exact ⟨rfl, U⟩
  ·
    obtain ⟨n, rfl, hn2, hn⟩ : ∃ n : Nat, x0 = (n : Int) + 2 ∧ 1 ≤ n ∧ n ≤ 63 := ⟨(x0 - 2).toNat, by omega, by omega, by omega⟩
    have en : ((n + 1 : Nat) : Int) + 1 = (n : Int) + 2 := by omega
    clear hw
    by_cases h : ∃ k, M.IsK (n + 1) k 1 x1
    ·
      obtain ⟨k, hk⟩ := h
      have rg := hk.rng (by omega)
      obtain rfl : y = -x1 := Y3.out rg.2.2.2.1 rg.2.2.1
      have hk2 := M.isk_turned hk
      have CA := Lib.hid (fun W (TW : Tz W) => show Calls Tryd.prog 18 #[.int .i64 ((n : Int) + 2), .int .u64 1, .int .i64 x1] W (Kn k 0 W) from by have h := pkey_is W TW (n + 1) k (by omega) (by omega) 1 1 0 x1 x1 (by decide) (by decide) he (by simp) hk; rw [en] at h; exact h)
      obtain ⟨k2, hk2e⟩ : ∃ k2, 2 ^ (n + 1) - k = k2 := ⟨_, rfl⟩
      rw [hk2e] at hk2
      have CB := Lib.hid (fun W (TW : Tz W) => show Calls Tryd.prog 18 #[.int .i64 ((n : Int) + 2), .int .u64 1, .int .i64 (-x1)] W (Kn k2 0 W) from by have h := pkey_is W TW (n + 1) k2 (by omega) (by omega) 1 1 0 (-x1) (-x1) (by decide) (by decide) ⟨y1, y2⟩ (by simp) hk2; rw [en] at h; exact h)
      have hs := M.p2s n
      rcases (show n = 63 ∨ n ≤ 62 by omega) with rfl | hn63
      ·
        have hsum : (k : Int) + (k2 : Int) = 18446744073709551616 := by
          have : (2 : Nat) ^ (63 + 1) = 18446744073709551616 := by decide
          omega
        have b1 : k < 18446744073709551616 ∧ k2 < 18446744073709551616 := by
          have : (2 : Nat) ^ (63 + 1) = 18446744073709551616 := by decide
          have := (hk2.rng (by omega)).1
          omega
        clear Y3 hk hk2 hk2e rg hs en
        have U := Up.refl w
        go_enter Tryd.func8, Tryd.ntmps8
        go_wp2_with fail
        refine (pshown_any _ (Lib.hid (TT.out.up U))).mono ?_
        rintro _ w1 ⟨rfl, h1⟩
        replace U := U.trans h1
        clear h1
        go_wp2_with fail
        refine (CA.out _ (TT.out.up U)).mono ?_
        rintro _ w2 ⟨rfl, h2⟩
        replace U := U.trans h2
        clear h2
        go_wp2_with fail
        refine (CB.out _ (TT.out.up U)).mono ?_
        rintro _ w3 ⟨rfl, h3⟩
        replace U := U.trans h3
        clear h3
        go_wp2_with fail
        go_ret
        exact ⟨rfl, U⟩
      ·
        obtain ⟨p, hp⟩ : ∃ p : Nat, 2 ^ n = p := ⟨_, rfl⟩
        have hpz : (2 : Int) ^ n = (p : Int) := by rw [← hp]; simp
        have p62 : p ≤ 4611686018427387904 := by
          rw [← hp]
          have h1 := M.p2le (a := n) (b := 62) hn63
          have h2 : (2 : Nat) ^ 62 = 4611686018427387904 := by decide
          omega
        have hsum : (k : Int) + (k2 : Int) = (p : Int) * 2 := by omega
        have b1 : k + k2 ≤ 9223372036854775808 := by omega
        clear Y3 hk hk2 hk2e rg hs en hp
        have U := Up.refl w
        go_enter Tryd.func8, Tryd.ntmps8
        go_wp2_with fail
        refine (pshown_any _ (Lib.hid (TT.out.up U))).mono ?_
        rintro _ w1 ⟨rfl, h1⟩
        replace U := U.trans h1
        clear h1
        go_wp2_with fail
        refine (CA.out _ (TT.out.up U)).mono ?_
        rintro _ w2 ⟨rfl, h2⟩
        replace U := U.trans h2
        clear h2
        go_wp2_with fail
        refine (CB.out _ (TT.out.up U)).mono ?_
        rintro _ w3 ⟨rfl, h3⟩
        replace U := U.trans h3
        clear h3
        go_wp2_with fail
        go_ret
        exact ⟨rfl, U⟩
    ·
      have h1 : ∀ k, ¬ M.IsK (n + 1) k 1 x1 := fun k hk => h ⟨k, hk⟩
      clear h
      have CA := Lib.hid (fun W (TW : Tz W) => show Calls Tryd.prog 18 #[.int .i64 ((n : Int) + 2), .int .u64 1, .int .i64 x1] W (Kn 0 8 W) from by have h := pkey_none W TW (n + 1) (by omega) (by omega) 1 1 0 x1 x1 (by decide) (by decide) (by decide) he (by simp) h1; rw [en] at h; exact h)
      by_cases h : ∃ k, M.IsK (n + 1) k 1 y
      ·
        obtain ⟨k2, hk2⟩ := h
        have CB := Lib.hid (fun W (TW : Tz W) => show Calls Tryd.prog 18 #[.int .i64 ((n : Int) + 2), .int .u64 1, .int .i64 y] W (Kn k2 0 W) from by have h := pkey_is W TW (n + 1) k2 (by omega) (by omega) 1 1 0 y y (by decide) (by decide) ⟨y1, y2⟩ (by simp) hk2; rw [en] at h; exact h)
        clear hk2 h1 Y3 en
        have U := Up.refl w
        go_enter Tryd.func8, Tryd.ntmps8
        go_wp2_with fail
        refine (pshown_any _ (Lib.hid (TT.out.up U))).mono ?_
        rintro _ w1 ⟨rfl, h1⟩
        replace U := U.trans h1
        clear h1
        go_wp2_with fail
        refine (CA.out _ (TT.out.up U)).mono ?_
        rintro _ w2 ⟨rfl, h2⟩
        replace U := U.trans h2
        clear h2
        go_wp2_with fail
        refine (CB.out _ (TT.out.up U)).mono ?_
        rintro _ w3 ⟨rfl, h3⟩
        replace U := U.trans h3
        clear h3
        go_wp2_with fail
        go_ret
        exact ⟨rfl, U⟩
      ·
        have h2 : ∀ k, ¬ M.IsK (n + 1) k 1 y := fun k hk => h ⟨k, hk⟩
        have CB := Lib.hid (fun W (TW : Tz W) => show Calls Tryd.prog 18 #[.int .i64 ((n : Int) + 2), .int .u64 1, .int .i64 y] W (Kn 0 8 W) from by have h := pkey_none W TW (n + 1) (by omega) (by omega) 1 1 0 y y (by decide) (by decide) (by decide) ⟨y1, y2⟩ (by simp) h2; rw [en] at h; exact h)
        clear h h1 h2 Y3 en
        have U := Up.refl w
        go_enter Tryd.func8, Tryd.ntmps8
        go_wp2_with fail
        refine (pshown_any _ (Lib.hid (TT.out.up U))).mono ?_
        rintro _ w1 ⟨rfl, h1⟩
        replace U := U.trans h1
        clear h1
        go_wp2_with fail
        refine (CA.out _ (TT.out.up U)).mono ?_
        rintro _ w2 ⟨rfl, h2⟩
        replace U := U.trans h2
        clear h2
        go_wp2_with fail
        refine (CB.out _ (TT.out.up U)).mono ?_
        rintro _ w3 ⟨rfl, h3⟩
        replace U := U.trans h3
        clear h3
        go_wp2_with fail
        go_ret
        exact ⟨rfl, U⟩
end Go.Proofs.YtngoglhjelcdgaaDoor
