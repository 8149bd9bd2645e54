/-
  PositValues, PositRises, PositBack.
-/
import Derived.Test.YtngoglhjelcdgaaDoorPa
namespace Go.Proofs.YtngoglhjelcdgaaDoor
open Go.RowKit
namespace M
theorem isk_longer {n k m : Nat} {z : Int} (hn : n ≤ 63) (h : IsK n k m z) : IsK (n + 1) (2 * k) m z := by
  have g := h.rng (by omega)
  obtain ⟨R, r, q, h1, e⟩ := h.vx (by omega)
  have rg := h1.rng
  obtain ⟨r', q', h2, e2⟩ := h1.longer hn
  obtain ⟨m', z', hk'⟩ := isk_ex (n := n + 1) (k := 2 * k) (by omega) (by omega) (by rw [p2s]; omega)
  have g' := hk'.rng (by omega)
  obtain ⟨R2, r2, q2, h3, e3⟩ := hk'.vx (by omega)
  obtain ⟨rfl, rfl, rfl⟩ := ps_uniq h2 h3
  have e4 : vz m' z' = vz m z := by rw [← e3, ← e]; unfold vx; rw [e2]
  obtain ⟨a, b⟩ := odd_uniq hk'.1 h.1 e4
  obtain rfl : z' = z := by omega
  rwa [a] at hk'
theorem isk_same {n k k' m m' : Nat} {z z' : Int} (hn : n ≤ 64) (h : IsK n k m z) (h' : IsK n k' m' z') : decide (vz m z < vz m' z') = decide (k < k') := by
  by_cases e : k < k'
  · rw [decide_eq_true e, decide_eq_true (isk_lt hn h h' e)]
  · rw [decide_eq_false e, decide_eq_false]
    rcases Nat.eq_or_lt_of_le (Nat.not_lt.1 e) with e' | e'
    · subst e'
      obtain ⟨rfl, rfl⟩ := isk_uniq h h'
      exact Nat.lt_irrefl _
    · have := isk_lt hn h' h e'
      omega
end M
set_option maxHeartbeats 4000000 in
set_option maxRecDepth 100000 in
theorem pvalues_walk (w : World) (TT : Hid (Tz w)) (x0 : Int) (_wx0 : (Lit.int .i64 x0).wf = true) (x1 : Int) (wx1 : (Lit.int .u64 x1).wf = true) (x2 : Int) (wx2 : (Lit.int .u64 x2).wf = true) (x3 : Int) (wx3 : (Lit.int .i64 x3).wf = true) : Calls Tryd.prog 5 #[.int .i64 x0, .int .u64 x1, .int .u64 x2, .int .i64 x3] w (True5 w) := by
  obtain ⟨k, rfl, hk⟩ := nat_u64 wx1
  obtain ⟨m0, rfl, hm0⟩ := nat_u64 wx2
  have he0 := int_i64 wx3
  clear wx1 wx2 wx3
  by_cases hw : x0 < 3 ∨ 65 < x0
  ·
    have h : bad x0 k := by rcases hw with h | h; exact .inl h; exact .inr (.inl h)
    have CV := Lib.hid (fun W (_ : Tz W) => pvalue_out W x0 k hk h)
    have CR := Lib.hid (fun W => rvalue_out W x0 k hk h)
    have CK := Lib.hid (fun W (_ : Tz W) => pkey_out W x0 m0 x3 (by omega))
    have CF := Lib.hid (fun W => rfits5_any W x0 1 (by show _ = _; rw [if_pos hw]))
    clear h hw he0
    have U := Up.refl w
    go_enter Tryd.func5, Tryd.ntmps5
    go_wp2_with fail
    refine (pshown_any _ (Lib.hid (TT.out.up U))).mono ?_
    rintro _ w1 ⟨rfl, h1⟩
    replace U := U.trans h1
    clear h1
    go_wp2_with fail
    refine (CV.out _ (TT.out.up U)).mono ?_
    rintro _ w2 ⟨rfl, h2⟩
    replace U := U.trans h2
    clear h2
    go_wp2_with fail
    refine (CR.out _).mono ?_
    rintro _ w3 ⟨rfl, h3⟩
    replace U := U.trans h3
    clear h3
    go_wp2_with fail
    refine (CK.out _ (TT.out.up U)).mono ?_
    rintro _ w4 ⟨rfl, h4⟩
    replace U := U.trans h4
    clear h4
    go_wp2_with fail
    refine (CF.out _).mono ?_
    rintro _ _ ⟨rfl, rfl⟩
    go_wp2_with fail
    go_ret
    exact ⟨rfl, U⟩
  ·
    obtain ⟨n, rfl, hn2, hn⟩ : ∃ n : Nat, x0 = (n : Int) + 1 ∧ 2 ≤ n ∧ n ≤ 64 := ⟨(x0 - 1).toNat, by omega, by omega, by omega⟩
    have CF := Lib.hid (fun W => rfits5_any W ((n : Int) + 1) 0 (by show _ = _; rw [if_neg hw]))
    clear hw
    by_cases h : bad ((n : Int) + 1) k
    ·
      have CV := Lib.hid (fun W (_ : Tz W) => pvalue_out W ((n : Int) + 1) k hk h)
      have CR := Lib.hid (fun W => rvalue_out W ((n : Int) + 1) k hk h)
      clear h
      by_cases z0 : m0 = 0
      ·
        subst z0
        have CK := Lib.hid (fun W (_ : Tz W) => pkey_out W ((n : Int) + 1) 0 x3 (.inr (.inr rfl)))
        clear he0
        have U := Up.refl w
        go_enter Tryd.func5, Tryd.ntmps5
        go_wp2_with fail
        refine (pshown_any _ (Lib.hid (TT.out.up U))).mono ?_
        rintro _ w1 ⟨rfl, h1⟩
        replace U := U.trans h1
        clear h1
        go_wp2_with fail
        refine (CV.out _ (TT.out.up U)).mono ?_
        rintro _ w2 ⟨rfl, h2⟩
        replace U := U.trans h2
        clear h2
        go_wp2_with fail
        refine (CR.out _).mono ?_
        rintro _ w3 ⟨rfl, h3⟩
        replace U := U.trans h3
        clear h3
        go_wp2_with fail
        refine (CK.out _ (TT.out.up U)).mono ?_
        rintro _ w4 ⟨rfl, h4⟩
        replace U := U.trans h4
        clear h4
        go_wp2_with fail
        refine (CF.out _).mono ?_
        rintro _ _ ⟨rfl, rfl⟩
        go_wp2_with fail
        go_ret
        exact ⟨rfl, U⟩
      ·
        obtain ⟨m, t, hm, ho⟩ := M.odd_ex m0 (by omega)
        have m1 : ((m0 : Int) == 0) = false := by rw [beq_eq_false_iff_ne]; omega
        clear z0
        by_cases hx : ∃ k, M.IsK n k m (x3 + t)
        ·
          obtain ⟨kk, hkk⟩ := hx
          have CK := Lib.hid (fun W (TW : Tz W) => pkey_is W TW n kk hn2 hn m0 m t x3 _ hm0 hm he0 rfl hkk)
          have CX := Lib.hid (fun W => rkey_is W n kk hn2 hn m0 m t x3 _ hm0 hm he0 rfl hkk)
          have k1 : ((kk : Int) == (kk : Int)) = true := by simp
          clear hkk hm he0
          have U := Up.refl w
          go_enter Tryd.func5, Tryd.ntmps5
          go_wp2_with fail
          refine (pshown_any _ (Lib.hid (TT.out.up U))).mono ?_
          rintro _ w1 ⟨rfl, h1⟩
          replace U := U.trans h1
          clear h1
          go_wp2_with fail
          refine (CV.out _ (TT.out.up U)).mono ?_
          rintro _ w2 ⟨rfl, h2⟩
          replace U := U.trans h2
          clear h2
          go_wp2_with fail
          refine (CR.out _).mono ?_
          rintro _ w3 ⟨rfl, h3⟩
          replace U := U.trans h3
          clear h3
          go_wp2_with fail
          refine (CK.out _ (TT.out.up U)).mono ?_
          rintro _ w4 ⟨rfl, h4⟩
          replace U := U.trans h4
          clear h4
          go_wp2_with fail
          refine (CF.out _).mono ?_
          rintro _ _ ⟨rfl, rfl⟩
          go_wp2_with fail
          refine (CX.out _).mono ?_
          rintro _ w5 ⟨rfl, h5⟩
          replace U := U.trans h5
          clear h5
          go_wp2_with fail
          go_ret
          exact ⟨rfl, U⟩
        ·
          have hx2 : ∀ k, ¬ M.IsK n k m (x3 + t) := fun k h => hx ⟨k, h⟩
          have CK := Lib.hid (fun W (TW : Tz W) => pkey_none W TW n hn2 hn m0 m t x3 _ hm0 hm ho he0 rfl hx2)
          have CX := Lib.hid (fun W => rkey_none W n hn2 hn m0 m t x3 _ hm0 hm ho he0 rfl hx2)
          clear hx hx2 hm he0
          have U := Up.refl w
          go_enter Tryd.func5, Tryd.ntmps5
          go_wp2_with fail
          refine (pshown_any _ (Lib.hid (TT.out.up U))).mono ?_
          rintro _ w1 ⟨rfl, h1⟩
          replace U := U.trans h1
          clear h1
          go_wp2_with fail
          refine (CV.out _ (TT.out.up U)).mono ?_
          rintro _ w2 ⟨rfl, h2⟩
          replace U := U.trans h2
          clear h2
          go_wp2_with fail
          refine (CR.out _).mono ?_
          rintro _ w3 ⟨rfl, h3⟩
          replace U := U.trans h3
          clear h3
          go_wp2_with fail
          refine (CK.out _ (TT.out.up U)).mono ?_
          rintro _ w4 ⟨rfl, h4⟩
          replace U := U.trans h4
          clear h4
          go_wp2_with fail
          refine (CF.out _).mono ?_
          rintro _ _ ⟨rfl, rfl⟩
          go_wp2_with fail
          refine (CX.out _).mono ?_
          rintro _ w5 ⟨kx, rfl, h5⟩
          replace U := U.trans h5
          clear h5
          go_wp2_with fail
          go_ret
          exact ⟨rfl, U⟩
    ·
      obtain ⟨n', en, _, _, k0, kn⟩ := of_bad h
      obtain rfl : n = n' := by omega
      clear h en
      obtain ⟨vm, vz, hv⟩ := M.isk_ex hn2 k0 kn
      have vb := hv.rng hn
      have CV := Lib.hid (fun W (TW : Tz W) => pvalue_is W TW n k vm vz hn hv)
      have CR := Lib.hid (fun W => rvalue_k W n k vm vz hn hv)
      have v1 : ((vm : Int) != (vm : Int)) = false := by simp
      have v2 : (vz != vz) = false := by simp
      clear hv vb kn
      by_cases z0 : m0 = 0
      ·
        subst z0
        have CK := Lib.hid (fun W (_ : Tz W) => pkey_out W ((n : Int) + 1) 0 x3 (.inr (.inr rfl)))
        clear he0
        have U := Up.refl w
        go_enter Tryd.func5, Tryd.ntmps5
        go_wp2_with fail
        refine (pshown_any _ (Lib.hid (TT.out.up U))).mono ?_
        rintro _ w1 ⟨rfl, h1⟩
        replace U := U.trans h1
        clear h1
        go_wp2_with fail
        refine (CV.out _ (TT.out.up U)).mono ?_
        rintro _ w2 ⟨rfl, h2⟩
        replace U := U.trans h2
        clear h2
        go_wp2_with fail
        refine (CR.out _).mono ?_
        rintro _ w3 ⟨rfl, h3⟩
        replace U := U.trans h3
        clear h3
        go_wp2_with fail
        refine (CK.out _ (TT.out.up U)).mono ?_
        rintro _ w4 ⟨rfl, h4⟩
        replace U := U.trans h4
        clear h4
        go_wp2_with fail
        refine (CF.out _).mono ?_
        rintro _ _ ⟨rfl, rfl⟩
        go_wp2_with fail
        go_ret
        exact ⟨rfl, U⟩
      ·
        obtain ⟨m, t, hm, ho⟩ := M.odd_ex m0 (by omega)
        have m1 : ((m0 : Int) == 0) = false := by rw [beq_eq_false_iff_ne]; omega
        clear z0
        by_cases hx : ∃ k, M.IsK n k m (x3 + t)
        ·
          obtain ⟨kk, hkk⟩ := hx
          have CK := Lib.hid (fun W (TW : Tz W) => pkey_is W TW n kk hn2 hn m0 m t x3 _ hm0 hm he0 rfl hkk)
          have CX := Lib.hid (fun W => rkey_is W n kk hn2 hn m0 m t x3 _ hm0 hm he0 rfl hkk)
          have k1 : ((kk : Int) == (kk : Int)) = true := by simp
          clear hkk hm he0
          have U := Up.refl w
          go_enter Tryd.func5, Tryd.ntmps5
          go_wp2_with fail
          refine (pshown_any _ (Lib.hid (TT.out.up U))).mono ?_
          rintro _ w1 ⟨rfl, h1⟩
          replace U := U.trans h1
          clear h1
          go_wp2_with fail
          refine (CV.out _ (TT.out.up U)).mono ?_
          rintro _ w2 ⟨rfl, h2⟩
          replace U := U.trans h2
          clear h2
          go_wp2_with fail
          refine (CR.out _).mono ?_
          rintro _ w3 ⟨rfl, h3⟩
          replace U := U.trans h3
          clear h3
          go_wp2_with fail
          refine (CK.out _ (TT.out.up U)).mono ?_
          rintro _ w4 ⟨rfl, h4⟩
          replace U := U.trans h4
          clear h4
          go_wp2_with fail
          refine (CF.out _).mono ?_
          rintro _ _ ⟨rfl, rfl⟩
          go_wp2_with fail
          refine (CX.out _).mono ?_
          rintro _ w5 ⟨rfl, h5⟩
          replace U := U.trans h5
          clear h5
          go_wp2_with fail
          go_ret
          exact ⟨rfl, U⟩
        ·
          have hx2 : ∀ k, ¬ M.IsK n k m (x3 + t) := fun k h => hx ⟨k, h⟩
          have CK := Lib.hid (fun W (TW : Tz W) => pkey_none W TW n hn2 hn m0 m t x3 _ hm0 hm ho he0 rfl hx2)
          have CX := Lib.hid (fun W => rkey_none W n hn2 hn m0 m t x3 _ hm0 hm ho he0 rfl hx2)
          clear hx hx2 hm he0
          have U := Up.refl w
          go_enter Tryd.func5, Tryd.ntmps5
          go_wp2_with fail
          refine (pshown_any _ (Lib.hid (TT.out.up U))).mono ?_
          rintro _ w1 ⟨rfl, h1⟩
          replace U := U.trans h1
          clear h1
          go_wp2_with fail
          refine (CV.out _ (TT.out.up U)).mono ?_
          rintro _ w2 ⟨rfl, h2⟩
          replace U := U.trans h2
          clear h2
          go_wp2_with fail
          refine (CR.out _).mono ?_
          rintro _ w3 ⟨rfl, h3⟩
          replace U := U.trans h3
          clear h3
          go_wp2_with fail
          refine (CK.out _ (TT.out.up U)).mono ?_
          rintro _ w4 ⟨rfl, h4⟩
          replace U := U.trans h4
          clear h4
          go_wp2_with fail
          refine (CF.out _).mono ?_
          rintro _ _ ⟨rfl, rfl⟩
          go_wp2_with fail
          refine (CX.out _).mono ?_
          rintro _ w5 ⟨kx, rfl, h5⟩
          replace U := U.trans h5
          clear h5
          go_wp2_with fail
          go_ret
          exact ⟨rfl, U⟩
end Go.Proofs.YtngoglhjelcdgaaDoor
