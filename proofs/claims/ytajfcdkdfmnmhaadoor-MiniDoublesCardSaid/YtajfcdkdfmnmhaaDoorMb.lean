/-
  MiniDoubles.
-/
import Derived.Test.YtajfcdkdfmnmhaaDoorMa
namespace Go.Proofs.YtajfcdkdfmnmhaaDoor
open Go.RowKit
theorem and_63_p {p : Nat} (h : p ≤ 60) : Go.bits BinOp.and IntKind.i64 (p : Int) 63 = (p : Int) := by
  have key : ∀ q : Fin 61, Go.bits BinOp.and IntKind.i64 (q.1 : Int) 63 = (q.1 : Int) := by decide +kernel
  exact key ⟨p, by omega⟩
theorem and_63_x (x : Int) : ∃ m : Nat, Go.bits BinOp.and IntKind.i64 x 63 = (m : Int) ∧ m ≤ 63 := by
  refine ⟨((BitVec.ofInt 64 x).toNat &&& 63), ?_, ?_⟩
  · show IntKind.i64.wrap ((BitVec.ofInt 64 x &&& BitVec.ofInt 64 63).toNat : Int) = _
    rw [BitVec.toNat_and, show (BitVec.ofInt 64 63).toNat = 63 from rfl]
    have : (BitVec.ofInt 64 x).toNat &&& 63 ≤ 63 := Nat.and_le_right
    exact IntWalk.i64_in _ (by omega)
  · exact Nat.and_le_right
theorem pow_cast {p P : Nat} (h : 2 ^ p = P) : (2 : Int) ^ p = (P : Int) := by rw [← h]; simp
theorem pow_small {p P : Nat} (h : 2 ^ p = P) (hp : p ≤ 63) : 0 < P ∧ P ≤ 9223372036854775808 := by
  rw [← h]
  have h1 := M.p2le (a := p) (b := 63) hp
  have h2 : (2 : Nat) ^ 63 = 9223372036854775808 := by decide
  exact ⟨M.p2 p, by omega⟩
set_option maxHeartbeats 4000000 in
set_option maxRecDepth 100000 in
theorem mdoubles_walk (w : World) (TT : Hid (Tz w)) (C : Mini) (x0 : Int) (_wx0 : (Lit.int .i64 x0).wf = true) (x1 : Int) (_wx1 : (Lit.int .i64 x1).wf = true) (x2 : Int) (wx2 : (Lit.int .u64 x2).wf = true) : Calls Tryd.prog 6 #[.int .i64 x0, .int .i64 x1, .int .u64 x2] w (True6 w) := by
  obtain ⟨k, rfl, hk⟩ := nat_u6 wx2
  clear wx2
  by_cases h : bad6 x0 0 k
  ·
    have C1 := Lib.hid (fun W (TW : Tz W) => C.splitBad W TW x0 k hk h)
    obtain ⟨j, hj, j63⟩ := and_63_x x0
    obtain ⟨J, hJ⟩ : ∃ J, 2 ^ j = J := ⟨_, rfl⟩
    have hJz := pow_cast hJ
    have hJs := pow_small hJ j63
    clear h hJ
    have U := Up.refl w
    go_enter Tryd.func6, Tryd.ntmps6
    go_wp2_with fail
    refine (mshown_any _ (Lib.hid (TT.out.up U)) C).mono ?_
    rintro _ w1 ⟨rfl, h1⟩
    replace U := U.trans h1
    clear h1
    go_wp2_with fail
    refine (C1.out _ (TT.out.up U)).mono ?_
    rintro _ w2 ⟨rfl, h2⟩
    replace U := U.trans h2
    clear h2
    go_wp2_with fail
    go_ret
    exact ⟨rfl, U⟩
  ·
    obtain ⟨p, rfl, ho⟩ := of_bad6 h
    clear h
    have hj := and_63_p ho.1
    obtain ⟨f, hf⟩ : ∃ f, k / 2 ^ p = f := ⟨_, rfl⟩
    obtain ⟨a, ha⟩ : ∃ a, k % 2 ^ p = a := ⟨_, rfl⟩
    obtain ⟨J, hJ⟩ : ∃ J, 2 ^ p = J := ⟨_, rfl⟩
    have hJz := pow_cast hJ
    have hJs := pow_small hJ (by have := ho.1; omega)
    have p60 := ho.1
    have C1 := Lib.hid (fun W (TW : Tz W) => C.split W TW p k f a ho.1 hk ho.2.2.2 hf ha)
    have f4 : f ≤ 4095 := by rw [← hf]; exact ho.2.2.2
    rcases (show f = 0 ∨ f = 4095 ∨ (0 < f ∧ f < 4095) by omega) with f0 | f0 | ⟨f0, f1⟩
    ·
      subst f0
      clear hf ha hJ ho
      have U := Up.refl w
      go_enter Tryd.func6, Tryd.ntmps6
      go_wp2_with fail
      refine (mshown_any _ (Lib.hid (TT.out.up U)) C).mono ?_
      rintro _ w1 ⟨rfl, h1⟩
      replace U := U.trans h1
      clear h1
      go_wp2_with fail
      refine (C1.out _ (TT.out.up U)).mono ?_
      rintro _ w2 ⟨rfl, h2⟩
      replace U := U.trans h2
      clear h2
      go_wp2_with fail
      go_ret
      exact ⟨rfl, U⟩
    ·
      subst f0
      clear hf ha hJ ho
      have U := Up.refl w
      go_enter Tryd.func6, Tryd.ntmps6
      go_wp2_with fail
      refine (mshown_any _ (Lib.hid (TT.out.up U)) C).mono ?_
      rintro _ w1 ⟨rfl, h1⟩
      replace U := U.trans h1
      clear h1
      go_wp2_with fail
      refine (C1.out _ (TT.out.up U)).mono ?_
      rintro _ w2 ⟨rfl, h2⟩
      replace U := U.trans h2
      clear h2
      go_wp2_with fail
      go_ret
      exact ⟨rfl, U⟩
    ·
      have c1 : ((f : Int) == 0) = false := by rw [beq_eq_false_iff_ne]; omega
      have c2 : ((f : Int) == 4095) = false := by rw [beq_eq_false_iff_ne]; omega
      by_cases hov : 18446744073709551616 ≤ k + J
      ·
        obtain ⟨nx, hnx⟩ : ∃ nx : Nat, k + J = nx + 18446744073709551616 := ⟨k + J - 18446744073709551616, by omega⟩
        have hw : IntKind.u64.wrap ((k : Int) + (J : Int)) = (nx : Int) := by rw [IntKind.wrap_u64]; omega
        have hlt : nx < k := by omega
        clear hf ha hJ ho hov hnx
        have U := Up.refl w
        go_enter Tryd.func6, Tryd.ntmps6
        go_wp2_with fail
        refine (mshown_any _ (Lib.hid (TT.out.up U)) C).mono ?_
        rintro _ w1 ⟨rfl, h1⟩
        replace U := U.trans h1
        clear h1
        go_wp2_with fail
        refine (C1.out _ (TT.out.up U)).mono ?_
        rintro _ w2 ⟨rfl, h2⟩
        replace U := U.trans h2
        clear h2
        go_wp2_with fail
        go_ret
        exact ⟨rfl, U⟩
      ·
        obtain ⟨nx, hnx⟩ : ∃ nx : Nat, k + J = nx := ⟨_, rfl⟩
        have hw : (k : Int) + (J : Int) = (nx : Int) := by omega
        have nx64 : nx < 18446744073709551616 := by omega
        have hlt : ¬ nx < k := by omega
        have hnf : nx / 2 ^ p = f + 1 := by rw [← hnx, ← hJ, Nat.add_div_right _ (M.p2 p), hf]
        by_cases h : bad6 (p : Int) x1 k
        ·
          have hb : x1 < -2000 ∨ 2000 < x1 := by
            rcases h with h | h | h | h | h
            · omega
            · omega
            · exact .inl h
            · exact .inr h
            · rw [Int.toNat_natCast, hf] at h; omega
          have C2 := Lib.hid (fun W (TW : Tz W) => C.valueBad W TW (p : Int) x1 k hk h)
          have C3 := Lib.hid (fun W (TW : Tz W) => C.valueBad W TW (p : Int) x1 nx nx64 (by rcases hb with hb | hb; exact .inr (.inr (.inl hb)); exact .inr (.inr (.inr (.inl hb)))))
          clear h hb hf ha hJ ho hov hnx hnf
          have U := Up.refl w
          go_enter Tryd.func6, Tryd.ntmps6
          go_wp2_with fail
          refine (mshown_any _ (Lib.hid (TT.out.up U)) C).mono ?_
          rintro _ w1 ⟨rfl, h1⟩
          replace U := U.trans h1
          clear h1
          go_wp2_with fail
          refine (C1.out _ (TT.out.up U)).mono ?_
          rintro _ w2 ⟨rfl, h2⟩
          replace U := U.trans h2
          clear h2
          go_wp2_with fail
          refine (C2.out _ (TT.out.up U)).mono ?_
          rintro _ w3 ⟨rfl, h3⟩
          replace U := U.trans h3
          clear h3
          go_wp2_with fail
          refine (C3.out _ (TT.out.up U)).mono ?_
          rintro _ w4 ⟨rfl, h4⟩
          replace U := U.trans h4
          clear h4
          go_wp2_with fail
          go_ret
          exact ⟨rfl, U⟩
        ·
          obtain ⟨p', ep, ho'⟩ := of_bad6 h
          obtain rfl : p = p' := by omega
          clear h ep
          obtain ⟨m, z, hm⟩ := M.ism_ex p x1 k
          have hm2 := hm.double (by omega)
          rw [hJ, hnx] at hm2
          have C2 := Lib.hid (fun W (TW : Tz W) => C.value W TW p k m x1 z hk ho' hm)
          have C3 := Lib.hid (fun W (TW : Tz W) => C.value W TW p nx m x1 (z + 1) nx64 ⟨ho'.1, ho'.2.1, ho'.2.2.1, by omega⟩ hm2)
          have zr := hm.rng ho'
          have q3 : ((m : Int) == (m : Int)) = true := by simp
          have q4 : (z + 1 == z + 1) = true := by simp
          clear hf ha hJ ho ho' hov hnx hnf hm hm2
          have U := Up.refl w
          go_enter Tryd.func6, Tryd.ntmps6
          go_wp2_with fail
          refine (mshown_any _ (Lib.hid (TT.out.up U)) C).mono ?_
          rintro _ w1 ⟨rfl, h1⟩
          replace U := U.trans h1
          clear h1
          go_wp2_with fail
          refine (C1.out _ (TT.out.up U)).mono ?_
          rintro _ w2 ⟨rfl, h2⟩
          replace U := U.trans h2
          clear h2
          go_wp2_with fail
          refine (C2.out _ (TT.out.up U)).mono ?_
          rintro _ w3 ⟨rfl, h3⟩
          replace U := U.trans h3
          clear h3
          go_wp2_with fail
          refine (C3.out _ (TT.out.up U)).mono ?_
          rintro _ w4 ⟨rfl, h4⟩
          replace U := U.trans h4
          clear h4
          go_wp2_with fail
          go_ret
          exact ⟨rfl, U⟩
end Go.Proofs.YtajfcdkdfmnmhaaDoor
