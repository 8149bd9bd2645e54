/-
  MiniBack.
-/
import Derived.Test.YtajfcdkdfmnmhaaDoorMb
namespace Go.Proofs.YtajfcdkdfmnmhaaDoor
open Go.RowKit
set_option maxHeartbeats 4000000 in
set_option maxRecDepth 100000 in
theorem mback_walk (w : World) (TT : Hid (Tz w)) (C : Mini) (x0 : Int) (_wx0 : (Lit.int .i64 x0).wf = true) (x1 : Int) (_wx1 : (Lit.int .i64 x1).wf = true) (x2 : Int) (wx2 : (Lit.int .u64 x2).wf = true) : Calls Tryd.prog 4 #[.int .i64 x0, .int .i64 x1, .int .u64 x2] w (True6 w) := by
  obtain ⟨k, rfl, hk⟩ := nat_u6 wx2
  clear wx2
  by_cases h : bad6 x0 x1 k
  ·
    have C1 := Lib.hid (fun W (TW : Tz W) => C.valueBad W TW x0 x1 k hk h)
    clear h
    have U := Up.refl w
    go_enter Tryd.func4, Tryd.ntmps4
    go_wp2_with fail
    refine (mshown_any _ (Lib.hid (TT.out.up U)) C).mono ?_
    rintro _ w1 ⟨rfl, h1⟩
    replace U := U.trans h1
    clear h1
    go_wp2_with fail
    refine (C1.out _ (TT.out.up U)).mono ?_
    rintro _ w2 ⟨rfl, h2⟩
    replace U := U.trans h2
    clear h2
    go_wp2_with fail
    go_ret
    exact ⟨rfl, U⟩
  ·
    obtain ⟨p, rfl, ho⟩ := of_bad6 h
    clear h
    obtain ⟨f, hf⟩ : ∃ f, k / 2 ^ p = f := ⟨_, rfl⟩
    obtain ⟨a, ha⟩ : ∃ a, k % 2 ^ p = a := ⟨_, rfl⟩
    obtain ⟨J, hJ⟩ : ∃ J, 2 ^ p = J := ⟨_, rfl⟩
    have hJz := pow_cast hJ
    have hJs := pow_small hJ (by have := ho.1; omega)
    have p60 := ho.1
    obtain ⟨m, z, hm⟩ := M.ism_ex p x1 k
    have rg := hm.rng ho
    have C1 := Lib.hid (fun W (TW : Tz W) => C.value W TW p k m x1 z hk ho hm)
    have C2 := Lib.hid (fun W (TW : Tz W) => C.key W TW p k m m 0 x1 z z hk ho (by omega) (by simp) (by omega) (by omega) (fun _ => by simp) hm)
    have C3 := Lib.hid (fun W (TW : Tz W) => C.split W TW p k f a ho.1 hk ho.2.2.2 hf ha)
    obtain ⟨Q, hQ⟩ : ∃ Q : Nat, f * J = Q := ⟨_, rfl⟩
    have hQk : Q + a = k := by
      have := (M.key_parts p k).1
      rw [hf, ha, hJ, hQ] at this
      exact this.symm
    have hQz : (f : Int) * (J : Int) = (Q : Int) := by rw [← hQ]; simp
    have hQk2 : (Q : Int) + (a : Int) = (k : Int) := by omega
    have Q64 : Q < 18446744073709551616 := by omega
    have m64 : m < 18446744073709551616 := by omega
    have kk : ((k : Int) != (k : Int)) = false := by simp
    have q3 : ((m : Int) == (m : Int)) = true := by simp
    have q4 : (z == z) = true := by simp
    have hz0 := hm.zero
    have CV : k < 9223372036854775808 → p < 60 → Hid (∀ W, Tz W → Calls Tryd.prog 9 #[.int .i64 ((p : Int) + 1), .int .i64 x1, .int .u64 (2 * (k : Int))] W (Vn6 m z 0 W)) := fun hk63 hp W TW => by
      have h := C.value W TW (p + 1) (2 * k) m x1 z (by omega) ⟨by omega, ho.2.1, ho.2.2.1, by rw [M.p2s, Nat.mul_div_mul_left _ _ (by decide)]; exact ho.2.2.2⟩ hm.longer
      have e1 : ((p + 1 : Nat) : Int) = (p : Int) + 1 := by omega
      have e2 : u64 (2 * k) = .int .u64 (2 * (k : Int)) := by unfold u64; congr 1
      rw [e1, e2] at h
      exact h
    have zb : -2100 ≤ z ∧ z ≤ 6200 := rg.2
    clear hf ha hJ hQ hm rg
    rcases (show k = 0 ∨ (0 < k ∧ 9223372036854775808 ≤ k) ∨ (0 < k ∧ k < 9223372036854775808) by omega) with k0 | ⟨k0, k63⟩ | ⟨k0, k63⟩
    ·
      obtain rfl : m = 0 := hz0.1.2 k0
      subst k0
      obtain rfl : Q = 0 := by omega
      obtain rfl : a = 0 := by omega
      by_cases p6 : p = 60
      ·
        subst p6
        clear hz0 CV ho
        have U := Up.refl w
        go_enter Tryd.func4, Tryd.ntmps4
        go_wp2_with fail
        refine (mshown_any _ (Lib.hid (TT.out.up U)) C).mono ?_
        rintro _ w1 ⟨rfl, h1⟩
        replace U := U.trans h1
        clear h1
        go_wp2_with fail
        refine (C1.out _ (TT.out.up U)).mono ?_
        rintro _ w2 ⟨rfl, h2⟩
        replace U := U.trans h2
        clear h2
        go_wp2_with fail
        refine (C2.out _ (TT.out.up U)).mono ?_
        rintro _ w3 ⟨rfl, h3⟩
        replace U := U.trans h3
        clear h3
        go_wp2_with fail
        refine (C3.out _ (TT.out.up U)).mono ?_
        rintro _ w4 ⟨rfl, h4⟩
        replace U := U.trans h4
        clear h4
        go_wp2_with fail
        go_ret
        exact ⟨rfl, U⟩
      ·
        have C4 := Lib.hid (fun W (TW : Tz W) => show Calls Tryd.prog 9 #[.int .i64 ((p : Int) + 1), .int .i64 x1, .int .u64 0] W (Vn6 0 z 0 W) from (CV (by decide) (by omega)).out W TW)
        have p61 : ((p : Int) == 60) = false := by rw [beq_eq_false_iff_ne]; omega
        clear hz0 CV ho p6
        have U := Up.refl w
        go_enter Tryd.func4, Tryd.ntmps4
        go_wp2_with fail
        refine (mshown_any _ (Lib.hid (TT.out.up U)) C).mono ?_
        rintro _ w1 ⟨rfl, h1⟩
        replace U := U.trans h1
        clear h1
        go_wp2_with fail
        refine (C1.out _ (TT.out.up U)).mono ?_
        rintro _ w2 ⟨rfl, h2⟩
        replace U := U.trans h2
        clear h2
        go_wp2_with fail
        refine (C2.out _ (TT.out.up U)).mono ?_
        rintro _ w3 ⟨rfl, h3⟩
        replace U := U.trans h3
        clear h3
        go_wp2_with fail
        refine (C3.out _ (TT.out.up U)).mono ?_
        rintro _ w4 ⟨rfl, h4⟩
        replace U := U.trans h4
        clear h4
        go_wp2_with fail
        refine (C4.out _ (TT.out.up U)).mono ?_
        rintro _ w5 ⟨rfl, h5⟩
        replace U := U.trans h5
        clear h5
        go_wp2_with fail
        go_ret
        exact ⟨rfl, U⟩
    ·
      by_cases p6 : p = 60
      ·
        have m0 : m ≠ 0 := fun e => by have := hz0.1.1 e; omega
        have mo := hz0.2 m0
        have o1 : (m : Int) % 2 = 1 := by omega
        have o2 : ((m : Int) == 0) = false := by rw [beq_eq_false_iff_ne]; omega
        have o3 : ((m : Int) != 0) = true := by rw [bne_iff_ne]; omega
        have o4 : ((k : Int) == 0) = false := by rw [beq_eq_false_iff_ne]; omega
        subst p6
        clear hz0 CV ho m0 mo
        have U := Up.refl w
        go_enter Tryd.func4, Tryd.ntmps4
        go_wp2_with fail
        refine (mshown_any _ (Lib.hid (TT.out.up U)) C).mono ?_
        rintro _ w1 ⟨rfl, h1⟩
        replace U := U.trans h1
        clear h1
        go_wp2_with fail
        refine (C1.out _ (TT.out.up U)).mono ?_
        rintro _ w2 ⟨rfl, h2⟩
        replace U := U.trans h2
        clear h2
        go_wp2_with fail
        refine (C2.out _ (TT.out.up U)).mono ?_
        rintro _ w3 ⟨rfl, h3⟩
        replace U := U.trans h3
        clear h3
        go_wp2_with fail
        refine (C3.out _ (TT.out.up U)).mono ?_
        rintro _ w4 ⟨rfl, h4⟩
        replace U := U.trans h4
        clear h4
        go_wp2_with fail
        go_ret
        exact ⟨rfl, U⟩
      ·
        have m0 : m ≠ 0 := fun e => by have := hz0.1.1 e; omega
        have mo := hz0.2 m0
        have o1 : (m : Int) % 2 = 1 := by omega
        have o2 : ((m : Int) == 0) = false := by rw [beq_eq_false_iff_ne]; omega
        have o3 : ((m : Int) != 0) = true := by rw [bne_iff_ne]; omega
        have o4 : ((k : Int) == 0) = false := by rw [beq_eq_false_iff_ne]; omega
        have p61 : ((p : Int) == 60) = false := by rw [beq_eq_false_iff_ne]; omega
        have kq : (k : Int) / 9223372036854775808 = 1 := by omega
        clear hz0 CV ho p6 m0 mo
        have U := Up.refl w
        go_enter Tryd.func4, Tryd.ntmps4
        go_wp2_with fail
        refine (mshown_any _ (Lib.hid (TT.out.up U)) C).mono ?_
        rintro _ w1 ⟨rfl, h1⟩
        replace U := U.trans h1
        clear h1
        go_wp2_with fail
        refine (C1.out _ (TT.out.up U)).mono ?_
        rintro _ w2 ⟨rfl, h2⟩
        replace U := U.trans h2
        clear h2
        go_wp2_with fail
        refine (C2.out _ (TT.out.up U)).mono ?_
        rintro _ w3 ⟨rfl, h3⟩
        replace U := U.trans h3
        clear h3
        go_wp2_with fail
        refine (C3.out _ (TT.out.up U)).mono ?_
        rintro _ w4 ⟨rfl, h4⟩
        replace U := U.trans h4
        clear h4
        go_wp2_with fail
        go_ret
        exact ⟨rfl, U⟩
    ·
      by_cases p6 : p = 60
      ·
        have m0 : m ≠ 0 := fun e => by have := hz0.1.1 e; omega
        have mo := hz0.2 m0
        have o1 : (m : Int) % 2 = 1 := by omega
        have o2 : ((m : Int) == 0) = false := by rw [beq_eq_false_iff_ne]; omega
        have o3 : ((m : Int) != 0) = true := by rw [bne_iff_ne]; omega
        have o4 : ((k : Int) == 0) = false := by rw [beq_eq_false_iff_ne]; omega
        subst p6
        clear hz0 CV ho m0 mo
        have U := Up.refl w
        go_enter Tryd.func4, Tryd.ntmps4
        go_wp2_with fail
        refine (mshown_any _ (Lib.hid (TT.out.up U)) C).mono ?_
        rintro _ w1 ⟨rfl, h1⟩
        replace U := U.trans h1
        clear h1
        go_wp2_with fail
        refine (C1.out _ (TT.out.up U)).mono ?_
        rintro _ w2 ⟨rfl, h2⟩
        replace U := U.trans h2
        clear h2
        go_wp2_with fail
        refine (C2.out _ (TT.out.up U)).mono ?_
        rintro _ w3 ⟨rfl, h3⟩
        replace U := U.trans h3
        clear h3
        go_wp2_with fail
        refine (C3.out _ (TT.out.up U)).mono ?_
        rintro _ w4 ⟨rfl, h4⟩
        replace U := U.trans h4
        clear h4
        go_wp2_with fail
        go_ret
        exact ⟨rfl, U⟩
      ·
        have m0 : m ≠ 0 := fun e => by have := hz0.1.1 e; omega
        have mo := hz0.2 m0
        have o1 : (m : Int) % 2 = 1 := by omega
        have o2 : ((m : Int) == 0) = false := by rw [beq_eq_false_iff_ne]; omega
        have o3 : ((m : Int) != 0) = true := by rw [bne_iff_ne]; omega
        have o4 : ((k : Int) == 0) = false := by rw [beq_eq_false_iff_ne]; omega
        have C4 := CV k63 (by omega)
        have p61 : ((p : Int) == 60) = false := by rw [beq_eq_false_iff_ne]; omega
        have kq : (k : Int) / 9223372036854775808 = 0 := by omega
        clear hz0 CV ho p6 m0 mo
        have U := Up.refl w
        go_enter Tryd.func4, Tryd.ntmps4
        go_wp2_with fail
        refine (mshown_any _ (Lib.hid (TT.out.up U)) C).mono ?_
        rintro _ w1 ⟨rfl, h1⟩
        replace U := U.trans h1
        clear h1
        go_wp2_with fail
        refine (C1.out _ (TT.out.up U)).mono ?_
        rintro _ w2 ⟨rfl, h2⟩
        replace U := U.trans h2
        clear h2
        go_wp2_with fail
        refine (C2.out _ (TT.out.up U)).mono ?_
        rintro _ w3 ⟨rfl, h3⟩
        replace U := U.trans h3
        clear h3
        go_wp2_with fail
        refine (C3.out _ (TT.out.up U)).mono ?_
        rintro _ w4 ⟨rfl, h4⟩
        replace U := U.trans h4
        clear h4
        go_wp2_with fail
        refine (C4.out _ (TT.out.up U)).mono ?_
        rintro _ w5 ⟨rfl, h5⟩
        replace U := U.trans h5
        clear h5
        go_wp2_with fail
        go_ret
        exact ⟨rfl, U⟩
end Go.Proofs.YtajfcdkdfmnmhaaDoor
