/-
  PositRises, PositBack.
-/
import Derived.Test.YtngoglhjelcdgaaDoorPb
namespace Go.Proofs.YtngoglhjelcdgaaDoor
open Go.RowKit
set_option maxHeartbeats 4000000 in
set_option maxRecDepth 100000 in
theorem prises_walk (w : World) (TT : Hid (Tz w)) (x0 : Int) (_wx0 : (Lit.int .i64 x0).wf = true) (x1 : Int) (wx1 : (Lit.int .u64 x1).wf = true) (x2 : Int) (wx2 : (Lit.int .u64 x2).wf = true) : Calls Tryd.prog 6 #[.int .i64 x0, .int .u64 x1, .int .u64 x2] w (True5 w) := by
  obtain ⟨a, rfl, ha⟩ := nat_u64 wx1
  obtain ⟨b, rfl, hb⟩ := nat_u64 wx2
  clear wx1 wx2
  by_cases h : bad x0 a
  ·
    have CA := Lib.hid (fun W (_ : Tz W) => pvalue_out W x0 a ha h)
    obtain ⟨n, z, x, CB⟩ : ∃ n z x, Hid (∀ W, Tz W → Calls Tryd.prog 16 #[.int .i64 x0, u64 b] W (Vn n z x W)) := by
      by_cases h2 : bad x0 b
      · exact ⟨0, 0, 1, fun W _ => pvalue_out W x0 b hb h2⟩
      · obtain ⟨n, rfl, hn2, hn, k0, kn⟩ := of_bad h2
        obtain ⟨vm, vz, hv⟩ := M.isk_ex hn2 k0 kn
        exact ⟨vm, vz, 0, fun W TW => pvalue_is W TW n b vm vz hn hv⟩
    clear h
    have U := Up.refl w
    go_enter Tryd.func6, Tryd.ntmps6
    go_wp2_with fail
    refine (pshown_any _ (Lib.hid (TT.out.up U))).mono ?_
    rintro _ w1 ⟨rfl, h1⟩
    replace U := U.trans h1
    clear h1
    go_wp2_with fail
    refine (CA.out _ (TT.out.up U)).mono ?_
    rintro _ w2 ⟨rfl, h2⟩
    replace U := U.trans h2
    clear h2
    go_wp2_with fail
    refine (CB.out _ (TT.out.up U)).mono ?_
    rintro _ w3 ⟨rfl, h3⟩
    replace U := U.trans h3
    clear h3
    go_wp2_with fail
    go_ret
    exact ⟨rfl, U⟩
  ·
    obtain ⟨n, rfl, hn2, hn, k0, kn⟩ := of_bad h
    clear h
    obtain ⟨m, d, hm⟩ := M.isk_ex hn2 k0 kn
    have ga := hm.rng hn
    have CA := Lib.hid (fun W (TW : Tz W) => pvalue_is W TW n a m d hn hm)
    by_cases h : bad ((n : Int) + 1) b
    ·
      have CB := Lib.hid (fun W (_ : Tz W) => pvalue_out W ((n : Int) + 1) b hb h)
      clear h hm ga kn
      have U := Up.refl w
      go_enter Tryd.func6, Tryd.ntmps6
      go_wp2_with fail
      refine (pshown_any _ (Lib.hid (TT.out.up U))).mono ?_
      rintro _ w1 ⟨rfl, h1⟩
      replace U := U.trans h1
      clear h1
      go_wp2_with fail
      refine (CA.out _ (TT.out.up U)).mono ?_
      rintro _ w2 ⟨rfl, h2⟩
      replace U := U.trans h2
      clear h2
      go_wp2_with fail
      refine (CB.out _ (TT.out.up U)).mono ?_
      rintro _ w3 ⟨rfl, h3⟩
      replace U := U.trans h3
      clear h3
      go_wp2_with fail
      go_ret
      exact ⟨rfl, U⟩
    ·
      obtain ⟨n', en, _, _, k0', kn'⟩ := of_bad h
      obtain rfl : n = n' := by omega
      clear h en
      obtain ⟨m', d', hm'⟩ := M.isk_ex hn2 k0' kn'
      have gb := hm'.rng hn
      have CB := Lib.hid (fun W (TW : Tz W) => pvalue_is W TW n b m' d' hn hm')
      obtain ⟨tt, htt⟩ : ∃ tt, decide ((a : Int) < (b : Int)) = tt := ⟨_, rfl⟩
      have hl : decide (m * 2 ^ (d + 1000).toNat < m' * 2 ^ (d' + 1000).toNat) = tt := by
        rw [← htt]
        have := M.isk_same hn hm hm'
        unfold M.vz at this
        rw [this]
        exact decide_eq_decide.2 Int.ofNat_lt.symm
      have CL := Lib.hid (fun W => lless_any W m m' d d' (by omega) (by omega) (by omega) (by omega) (by omega) (by omega) tt (Lib.hid hl))
      have o1 : (m : Int) % 2 = 1 := by have := hm.1; omega
      have o2 : (m' : Int) % 2 = 1 := by have := hm'.1; omega
      have bm : m < 18446744073709551616 := by omega
      have bm' : m' < 18446744073709551616 := by omega
      have HM := Lib.hid hm
      have HM' := Lib.hid hm'
      clear hl ga gb kn kn' hm hm'
      rcases (show a = b ∨ (a ≠ b ∧ m ≠ m') ∨ (a ≠ b ∧ m = m' ∧ d ≠ d') by
        by_cases e : a = b
        · exact .inl e
        · by_cases e2 : m = m'
          · by_cases e3 : d = d'
            · subst e2 e3
              exact absurd (M.isk_inj hn HM.out HM'.out) e
            · exact .inr (.inr ⟨e, e2, e3⟩)
          · exact .inr (.inl ⟨e, e2⟩)) with e | ⟨e, e2⟩ | ⟨e, rfl, e3⟩
      ·
        subst e
        obtain ⟨rfl, rfl⟩ := M.isk_uniq HM.out HM'.out
        obtain rfl : false = tt := by rw [← htt, eq_comm, decide_eq_false_iff_not]; omega
        clear htt
        have U := Up.refl w
        go_enter Tryd.func6, Tryd.ntmps6
        go_wp2_with fail
        refine (pshown_any _ (Lib.hid (TT.out.up U))).mono ?_
        rintro _ w1 ⟨rfl, h1⟩
        replace U := U.trans h1
        clear h1
        go_wp2_with fail
        refine (CA.out _ (TT.out.up U)).mono ?_
        rintro _ w2 ⟨rfl, h2⟩
        replace U := U.trans h2
        clear h2
        go_wp2_with fail
        refine (CB.out _ (TT.out.up U)).mono ?_
        rintro _ w3 ⟨rfl, h3⟩
        replace U := U.trans h3
        clear h3
        go_wp2_with fail
        refine (CL.out _).mono ?_
        rintro _ _ ⟨rfl, rfl⟩
        clear o1 o2
        go_wp2_with fail
        go_ret
        exact ⟨by first | rfl | exact ret_bool (a := !((a : Int) == (b : Int))) (b := true) (by rw [Bool.not_eq_true', beq_eq_false_iff_ne]; omega), U⟩
      ·
        have q1 : ((m : Int) == (m' : Int)) = false := by rw [beq_eq_false_iff_ne]; omega
        clear e2
        rcases Nat.lt_or_ge a b with hlt | hge
        ·
          obtain rfl : true = tt := by rw [← htt, eq_comm, decide_eq_true_iff]; omega
          clear htt
          have U := Up.refl w
          go_enter Tryd.func6, Tryd.ntmps6
          go_wp2_with fail
          refine (pshown_any _ (Lib.hid (TT.out.up U))).mono ?_
          rintro _ w1 ⟨rfl, h1⟩
          replace U := U.trans h1
          clear h1
          go_wp2_with fail
          refine (CA.out _ (TT.out.up U)).mono ?_
          rintro _ w2 ⟨rfl, h2⟩
          replace U := U.trans h2
          clear h2
          go_wp2_with fail
          refine (CB.out _ (TT.out.up U)).mono ?_
          rintro _ w3 ⟨rfl, h3⟩
          replace U := U.trans h3
          clear h3
          go_wp2_with fail
          refine (CL.out _).mono ?_
          rintro _ _ ⟨rfl, rfl⟩
          clear o1 o2
          go_wp2_with fail
          go_ret
          exact ⟨by first | rfl | exact ret_bool (a := !((a : Int) == (b : Int))) (b := true) (by rw [Bool.not_eq_true', beq_eq_false_iff_ne]; omega), U⟩
        ·
          obtain rfl : false = tt := by rw [← htt, eq_comm, decide_eq_false_iff_not]; omega
          have hnl : ¬ a < b := by omega
          clear htt
          have U := Up.refl w
          go_enter Tryd.func6, Tryd.ntmps6
          go_wp2_with fail
          refine (pshown_any _ (Lib.hid (TT.out.up U))).mono ?_
          rintro _ w1 ⟨rfl, h1⟩
          replace U := U.trans h1
          clear h1
          go_wp2_with fail
          refine (CA.out _ (TT.out.up U)).mono ?_
          rintro _ w2 ⟨rfl, h2⟩
          replace U := U.trans h2
          clear h2
          go_wp2_with fail
          refine (CB.out _ (TT.out.up U)).mono ?_
          rintro _ w3 ⟨rfl, h3⟩
          replace U := U.trans h3
          clear h3
          go_wp2_with fail
          refine (CL.out _).mono ?_
          rintro _ _ ⟨rfl, rfl⟩
          clear o1 o2
          go_wp2_with fail
          go_ret
          exact ⟨by first | rfl | exact ret_bool (a := !((a : Int) == (b : Int))) (b := true) (by rw [Bool.not_eq_true', beq_eq_false_iff_ne]; omega), U⟩
      ·
        have q2 : (d == d') = false := by rw [beq_eq_false_iff_ne]; exact e3
        clear e3
        rcases Nat.lt_or_ge a b with hlt | hge
        ·
          obtain rfl : true = tt := by rw [← htt, eq_comm, decide_eq_true_iff]; omega
          clear htt
          have U := Up.refl w
          go_enter Tryd.func6, Tryd.ntmps6
          go_wp2_with fail
          refine (pshown_any _ (Lib.hid (TT.out.up U))).mono ?_
          rintro _ w1 ⟨rfl, h1⟩
          replace U := U.trans h1
          clear h1
          go_wp2_with fail
          refine (CA.out _ (TT.out.up U)).mono ?_
          rintro _ w2 ⟨rfl, h2⟩
          replace U := U.trans h2
          clear h2
          go_wp2_with fail
          refine (CB.out _ (TT.out.up U)).mono ?_
          rintro _ w3 ⟨rfl, h3⟩
          replace U := U.trans h3
          clear h3
          go_wp2_with fail
          refine (CL.out _).mono ?_
          rintro _ _ ⟨rfl, rfl⟩
          clear o1 o2
          go_wp2_with fail
          go_ret
          exact ⟨by first | rfl | exact ret_bool (a := !((a : Int) == (b : Int))) (b := true) (by rw [Bool.not_eq_true', beq_eq_false_iff_ne]; omega), U⟩
        ·
          obtain rfl : false = tt := by rw [← htt, eq_comm, decide_eq_false_iff_not]; omega
          have hnl : ¬ a < b := by omega
          clear htt
          have U := Up.refl w
          go_enter Tryd.func6, Tryd.ntmps6
          go_wp2_with fail
          refine (pshown_any _ (Lib.hid (TT.out.up U))).mono ?_
          rintro _ w1 ⟨rfl, h1⟩
          replace U := U.trans h1
          clear h1
          go_wp2_with fail
          refine (CA.out _ (TT.out.up U)).mono ?_
          rintro _ w2 ⟨rfl, h2⟩
          replace U := U.trans h2
          clear h2
          go_wp2_with fail
          refine (CB.out _ (TT.out.up U)).mono ?_
          rintro _ w3 ⟨rfl, h3⟩
          replace U := U.trans h3
          clear h3
          go_wp2_with fail
          refine (CL.out _).mono ?_
          rintro _ _ ⟨rfl, rfl⟩
          clear o1 o2
          go_wp2_with fail
          go_ret
          exact ⟨by first | rfl | exact ret_bool (a := !((a : Int) == (b : Int))) (b := true) (by rw [Bool.not_eq_true', beq_eq_false_iff_ne]; omega), U⟩
set_option maxHeartbeats 4000000 in
set_option maxRecDepth 100000 in
theorem pback_walk (w : World) (TT : Hid (Tz w)) (x0 : Int) (_wx0 : (Lit.int .i64 x0).wf = true) (x1 : Int) (wx1 : (Lit.int .u64 x1).wf = true) : Calls Tryd.prog 7 #[.int .i64 x0, .int .u64 x1] w (True5 w) := by
  obtain ⟨k, rfl, hk⟩ := nat_u64 wx1
  clear wx1
  by_cases h : bad x0 k
  ·
    have C1 := Lib.hid (fun W => psplit_out W x0 k hk h)
    clear h
    have U := Up.refl w
    go_enter Tryd.func7, Tryd.ntmps7
    go_wp2_with fail
    refine (pshown_any _ (Lib.hid (TT.out.up U))).mono ?_
    rintro _ w1 ⟨rfl, h1⟩
    replace U := U.trans h1
    clear h1
    go_wp2_with fail
    refine (C1.out _).mono ?_
    rintro _ w2 ⟨rfl, h2⟩
    replace U := U.trans h2
    clear h2
    go_wp2_with fail
    go_ret
    exact ⟨rfl, by first | exact U | exact U.alloc _⟩
  ·
    obtain ⟨n, rfl, hn2, hn, k0, kn⟩ := of_bad h
    clear h
    obtain ⟨R, r, q, hP⟩ := M.ps_ex hn2 k0 kn
    obtain ⟨E, hE⟩ : ∃ x, M.ex r q = x := ⟨_, rfl⟩
    obtain ⟨F, hF⟩ : ∃ x, M.fr r q = x := ⟨_, rfl⟩
    obtain ⟨B, hB⟩ : ∃ x : Int, ((r - 2 : Nat) : Int) = x := ⟨_, rfl⟩
    have C1 := Lib.hid (fun W => psplit_in W n k r q R hn hP E F B (Lib.hid hE) (Lib.hid hF) (Lib.hid hB))
    have hf : M.IsF n k R E F B := ⟨r, q, hP, by rw [hE], hF, hB⟩
    have F64 : F < 18446744073709551616 := by
      have := (hf.rng hn)
      have h1 : 2 ^ B.toNat ≤ 2 ^ 64 := M.p2le (by omega)
      have h2 : (2 : Nat) ^ 64 = 18446744073709551616 := by decide
      omega
    have CJ := Lib.hid (fun W => pjoin_is W n k hn2 hn R E F B F64 hf)
    obtain ⟨m, z, hm⟩ := M.isk_ex hn2 k0 kn
    have gm := hm.rng hn
    have CV := Lib.hid (fun W (TW : Tz W) => pvalue_is W TW n k m z hn hm)
    have CK := Lib.hid (fun W (TW : Tz W) => pkey_is W TW n k hn2 hn m m 0 z z (by omega) (by simp) (by omega) (by simp) hm)
    have m64 : m < 18446744073709551616 := by omega
    have q1 : ((k : Int) != (k : Int)) = false := by simp
    have q2 : ((m : Int) == (m : Int)) = true := by simp
    have q3 : (z == z) = true := by simp
    have HM := Lib.hid hm
    clear hP hE hF hB hf gm hm
    by_cases h65 : n = 64
    ·
      subst h65
      clear HM kn
      have U := Up.refl w
      go_enter Tryd.func7, Tryd.ntmps7
      go_wp2_with fail
      refine (pshown_any _ (Lib.hid (TT.out.up U))).mono ?_
      rintro _ w1 ⟨rfl, h1⟩
      replace U := U.trans h1
      clear h1
      go_wp2_with fail
      refine (C1.out _).mono ?_
      rintro _ w2 ⟨rfl, h2⟩
      replace U := U.trans h2
      clear h2
      go_wp2_with fail
      obtain ⟨V3, hV3⟩ : ∃ V3, w2.alloc (.cells #[.int .i64 R, .int .i64 (E : Int), .int .u64 (F : Int), .int .i64 B] 25) = V3 := ⟨_, rfl⟩
      have a : Ob V3 w2.heap.size 25 #[.int .i64 R, .int .i64 (E : Int), .int .u64 (F : Int), .int .i64 B] := by rw [← hV3]; exact Ob.mk_ _ _ _
      have uV3 : Up w2 V3 := by rw [← hV3]; exact (Up.refl _).alloc _
      rw [hV3]
      clear hV3
      replace U := U.trans uV3
      clear uV3
      have a0 := a.get 0
      have a1 := a.get 1
      have a2 := a.get 2
      have a3 := a.get 3
      have a9 := a.lt
      simp only [List.getElem?_toArray, List.getElem?_cons_zero, List.getElem?_cons_succ] at a0 a1 a2 a3
      go_wp2_with fail
      clear a0 a1 a2 a3 a9
      refine (CJ.out _).mono ?_
      rintro _ w4 ⟨rfl, h4⟩
      replace U := U.trans h4
      replace a := a.up h4
      clear h4
      have a0 := a.get 0
      have a1 := a.get 1
      have a2 := a.get 2
      have a3 := a.get 3
      have a9 := a.lt
      simp only [List.getElem?_toArray, List.getElem?_cons_zero, List.getElem?_cons_succ] at a0 a1 a2 a3
      go_wp2_with fail
      clear a0 a1 a2 a3 a9
      refine (CV.out _ (TT.out.up U)).mono ?_
      rintro _ w5 ⟨rfl, h5⟩
      replace U := U.trans h5
      replace a := a.up h5
      clear h5
      have a0 := a.get 0
      have a1 := a.get 1
      have a2 := a.get 2
      have a3 := a.get 3
      have a9 := a.lt
      simp only [List.getElem?_toArray, List.getElem?_cons_zero, List.getElem?_cons_succ] at a0 a1 a2 a3
      go_wp2_with fail
      clear a0 a1 a2 a3 a9
      refine (CK.out _ (TT.out.up U)).mono ?_
      rintro _ w6 ⟨rfl, h6⟩
      replace U := U.trans h6
      replace a := a.up h6
      clear h6
      have a0 := a.get 0
      have a1 := a.get 1
      have a2 := a.get 2
      have a3 := a.get 3
      have a9 := a.lt
      simp only [List.getElem?_toArray, List.getElem?_cons_zero, List.getElem?_cons_succ] at a0 a1 a2 a3
      go_wp2_with fail
      clear a0 a1 a2 a3 a9
      go_ret
      exact ⟨rfl, U⟩
    ·
      have n63 : n ≤ 63 := by omega
      have k2 : 2 * k < 18446744073709551616 := by
        have h1 : 2 ^ (n + 1) ≤ 2 ^ 64 := M.p2le (by omega)
        have h2 : (2 : Nat) ^ 64 = 18446744073709551616 := by decide
        rw [M.p2s] at h1
        omega
      have CW := Lib.hid (fun W (TW : Tz W) => show Calls Tryd.prog 16 #[.int .i64 ((n : Int) + 1 + 1), .int .u64 (2 * (k : Int))] W (Vn m z 0 W) from by
        have h := pvalue_is W TW (n + 1) (2 * k) m z (by omega) (M.isk_longer n63 HM.out)
        have e1 : (((n + 1 : Nat) : Int) + 1) = (n : Int) + 1 + 1 := by omega
        have e2 : u64 (2 * k) = .int .u64 (2 * (k : Int)) := by unfold u64; congr 1
        rw [e1, e2] at h
        exact h)
      have w65 : ((n : Int) + 1 == 65) = false := by rw [beq_eq_false_iff_ne]; omega
      clear HM kn h65
      have U := Up.refl w
      go_enter Tryd.func7, Tryd.ntmps7
      go_wp2_with fail
      refine (pshown_any _ (Lib.hid (TT.out.up U))).mono ?_
      rintro _ w1 ⟨rfl, h1⟩
      replace U := U.trans h1
      clear h1
      go_wp2_with fail
      refine (C1.out _).mono ?_
      rintro _ w2 ⟨rfl, h2⟩
      replace U := U.trans h2
      clear h2
      go_wp2_with fail
      obtain ⟨V3, hV3⟩ : ∃ V3, w2.alloc (.cells #[.int .i64 R, .int .i64 (E : Int), .int .u64 (F : Int), .int .i64 B] 25) = V3 := ⟨_, rfl⟩
      have a : Ob V3 w2.heap.size 25 #[.int .i64 R, .int .i64 (E : Int), .int .u64 (F : Int), .int .i64 B] := by rw [← hV3]; exact Ob.mk_ _ _ _
      have uV3 : Up w2 V3 := by rw [← hV3]; exact (Up.refl _).alloc _
      rw [hV3]
      clear hV3
      replace U := U.trans uV3
      clear uV3
      have a0 := a.get 0
      have a1 := a.get 1
      have a2 := a.get 2
      have a3 := a.get 3
      have a9 := a.lt
      simp only [List.getElem?_toArray, List.getElem?_cons_zero, List.getElem?_cons_succ] at a0 a1 a2 a3
      go_wp2_with fail
      clear a0 a1 a2 a3 a9
      refine (CJ.out _).mono ?_
      rintro _ w4 ⟨rfl, h4⟩
      replace U := U.trans h4
      replace a := a.up h4
      clear h4
      have a0 := a.get 0
      have a1 := a.get 1
      have a2 := a.get 2
      have a3 := a.get 3
      have a9 := a.lt
      simp only [List.getElem?_toArray, List.getElem?_cons_zero, List.getElem?_cons_succ] at a0 a1 a2 a3
      go_wp2_with fail
      clear a0 a1 a2 a3 a9
      refine (CV.out _ (TT.out.up U)).mono ?_
      rintro _ w5 ⟨rfl, h5⟩
      replace U := U.trans h5
      replace a := a.up h5
      clear h5
      have a0 := a.get 0
      have a1 := a.get 1
      have a2 := a.get 2
      have a3 := a.get 3
      have a9 := a.lt
      simp only [List.getElem?_toArray, List.getElem?_cons_zero, List.getElem?_cons_succ] at a0 a1 a2 a3
      go_wp2_with fail
      clear a0 a1 a2 a3 a9
      refine (CK.out _ (TT.out.up U)).mono ?_
      rintro _ w6 ⟨rfl, h6⟩
      replace U := U.trans h6
      replace a := a.up h6
      clear h6
      have a0 := a.get 0
      have a1 := a.get 1
      have a2 := a.get 2
      have a3 := a.get 3
      have a9 := a.lt
      simp only [List.getElem?_toArray, List.getElem?_cons_zero, List.getElem?_cons_succ] at a0 a1 a2 a3
      go_wp2_with fail
      clear a0 a1 a2 a3 a9
      refine (CW.out _ (TT.out.up U)).mono ?_
      rintro _ w7 ⟨rfl, h7⟩
      replace U := U.trans h7
      replace a := a.up h7
      clear h7
      have a0 := a.get 0
      have a1 := a.get 1
      have a2 := a.get 2
      have a3 := a.get 3
      have a9 := a.lt
      simp only [List.getElem?_toArray, List.getElem?_cons_zero, List.getElem?_cons_succ] at a0 a1 a2 a3
      go_wp2_with fail
      clear a0 a1 a2 a3 a9
      go_ret
      exact ⟨rfl, U⟩
end Go.Proofs.YtngoglhjelcdgaaDoor
