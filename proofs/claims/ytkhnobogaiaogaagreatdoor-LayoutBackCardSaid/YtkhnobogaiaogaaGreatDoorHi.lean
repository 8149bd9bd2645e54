/-
  LayoutWholes: its walk.
-/
import Derived.Test.YtkhnobogaiaogaaGreatDoorHh
namespace Go.Proofs.YtkhnobogaiaogaaGreatDoor
open Go.RowKit Go.Shelf
set_option linter.unusedVariables false
set_option linter.unusedSimpArgs false

namespace M
theorem dec_tens (d : Nat) (h : d ≠ 0) : ∀ k, Lib.decDigits (d * 10 ^ k) = Lib.decDigits d ++ List.replicate k 48
  | 0 => by simp
  | k + 1 => by
    have hp : 0 < d * 10 ^ k := Nat.mul_pos (by omega) (Nat.pow_pos (by omega))
    have e : d * 10 ^ (k + 1) = (d * 10 ^ k) * 10 := by rw [Nat.pow_succ, Nat.mul_assoc]
    have ih := dec_tens d h k
    rw [e]
    generalize d * 10 ^ k = m at *
    rw [dd_last (m * 10) (by omega), show m * 10 / 10 = m by omega, show m * 10 % 10 = 0 by omega, ih, List.replicate_succ', show Lib.decDigits 0 = [48] from Lib.decDigits_one (by omega), List.append_assoc]
theorem dec_20 (n : Nat) (h : n < 18446744073709551616) : (Lib.decDigits n).length ≤ 20 := by
  rw [Lib.decDigits_length]
  exact nd_lt 19 n (by omega)
/-- A whole number below 2^64, without its noughts. -/
theorem whole {n d k : Nat} (hn : n < 18446744073709551616) (e : n = d * 10 ^ k) (h : d = 0 ∧ k = 0 ∨ d ≠ 0 ∧ d % 10 ≠ 0) (neg : Bool) : rtn d k ∧ ly neg d k = sgt neg ++ Lib.decDigits n := by
  have hl := dec_20 n hn
  rcases h with ⟨rfl, rfl⟩ | ⟨h1, h2⟩
  · refine ⟨.inl ⟨rfl, rfl⟩, ?_⟩
    have e0 : n = 0 := by rw [e, Nat.zero_mul]
    rw [e0, Lib.decDigits_one (by omega)]
    rfl
  · have ed := dec_tens d h1 k
    rw [← e] at ed
    have el := congrArg List.length ed
    rw [List.length_append, List.length_replicate] at el
    have hp := decDigits_pos d
    refine ⟨.inr ⟨h1, by omega, by omega, h2⟩, ?_⟩
    unfold ly
    rw [if_neg h1, ed]
    unfold lyb
    rw [if_neg (by unfold lfar; omega), if_neg (by omega), if_pos (by omega), Int.toNat_natCast]
theorem tens_le {n d k : Nat} (hn : n < 18446744073709551616) (e : n = d * 10 ^ k) (h : d ≠ 0) : k ≤ 20 := by
  have ed := dec_tens d h k
  rw [← e] at ed
  have el := congrArg List.length ed
  have hl := dec_20 n hn
  rw [List.length_append, List.length_replicate] at el
  omega
end M
theorem hid_ne {a b : Nat} (h : ¬ a = b) : Hid (¬ a = b) := h


set_option maxHeartbeats 8000000 in
set_option maxRecDepth 100000 in
theorem lwholes_false (w : World) (TW : TabW w) (EW : ErrB w) (F : Lay) (n : Nat) (hn : n < 18446744073709551616) :
    Calls Tryz.prog 8 #[.int .u64 (n : Int), .bool false] w (True12 w) := by
  have CS := Lib.hid (shown12_any F w TW EW)
  have C1 := Lib.hid (fun (W : World) => of_any W n hn)
  have C2 := Lib.hid (fun (W : World) (x : Nat) (hx : x < 18446744073709551616) => of_any W x hx)
  obtain ⟨ST, hST⟩ := tx_ex (Lib.decDigits n)
  have hSz : ST.size ≤ 20 := by rw [hST.size]; exact M.dec_20 n hn
  have HST := Lib.hid hST
  have HN := Lib.hid hn
  replace F := Lib.hid F
  replace TW := Lib.hid TW
  replace EW := Lib.hid EW
  have U := Up.refl w
  clear hST
  go_enter Tryz.func8, Tryz.ntmps8
  go_wp2_with fail
  refine CS.out.mono ?_
  rintro _ w1 ⟨rfl, u1⟩
  replace U := U.trans u1
  clear u1 CS
  go_wp2_with fail
  go_loopw [6, 7] (fun xv kv wr => ∃ d k : Nat, xv = .int .u64 (d : Int) ∧ kv = .int .i64 (k : Int) ∧ d ≤ n ∧ Hid (n = d * 10 ^ k) ∧ Hid (d = 0 → k = 0) ∧ Up w wr) (fun xv _ _ => (intOf xv).toNat)
  case atStart => exact ⟨n, 0, rfl, rfl, Nat.le_refl _, by show n = _; simp, by intro _; rfl, U⟩
  case round =>
    clear U
    obtain ⟨d, k, rfl, rfl, hd, HE, HZ, U⟩ := hrel
    have hdb : d < 18446744073709551616 := by omega
    have hkb : k ≤ 20 := by
      by_cases h : d = 0
      · rw [HZ.out h]; omega
      · exact M.tens_le HN.out HE.out h
    obtain ⟨r, hr⟩ : ∃ r, d % 10 = r := ⟨_, rfl⟩
    obtain ⟨q, hq⟩ : ∃ q, d / 10 = q := ⟨_, rfl⟩
    have q1 : ((d : Int)).tmod 10 = (r : Int) := by rw [Int.tmod_eq_emod_of_nonneg (by omega)]; omega
    have q2 : (d : Int) % 10 = (r : Int) := by omega
    have q3 : ((d : Int)).tdiv 10 = (q : Int) := by rw [Int.tdiv_eq_ediv_of_nonneg (by omega)]; omega
    have q4 : (d : Int) / 10 = (q : Int) := by omega
    have HR := Lib.hid hr
    have HQ := Lib.hid hq
    clear hr hq
    by_cases hgo : d ≠ 0 ∧ r = 0
    · have d1 : decide ((d : Int) > 0) = true := decide_eq_true (by omega)
      have d3 : decide (0 < d) = true := decide_eq_true (by omega)
      have d2 : ((r : Int) == 0) = true := by rw [beq_iff_eq]; omega
      have HE2 : Hid (n = q * 10 ^ (k + 1)) := by
        show n = _
        have h1 := HR.out
        have h2 := HQ.out
        have e : d = q * 10 := by omega
        rw [Nat.pow_succ, Nat.mul_comm (10 ^ k), ← Nat.mul_assoc, ← e]
        exact HE.out
      have HZ2 : Hid (q = 0 → k + 1 = 0) := by
        intro h
        have h1 := HR.out
        have h2 := HQ.out
        omega
      have hql : Hid (q < d) := by show q < d; have h2 := HQ.out; omega
      have hd0 := hgo.1
      clear hgo HE HZ
      go_wp2_with fail
      go_roundw
      case rel => exact ⟨q, k + 1, by first | rfl | go_num, by go_num, by have := hql.out; omega, HE2, HZ2, U⟩
      case measure => have := hql.out; simp [intOf]; omega
    · have HF := Lib.hid (M.whole HN.out HE.out (by
        by_cases h : d = 0
        · exact .inl ⟨h, HZ.out h⟩
        · exact .inr ⟨h, fun h2 => hgo ⟨h, HR.out.symm.trans h2⟩⟩) false)
      have C1n := C1
      have HB := Lib.hid (show d = 0 ∨ (d ≠ 0 ∧ r ≠ 0) by
        by_cases h : d = 0
        · exact .inl h
        · exact .inr ⟨h, fun h2 => hgo ⟨h, h2⟩⟩)
      clear hgo HE HZ HR HQ q3 q4 hd
      rcases HB.out with h0 | ⟨h0, h1⟩
      · have d1 : decide ((d : Int) > 0) = false := decide_eq_false (by omega)
        have d3 : decide (0 < d) = false := decide_eq_false (by omega)
        have HD := Lib.hid h0
        clear h0 HB
        go_wp2_with fail
        refine (C1.out _).mono ?_
        rintro _ w2 ⟨v2, rfl, N2, u2⟩
        have CT := Lib.hid (text_of w2 _ _ _ _ N2.nw (by omega) (TW.out.up (U.trans u2)) ST (Tx.uniq (Tx.lit _) HST.out))
        replace U := U.trans u2
        clear u2 N2 C1 C1n
        go_wp2_with fail
        refine CT.out.mono ?_
        rintro _ w3 ⟨rfl, u3⟩
        replace U := U.trans u3
        clear u3 CT
        have HSB : Hid (Tx ST (M.sgt false ++ Lib.decDigits n)) := HST.out
        go_wp2_with fail
        refine (C2.out _ d hdb).mono ?_
        rintro _ w4 ⟨v4, rfl, N4, u4⟩
        obtain ⟨A4, n4, c4, zs, rfl, g1, g2, g3, g4⟩ := N4
        replace U := U.trans u4
        clear u4 C2
        go_upto_region 11 with fail
        have BX := Ob.mk_ w4 25 #[.bool false, .slice A4 n4 c4, .int .i64 (k : Int)]
        obtain ⟨V4, hV4⟩ : ∃ V4, w4.alloc (.cells #[.bool false, .slice A4 n4 c4, .int .i64 (k : Int)] 25) = V4 := ⟨_, rfl⟩
        have uV : Up w4 V4 := by rw [← hV4]; exact (Up.refl _).alloc _
        rw [hV4] at BX ⊢
        clear hV4
        replace U := U.trans uV
        replace g1 := g1.up uV
        clear uV
        have CU := Lib.hid (F.out.unlay V4 ST _ (TW.out.up U) (EW.out.up U) HSB (by have h1 := HF.out.2; rw [← h1]; have := M.ly_len (ng := false) HF.out.1; omega))
        go_wp2_with fail
        refine CU.out.mono ?_
        rintro _ w5 ⟨ng5, A5, n5, c5, a5, k5, e5, rfl, R5, N5, u5⟩
        obtain ⟨e1, e2, e3, e4⟩ := R5.of HF.out.1 HF.out.2
        replace e1 := e1.symm
        replace e2 := e2.symm
        replace e3 := e3.symm
        replace e4 := e4.symm
        subst e1 e2 e3 e4
        replace U := U.trans u5
        replace g1 := g1.up u5
        replace BX := BX.up u5
        clear u5 R5 CU
        go_upto_region 12 with fail
        have BY := Ob.mk_ w5 25 #[.bool false, .slice A5 n5 c5, .int .i64 (k : Int)]
        obtain ⟨V5, hV5⟩ : ∃ V5, w5.alloc (.cells #[.bool false, .slice A5 n5 c5, .int .i64 (k : Int)] 25) = V5 := ⟨_, rfl⟩
        have uV : Up w5 V5 := by rw [← hV5]; exact (Up.refl _).alloc _
        rw [hV5] at BY ⊢
        clear hV5
        replace U := U.trans uV
        replace g1 := g1.up uV
        replace BX := BX.up uV
        replace N5 := N5.up uV
        clear uV
        have x0 := BX.get 0
        have x1 := BX.get 1
        have x2 := BX.get 2
        simp only [List.getElem?_toArray, List.getElem?_cons_zero, List.getElem?_cons_succ] at x0 x1 x2
        have CL := Lib.hid (F.out.text V5 (TW.out.up U) (EW.out.up U) false A4 n4 c4 zs (k : Int) (g1.dr (by omega)) (by omega) ST (by
          rw [M.lyr_nrm g4, g2, M.lyn, if_pos HF.out.1, HF.out.2]
          exact HSB.out))
        go_wp2_with fail
        refine CL.out.mono ?_
        rintro _ w6 ⟨rfl, u6⟩
        replace U := U.trans u6
        replace g1 := g1.up u6
        replace BX := BX.up u6
        replace BY := BY.up u6
        replace N5 := N5.up u6
        clear u6 x0 x1 x2 CL
        have x0 := BX.get 0
        have x1 := BX.get 1
        have x2 := BX.get 2
        have y0 := BY.get 0
        have y1 := BY.get 1
        have y2 := BY.get 2
        simp only [List.getElem?_toArray, List.getElem?_cons_zero, List.getElem?_cons_succ] at x0 x1 x2 y0 y1 y2
        have CM := Lib.hid (same12_any w6 _ _ _ _ false false _ _ (k : Int) (k : Int) d d ⟨_, _, _, _, rfl, g1, g2, g3⟩ N5.nw true (Lib.hid (by simp)))
        clear g1 g2 g3 g4 N5 BX BY
        go_wp2_with fail
        refine CM.out.mono ?_
        rintro _ w7 ⟨rfl, u7⟩
        go_wp2_with fail
        go_ret
        exact ⟨rfl, U.trans u7⟩
      · have d1 : decide ((d : Int) > 0) = true := decide_eq_true (by omega)
        have d3 : decide (0 < d) = true := decide_eq_true (by omega)
        have d2 : ((r : Int) == 0) = false := by rw [beq_eq_false_iff_ne]; omega
        clear h0 h1 HB
        go_wp2_with fail
        refine (C1.out _).mono ?_
        rintro _ w2 ⟨v2, rfl, N2, u2⟩
        have CT := Lib.hid (text_of w2 _ _ _ _ N2.nw (by omega) (TW.out.up (U.trans u2)) ST (Tx.uniq (Tx.lit _) HST.out))
        replace U := U.trans u2
        clear u2 N2 C1 C1n
        go_wp2_with fail
        refine CT.out.mono ?_
        rintro _ w3 ⟨rfl, u3⟩
        replace U := U.trans u3
        clear u3 CT
        have HSB : Hid (Tx ST (M.sgt false ++ Lib.decDigits n)) := HST.out
        go_wp2_with fail
        refine (C2.out _ d hdb).mono ?_
        rintro _ w4 ⟨v4, rfl, N4, u4⟩
        obtain ⟨A4, n4, c4, zs, rfl, g1, g2, g3, g4⟩ := N4
        replace U := U.trans u4
        clear u4 C2
        go_upto_region 11 with fail
        have BX := Ob.mk_ w4 25 #[.bool false, .slice A4 n4 c4, .int .i64 (k : Int)]
        obtain ⟨V4, hV4⟩ : ∃ V4, w4.alloc (.cells #[.bool false, .slice A4 n4 c4, .int .i64 (k : Int)] 25) = V4 := ⟨_, rfl⟩
        have uV : Up w4 V4 := by rw [← hV4]; exact (Up.refl _).alloc _
        rw [hV4] at BX ⊢
        clear hV4
        replace U := U.trans uV
        replace g1 := g1.up uV
        clear uV
        have CU := Lib.hid (F.out.unlay V4 ST _ (TW.out.up U) (EW.out.up U) HSB (by have h1 := HF.out.2; rw [← h1]; have := M.ly_len (ng := false) HF.out.1; omega))
        go_wp2_with fail
        refine CU.out.mono ?_
        rintro _ w5 ⟨ng5, A5, n5, c5, a5, k5, e5, rfl, R5, N5, u5⟩
        obtain ⟨e1, e2, e3, e4⟩ := R5.of HF.out.1 HF.out.2
        replace e1 := e1.symm
        replace e2 := e2.symm
        replace e3 := e3.symm
        replace e4 := e4.symm
        subst e1 e2 e3 e4
        replace U := U.trans u5
        replace g1 := g1.up u5
        replace BX := BX.up u5
        clear u5 R5 CU
        go_upto_region 12 with fail
        have BY := Ob.mk_ w5 25 #[.bool false, .slice A5 n5 c5, .int .i64 (k : Int)]
        obtain ⟨V5, hV5⟩ : ∃ V5, w5.alloc (.cells #[.bool false, .slice A5 n5 c5, .int .i64 (k : Int)] 25) = V5 := ⟨_, rfl⟩
        have uV : Up w5 V5 := by rw [← hV5]; exact (Up.refl _).alloc _
        rw [hV5] at BY ⊢
        clear hV5
        replace U := U.trans uV
        replace g1 := g1.up uV
        replace BX := BX.up uV
        replace N5 := N5.up uV
        clear uV
        have x0 := BX.get 0
        have x1 := BX.get 1
        have x2 := BX.get 2
        simp only [List.getElem?_toArray, List.getElem?_cons_zero, List.getElem?_cons_succ] at x0 x1 x2
        have CL := Lib.hid (F.out.text V5 (TW.out.up U) (EW.out.up U) false A4 n4 c4 zs (k : Int) (g1.dr (by omega)) (by omega) ST (by
          rw [M.lyr_nrm g4, g2, M.lyn, if_pos HF.out.1, HF.out.2]
          exact HSB.out))
        go_wp2_with fail
        refine CL.out.mono ?_
        rintro _ w6 ⟨rfl, u6⟩
        replace U := U.trans u6
        replace g1 := g1.up u6
        replace BX := BX.up u6
        replace BY := BY.up u6
        replace N5 := N5.up u6
        clear u6 x0 x1 x2 CL
        have x0 := BX.get 0
        have x1 := BX.get 1
        have x2 := BX.get 2
        have y0 := BY.get 0
        have y1 := BY.get 1
        have y2 := BY.get 2
        simp only [List.getElem?_toArray, List.getElem?_cons_zero, List.getElem?_cons_succ] at x0 x1 x2 y0 y1 y2
        have CM := Lib.hid (same12_any w6 _ _ _ _ false false _ _ (k : Int) (k : Int) d d ⟨_, _, _, _, rfl, g1, g2, g3⟩ N5.nw true (Lib.hid (by simp)))
        clear g1 g2 g3 g4 N5 BX BY
        go_wp2_with fail
        refine CM.out.mono ?_
        rintro _ w7 ⟨rfl, u7⟩
        go_wp2_with fail
        go_ret
        exact ⟨rfl, U.trans u7⟩


set_option maxHeartbeats 8000000 in
set_option maxRecDepth 100000 in
theorem lwholes_true (w : World) (TW : TabW w) (EW : ErrB w) (F : Lay) (n : Nat) (hn : n < 18446744073709551616) :
    Calls Tryz.prog 8 #[.int .u64 (n : Int), .bool true] w (True12 w) := by
  have CS := Lib.hid (shown12_any F w TW EW)
  have C1 := Lib.hid (fun (W : World) => of_any W n hn)
  have C2 := Lib.hid (fun (W : World) (x : Nat) (hx : x < 18446744073709551616) => of_any W x hx)
  obtain ⟨ST, hST⟩ := tx_ex (Lib.decDigits n)
  have hSz : ST.size ≤ 20 := by rw [hST.size]; exact M.dec_20 n hn
  have HST := Lib.hid hST
  have HN := Lib.hid hn
  replace F := Lib.hid F
  replace TW := Lib.hid TW
  replace EW := Lib.hid EW
  have U := Up.refl w
  clear hST
  go_enter Tryz.func8, Tryz.ntmps8
  go_wp2_with fail
  refine CS.out.mono ?_
  rintro _ w1 ⟨rfl, u1⟩
  replace U := U.trans u1
  clear u1 CS
  go_wp2_with fail
  go_loopw [6, 7] (fun xv kv wr => ∃ d k : Nat, xv = .int .u64 (d : Int) ∧ kv = .int .i64 (k : Int) ∧ d ≤ n ∧ Hid (n = d * 10 ^ k) ∧ Hid (d = 0 → k = 0) ∧ Up w wr) (fun xv _ _ => (intOf xv).toNat)
  case atStart => exact ⟨n, 0, rfl, rfl, Nat.le_refl _, by show n = _; simp, by intro _; rfl, U⟩
  case round =>
    clear U
    obtain ⟨d, k, rfl, rfl, hd, HE, HZ, U⟩ := hrel
    have hdb : d < 18446744073709551616 := by omega
    have hkb : k ≤ 20 := by
      by_cases h : d = 0
      · rw [HZ.out h]; omega
      · exact M.tens_le HN.out HE.out h
    obtain ⟨r, hr⟩ : ∃ r, d % 10 = r := ⟨_, rfl⟩
    obtain ⟨q, hq⟩ : ∃ q, d / 10 = q := ⟨_, rfl⟩
    have q1 : ((d : Int)).tmod 10 = (r : Int) := by rw [Int.tmod_eq_emod_of_nonneg (by omega)]; omega
    have q2 : (d : Int) % 10 = (r : Int) := by omega
    have q3 : ((d : Int)).tdiv 10 = (q : Int) := by rw [Int.tdiv_eq_ediv_of_nonneg (by omega)]; omega
    have q4 : (d : Int) / 10 = (q : Int) := by omega
    have HR := Lib.hid hr
    have HQ := Lib.hid hq
    clear hr hq
    by_cases hgo : d ≠ 0 ∧ r = 0
    · have d1 : decide ((d : Int) > 0) = true := decide_eq_true (by omega)
      have d3 : decide (0 < d) = true := decide_eq_true (by omega)
      have d2 : ((r : Int) == 0) = true := by rw [beq_iff_eq]; omega
      have HE2 : Hid (n = q * 10 ^ (k + 1)) := by
        show n = _
        have h1 := HR.out
        have h2 := HQ.out
        have e : d = q * 10 := by omega
        rw [Nat.pow_succ, Nat.mul_comm (10 ^ k), ← Nat.mul_assoc, ← e]
        exact HE.out
      have HZ2 : Hid (q = 0 → k + 1 = 0) := by
        intro h
        have h1 := HR.out
        have h2 := HQ.out
        omega
      have hql : Hid (q < d) := by show q < d; have h2 := HQ.out; omega
      have hd0 := hgo.1
      clear hgo HE HZ
      go_wp2_with fail
      go_roundw
      case rel => exact ⟨q, k + 1, by first | rfl | go_num, by go_num, by have := hql.out; omega, HE2, HZ2, U⟩
      case measure => have := hql.out; simp [intOf]; omega
    · have HF := Lib.hid (M.whole HN.out HE.out (by
        by_cases h : d = 0
        · exact .inl ⟨h, HZ.out h⟩
        · exact .inr ⟨h, fun h2 => hgo ⟨h, HR.out.symm.trans h2⟩⟩) true)
      have C1n := C1
      have HB := Lib.hid (show d = 0 ∨ (d ≠ 0 ∧ r ≠ 0) by
        by_cases h : d = 0
        · exact .inl h
        · exact .inr ⟨h, fun h2 => hgo ⟨h, h2⟩⟩)
      clear hgo HE HZ HR HQ q3 q4 hd
      rcases HB.out with h0 | ⟨h0, h1⟩
      · have d1 : decide ((d : Int) > 0) = false := decide_eq_false (by omega)
        have d3 : decide (0 < d) = false := decide_eq_false (by omega)
        have HD := Lib.hid h0
        clear h0 HB
        go_wp2_with fail
        refine (C1.out _).mono ?_
        rintro _ w2 ⟨v2, rfl, N2, u2⟩
        have CT := Lib.hid (text_of w2 _ _ _ _ N2.nw (by omega) (TW.out.up (U.trans u2)) ST (Tx.uniq (Tx.lit _) HST.out))
        replace U := U.trans u2
        clear u2 N2 C1 C1n
        go_wp2_with fail
        refine CT.out.mono ?_
        rintro _ w3 ⟨rfl, u3⟩
        replace U := U.trans u3
        clear u3 CT
        obtain ⟨SB, hSB⟩ : ∃ SB : ByteArray, (⟨#[45]⟩ : ByteArray) ++ ST = SB := ⟨_, rfl⟩
        have HSB : Hid (Tx SB (M.sgt true ++ Lib.decDigits n)) := by rw [← hSB]; exact (Tx.lit [45]).cat HST.out
        go_wp2_with fail
        refine (C2.out _ d hdb).mono ?_
        rintro _ w4 ⟨v4, rfl, N4, u4⟩
        obtain ⟨A4, n4, c4, zs, rfl, g1, g2, g3, g4⟩ := N4
        replace U := U.trans u4
        clear u4 C2
        go_upto_region 11 with fail
        have BX := Ob.mk_ w4 25 #[.bool true, .slice A4 n4 c4, .int .i64 (k : Int)]
        obtain ⟨V4, hV4⟩ : ∃ V4, w4.alloc (.cells #[.bool true, .slice A4 n4 c4, .int .i64 (k : Int)] 25) = V4 := ⟨_, rfl⟩
        have uV : Up w4 V4 := by rw [← hV4]; exact (Up.refl _).alloc _
        rw [hV4] at BX ⊢
        clear hV4
        replace U := U.trans uV
        replace g1 := g1.up uV
        clear uV
        have CU := Lib.hid (F.out.unlay V4 SB _ (TW.out.up U) (EW.out.up U) HSB (by have h1 := HF.out.2; rw [← h1]; have := M.ly_len (ng := true) HF.out.1; omega))
        go_wp2_with fail
        refine CU.out.mono ?_
        rintro _ w5 ⟨ng5, A5, n5, c5, a5, k5, e5, rfl, R5, N5, u5⟩
        obtain ⟨e1, e2, e3, e4⟩ := R5.of HF.out.1 HF.out.2
        replace e1 := e1.symm
        replace e2 := e2.symm
        replace e3 := e3.symm
        replace e4 := e4.symm
        subst e1 e2 e3 e4
        replace U := U.trans u5
        replace g1 := g1.up u5
        replace BX := BX.up u5
        clear u5 R5 CU
        go_upto_region 12 with fail
        have BY := Ob.mk_ w5 25 #[.bool true, .slice A5 n5 c5, .int .i64 (k : Int)]
        obtain ⟨V5, hV5⟩ : ∃ V5, w5.alloc (.cells #[.bool true, .slice A5 n5 c5, .int .i64 (k : Int)] 25) = V5 := ⟨_, rfl⟩
        have uV : Up w5 V5 := by rw [← hV5]; exact (Up.refl _).alloc _
        rw [hV5] at BY ⊢
        clear hV5
        replace U := U.trans uV
        replace g1 := g1.up uV
        replace BX := BX.up uV
        replace N5 := N5.up uV
        clear uV
        have x0 := BX.get 0
        have x1 := BX.get 1
        have x2 := BX.get 2
        simp only [List.getElem?_toArray, List.getElem?_cons_zero, List.getElem?_cons_succ] at x0 x1 x2
        have CL := Lib.hid (F.out.text V5 (TW.out.up U) (EW.out.up U) true A4 n4 c4 zs (k : Int) (g1.dr (by omega)) (by omega) SB (by
          rw [M.lyr_nrm g4, g2, M.lyn, if_pos HF.out.1, HF.out.2]
          exact HSB.out))
        go_wp2_with fail
        refine CL.out.mono ?_
        rintro _ w6 ⟨rfl, u6⟩
        replace U := U.trans u6
        replace g1 := g1.up u6
        replace BX := BX.up u6
        replace BY := BY.up u6
        replace N5 := N5.up u6
        clear u6 x0 x1 x2 CL
        have x0 := BX.get 0
        have x1 := BX.get 1
        have x2 := BX.get 2
        have y0 := BY.get 0
        have y1 := BY.get 1
        have y2 := BY.get 2
        simp only [List.getElem?_toArray, List.getElem?_cons_zero, List.getElem?_cons_succ] at x0 x1 x2 y0 y1 y2
        have CM := Lib.hid (same12_any w6 _ _ _ _ true true _ _ (k : Int) (k : Int) d d ⟨_, _, _, _, rfl, g1, g2, g3⟩ N5.nw true (Lib.hid (by simp)))
        clear g1 g2 g3 g4 N5 BX BY
        go_wp2_with fail
        refine CM.out.mono ?_
        rintro _ w7 ⟨rfl, u7⟩
        go_wp2_with fail
        go_ret
        exact ⟨rfl, U.trans u7⟩
      · have d1 : decide ((d : Int) > 0) = true := decide_eq_true (by omega)
        have d3 : decide (0 < d) = true := decide_eq_true (by omega)
        have d2 : ((r : Int) == 0) = false := by rw [beq_eq_false_iff_ne]; omega
        clear h0 h1 HB
        go_wp2_with fail
        refine (C1.out _).mono ?_
        rintro _ w2 ⟨v2, rfl, N2, u2⟩
        have CT := Lib.hid (text_of w2 _ _ _ _ N2.nw (by omega) (TW.out.up (U.trans u2)) ST (Tx.uniq (Tx.lit _) HST.out))
        replace U := U.trans u2
        clear u2 N2 C1 C1n
        go_wp2_with fail
        refine CT.out.mono ?_
        rintro _ w3 ⟨rfl, u3⟩
        replace U := U.trans u3
        clear u3 CT
        obtain ⟨SB, hSB⟩ : ∃ SB : ByteArray, (⟨#[45]⟩ : ByteArray) ++ ST = SB := ⟨_, rfl⟩
        have HSB : Hid (Tx SB (M.sgt true ++ Lib.decDigits n)) := by rw [← hSB]; exact (Tx.lit [45]).cat HST.out
        go_wp2_with fail
        refine (C2.out _ d hdb).mono ?_
        rintro _ w4 ⟨v4, rfl, N4, u4⟩
        obtain ⟨A4, n4, c4, zs, rfl, g1, g2, g3, g4⟩ := N4
        replace U := U.trans u4
        clear u4 C2
        go_upto_region 11 with fail
        have BX := Ob.mk_ w4 25 #[.bool true, .slice A4 n4 c4, .int .i64 (k : Int)]
        obtain ⟨V4, hV4⟩ : ∃ V4, w4.alloc (.cells #[.bool true, .slice A4 n4 c4, .int .i64 (k : Int)] 25) = V4 := ⟨_, rfl⟩
        have uV : Up w4 V4 := by rw [← hV4]; exact (Up.refl _).alloc _
        rw [hV4] at BX ⊢
        clear hV4
        replace U := U.trans uV
        replace g1 := g1.up uV
        clear uV
        have CU := Lib.hid (F.out.unlay V4 SB _ (TW.out.up U) (EW.out.up U) HSB (by have h1 := HF.out.2; rw [← h1]; have := M.ly_len (ng := true) HF.out.1; omega))
        go_wp2_with fail
        refine CU.out.mono ?_
        rintro _ w5 ⟨ng5, A5, n5, c5, a5, k5, e5, rfl, R5, N5, u5⟩
        obtain ⟨e1, e2, e3, e4⟩ := R5.of HF.out.1 HF.out.2
        replace e1 := e1.symm
        replace e2 := e2.symm
        replace e3 := e3.symm
        replace e4 := e4.symm
        subst e1 e2 e3 e4
        replace U := U.trans u5
        replace g1 := g1.up u5
        replace BX := BX.up u5
        clear u5 R5 CU
        go_upto_region 12 with fail
        have BY := Ob.mk_ w5 25 #[.bool true, .slice A5 n5 c5, .int .i64 (k : Int)]
        obtain ⟨V5, hV5⟩ : ∃ V5, w5.alloc (.cells #[.bool true, .slice A5 n5 c5, .int .i64 (k : Int)] 25) = V5 := ⟨_, rfl⟩
        have uV : Up w5 V5 := by rw [← hV5]; exact (Up.refl _).alloc _
        rw [hV5] at BY ⊢
        clear hV5
        replace U := U.trans uV
        replace g1 := g1.up uV
        replace BX := BX.up uV
        replace N5 := N5.up uV
        clear uV
        have x0 := BX.get 0
        have x1 := BX.get 1
        have x2 := BX.get 2
        simp only [List.getElem?_toArray, List.getElem?_cons_zero, List.getElem?_cons_succ] at x0 x1 x2
        have CL := Lib.hid (F.out.text V5 (TW.out.up U) (EW.out.up U) true A4 n4 c4 zs (k : Int) (g1.dr (by omega)) (by omega) SB (by
          rw [M.lyr_nrm g4, g2, M.lyn, if_pos HF.out.1, HF.out.2]
          exact HSB.out))
        go_wp2_with fail
        refine CL.out.mono ?_
        rintro _ w6 ⟨rfl, u6⟩
        replace U := U.trans u6
        replace g1 := g1.up u6
        replace BX := BX.up u6
        replace BY := BY.up u6
        replace N5 := N5.up u6
        clear u6 x0 x1 x2 CL
        have x0 := BX.get 0
        have x1 := BX.get 1
        have x2 := BX.get 2
        have y0 := BY.get 0
        have y1 := BY.get 1
        have y2 := BY.get 2
        simp only [List.getElem?_toArray, List.getElem?_cons_zero, List.getElem?_cons_succ] at x0 x1 x2 y0 y1 y2
        have CM := Lib.hid (same12_any w6 _ _ _ _ true true _ _ (k : Int) (k : Int) d d ⟨_, _, _, _, rfl, g1, g2, g3⟩ N5.nw true (Lib.hid (by simp)))
        clear g1 g2 g3 g4 N5 BX BY
        go_wp2_with fail
        refine CM.out.mono ?_
        rintro _ w7 ⟨rfl, u7⟩
        go_wp2_with fail
        go_ret
        exact ⟨rfl, U.trans u7⟩


theorem lwholes_walk (w : World) (TW : TabW w) (EW : ErrB w) (F : Lay) (n : Nat) (hn : n < 18446744073709551616) (neg : Bool) :
    Calls Tryz.prog 8 #[.int .u64 (n : Int), .bool neg] w (True12 w) := by
  cases neg
  · exact lwholes_false w TW EW F n hn
  · exact lwholes_true w TW EW F n hn
end Go.Proofs.YtkhnobogaiaogaaGreatDoor
