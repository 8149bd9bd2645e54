/-
  The walk of ScanCase: true, and nothing that was there has turned.
-/
import Derived.Test.YtpmpdecaadfnmaaDoorSx6
import Derived.Deep.CutBlock
import Derived.Deep.DeepCutAuto
namespace Go.Proofs.YtpmpdecaadfnmaaDoor
open Go.RowKit Go.Shelf
set_option linter.unusedVariables false

set_option maxHeartbeats 16000000 in
set_option maxRecDepth 100000 in
theorem scase_walk (w : World) (hTW : TabW w) (hEW : ErrW w) (A0 : Option Addr) (n0 c0 : Nat) (l0 : List UInt8) (e0 : Sb w A0 n0 c0 l0) (A1 : Option Addr) (n1 c1 : Nat) (l1 : List UInt8) (e1 : Sb w A1 n1 c1 l1) (x2 : Int) (_wx2 : (Lit.int .i64 x2).wf = true) (x3 : Int) (_wx3 : (Lit.int .i64 x3).wf = true) :
    Calls Tryd.prog 9 #[.slice A0 n0 c0, .slice A1 n1 c1, .int .i64 x2, .int .i64 x3] w (True9 w) := by
  have TW := Lib.hid hTW
  have EW := Lib.hid hEW
  have CH := Lib.hid (shown9_any w TW EW)
  obtain ⟨m, q, f1, f2, f3', f4', f5⟩ := few_16 x2 2001 (by omega)
  have f3 : (m : Int).tmod 2001 = (q : Int) := f3'
  have f4 : (m : Int) % 2001 = (q : Int) := f4'
  obtain ⟨z, g1, g2⟩ := and_15 x3
  have H0 := Lib.hid e0
  have H1 := Lib.hid e1
  clear hTW hEW f3' f4' f2 _wx2 _wx3 e0 e1
  go_enter Tryd.func9, Tryd.ntmps9
  go_upto_region 2 with (go_at_call 10; refine CH.out.mono ?_; rintro _ w1 ⟨rfl, u1⟩)
  clear CH
  go_upto_block 0 with fail
  go_cut [10, 11] from 21 to 40 (fun sv iv wx => ∃ (S : ByteArray) (D : List UInt8), sv = .string S ∧ M.allD D = true ∧ D.length ≤ 60 ∧ Hid (S.data.toList = D) ∧ Up w wx)
  case first =>
    go_wp2_with fail
    go_loopw [10, 11] (fun sv iv wr => ∃ (j : Nat) (S : ByteArray), sv = .string S ∧ iv = .int .i64 (j : Int) ∧ j ≤ n0 ∧ j ≤ 60 ∧ Hid (S.data.toList = (l0.take j).map M.dg) ∧ Up w wr) (fun _ iv _ => 60 - (intOf iv).toNat)
    case atStart => exact ⟨0, _, rfl, rfl, by omega, by omega, rfl, u1⟩
    case round =>
      obtain ⟨j, S, rfl, rfl, hjn, hj60, HJ, uj⟩ := hrel
      have hSz : S.size ≤ 250 := by
        rw [size_of HJ]
        simp
        omega
      by_cases hlt : j < n0 ∧ j < 60
      · obtain ⟨ad, rfl⟩ := H0.out.ad (by omega)
        obtain ⟨x, hx⟩ : ∃ x, l0.getD j 0 = x := ⟨_, rfl⟩
        have cx := (H0.out.up uj).at_ ad rfl j (by omega)
        rw [hx] at cx
        obtain ⟨r, T, hr, p1, p2, HT, hTs, hcv⟩ := dig_ex x
        have hcv := hcv wr
        have d1 : decide ((j : Int) < (n0 : Int)) = true := decide_eq_true (by omega)
        have d2 : decide ((j : Int) < 60) = true := decide_eq_true (by omega)
        obtain ⟨R, hR, HR, hRz⟩ := cat_ex S T _ _ 260 HJ HT (by omega)
        have HJ2 : Hid (R.data.toList = (l0.take (j + 1)).map M.dg) := by
          show _ = _
          rw [HR.out, M.take_snoc (by rw [H0.out.num]; omega), hx, List.map_append]
          simp
        clear HJ HR HT hx
        go_wp2_with fail
        go_roundw
        case rel => exact ⟨j + 1, _, rfl, by go_num, by omega, by omega, HJ2, uj.alloc _⟩
        case measure => simp [intOf]; omega
      · have hend : (j < n0 ∧ ¬ j < 60) ∨ ¬ j < n0 := by omega

        rcases hend with ⟨h1, h2⟩ | h1
        · have d1 : decide ((j : Int) < (n0 : Int)) = true := decide_eq_true (by omega)
          have d2 : decide ((j : Int) < 60) = false := decide_eq_false (by omega)
          go_wp2_with fail
          go_meet
          exact ⟨S, _, rfl, M.dg_all _, by simp; omega, HJ, uj⟩
        · have d1 : decide ((j : Int) < (n0 : Int)) = false := decide_eq_false (by omega)
          go_wp2_with fail
          go_meet
          exact ⟨S, _, rfl, M.dg_all _, by simp; omega, HJ, uj⟩
  obtain ⟨S0, D0, rfl, hA0, hL0, HS0, U0⟩ := hcut
  have z0 : S0.size ≤ 130 := by
    rw [size_of HS0]
    first
      | omega
      | (simp; omega)
  obtain ⟨S2, hS2, HS2, z2⟩ := cat_ex S0 ⟨#[48, 46]⟩ _ _ 140 HS0 (show Hid (_ = [48, 46]) from rfl) (by have : (⟨#[48, 46]⟩ : ByteArray).size = 2 := rfl; omega)
  clear HS0
  go_upto_block 2 with fail
  go_cut [10, 12] from 43 to 62 (fun sv iv wx => ∃ (S : ByteArray) (D : List UInt8), sv = .string S ∧ M.allD D = true ∧ D.length ≤ 60 ∧ Hid (S.data.toList = (D0 ++ [48, 46]) ++ D) ∧ Up w wx)
  case first =>
    go_wp2_with fail
    go_loopw [10, 12] (fun sv iv wr => ∃ (j : Nat) (S : ByteArray), sv = .string S ∧ iv = .int .i64 (j : Int) ∧ j ≤ n1 ∧ j ≤ 60 ∧ Hid (S.data.toList = (D0 ++ [48, 46]) ++ (l1.take j).map M.dg) ∧ Up w wr) (fun _ iv _ => 60 - (intOf iv).toNat)
    case atStart => exact ⟨0, _, rfl, rfl, by omega, by omega, (show Hid (S2.data.toList = (D0 ++ [48, 46]) ++ ((l1.take 0).map M.dg)) by show _ = _; rw [HS2.out]; simp), U0⟩
    case round =>
      obtain ⟨j, S, rfl, rfl, hjn, hj60, HJ, uj⟩ := hrel
      have hSz : S.size ≤ 250 := by
        rw [size_of HJ]
        simp
        omega
      by_cases hlt : j < n1 ∧ j < 60
      · obtain ⟨ad, rfl⟩ := H1.out.ad (by omega)
        obtain ⟨x, hx⟩ : ∃ x, l1.getD j 0 = x := ⟨_, rfl⟩
        have cx := (H1.out.up uj).at_ ad rfl j (by omega)
        rw [hx] at cx
        obtain ⟨r, T, hr, p1, p2, HT, hTs, hcv⟩ := dig_ex x
        have hcv := hcv wr
        have d1 : decide ((j : Int) < (n1 : Int)) = true := decide_eq_true (by omega)
        have d2 : decide ((j : Int) < 60) = true := decide_eq_true (by omega)
        obtain ⟨R, hR, HR, hRz⟩ := cat_ex S T _ _ 260 HJ HT (by omega)
        have HJ2 : Hid (R.data.toList = (D0 ++ [48, 46]) ++ (l1.take (j + 1)).map M.dg) := by
          show _ = _
          rw [HR.out, M.take_snoc (by rw [H1.out.num]; omega), hx, List.map_append]
          simp
        clear HJ HR HT hx
        go_wp2_with fail
        go_roundw
        case rel => exact ⟨j + 1, _, rfl, by go_num, by omega, by omega, HJ2, uj.alloc _⟩
        case measure => simp [intOf]; omega
      · have hend : (j < n1 ∧ ¬ j < 60) ∨ ¬ j < n1 := by omega

        rcases hend with ⟨h1, h2⟩ | h1
        · have d1 : decide ((j : Int) < (n1 : Int)) = true := decide_eq_true (by omega)
          have d2 : decide ((j : Int) < 60) = false := decide_eq_false (by omega)
          go_wp2_with fail
          go_meet
          exact ⟨S, _, rfl, M.dg_all _, by simp; omega, HJ, uj⟩
        · have d1 : decide ((j : Int) < (n1 : Int)) = false := decide_eq_false (by omega)
          go_wp2_with fail
          go_meet
          exact ⟨S, _, rfl, M.dg_all _, by simp; omega, HJ, uj⟩
  obtain ⟨S1, D1, rfl, hA1, hL1, HS1, U1⟩ := hcut
  have z1 : S1.size ≤ 250 := by
    rw [size_of HS1]
    first
      | omega
      | (simp; omega)
  go_upto_region 15 with fail
  go_loop [13, 14] (fun sv iv => ∃ (j : Nat) (Z : ByteArray), sv = .string Z ∧ iv = .int .i64 (j : Int) ∧ j ≤ z ∧ Hid (Z.data.toList = List.replicate j 48)) (fun _ iv => z - (intOf iv).toNat)
  case atStart => exact ⟨0, _, rfl, rfl, by omega, rfl⟩
  case round =>
    obtain ⟨j, Z, rfl, rfl, hj, HZ⟩ := hrel
    have zZ : Z.size ≤ 20 := by
      rw [size_of HZ]
      simp
      omega
    by_cases hjn : j < z
    · have dj : decide ((j : Int) < (z : Int)) = true := decide_eq_true (by omega)
      have HJ2 : Hid ((Z ++ (⟨#[48]⟩ : ByteArray)).data.toList = List.replicate (j + 1) 48) := by
        show _ = _
        rw [ByteArray.data_append, Array.toList_append, HZ.out, List.replicate_succ']
      clear HZ
      go_wp2_with fail
      go_round
      case rel => exact ⟨j + 1, _, rfl, by go_num, by omega, HJ2⟩
      case measure => simp [intOf]; omega
    obtain rfl : j = z := by omega
    have dj : decide ((j : Int) < (j : Int)) = false := decide_eq_false (by omega)
    obtain ⟨N, hN⟩ : ∃ N : ByteArray, (⟨(M.nt (q : Int)).toArray⟩ : ByteArray) = N := ⟨_, rfl⟩
    have HN : Hid (N.data.toList = M.ddz (q : Int)) := by show _ = _; rw [← hN]; exact M.nt_nat q
    have zN : N.size ≤ 20 := by
      rw [size_of HN, ← M.nt_nat]
      exact M.nt_len _ (by omega)
    have CN := Lib.hid (fun V (u : Up w V) => numtext_any V (Lib.hid (TW.out.up u)) (q : Int) (by omega) N (Lib.hid hN))
    clear hN hj hjn
    have e1 : ∃ d1 k1 g1 c1, M.num ((D0 ++ [48]) ++ D1) ((q : Int) - D1.length) = ⟨d1, k1, g1, c1⟩ := ⟨_, _, _, _, rfl⟩
    obtain ⟨d1, k1, b1, t1, e1⟩ := e1
    have e2 : ∃ d1 k1 g1 c1, M.num ((D0 ++ [48]) ++ D1) (-(q : Int) - D1.length) = ⟨d1, k1, g1, c1⟩ := ⟨_, _, _, _, rfl⟩
    obtain ⟨d2, k2, b2, t2, e2⟩ := e2
    obtain ⟨Xa0, xa0, HXa0, zxa0⟩ := cat_ex S1 ⟨#[101]⟩ _ _ 330 HS1 (show Hid (_ = [101]) from rfl) (by have : (⟨#[101]⟩ : ByteArray).size = 1 := rfl; omega)
    obtain ⟨Xa1, xa1, HXa1, zxa1⟩ := cat_ex Xa0 N _ _ 360 HXa0 HN (by omega)
    clear HXa0
    have Ra : Hid (M.rs (Xa1.data.toList) = (⟨1, false, ⟨d1, k1, b1, t1⟩⟩, 0, 0)) := by
      show _ = _
      have := M.case_any D0 D1 hA0 hA1 0 q 101 (.inl rfl) [] (by simp) 0 0
      simp only [show ¬ (([] : List UInt8) = [45]) from by simp, if_false, e1] at this
      rw [← this, HXa1.out]
      simp
    obtain ⟨Xb0, xb0, HXb0, zxb0⟩ := cat_ex S1 ⟨#[69, 43]⟩ _ _ 330 HS1 (show Hid (_ = [69, 43]) from rfl) (by have : (⟨#[69, 43]⟩ : ByteArray).size = 2 := rfl; omega)
    obtain ⟨Xb1, xb1, HXb1, zxb1⟩ := cat_ex Xb0 Z _ _ 360 HXb0 HZ (by omega)
    clear HXb0
    obtain ⟨Xb2, xb2, HXb2, zxb2⟩ := cat_ex Xb1 N _ _ 390 HXb1 HN (by omega)
    clear HXb1
    have Rb : Hid (M.rs (Xb2.data.toList) = (⟨1, false, ⟨d1, k1, b1, t1⟩⟩, 0, 0)) := by
      show _ = _
      have := M.case_any D0 D1 hA0 hA1 j q 69 (.inr rfl) [43] (by simp) 0 0
      simp only [show ¬ (([43] : List UInt8) = [45]) from by simp, if_false, e1] at this
      rw [← this, HXb2.out]
      simp
    obtain ⟨Xc0, xc0, HXc0, zxc0⟩ := cat_ex ⟨#[48, 48]⟩ S1 _ _ 330 (show Hid (_ = [48, 48]) from rfl) HS1 (by have : (⟨#[48, 48]⟩ : ByteArray).size = 2 := rfl; omega)
    obtain ⟨Xc1, xc1, HXc1, zxc1⟩ := cat_ex Xc0 ⟨#[48, 48, 101]⟩ _ _ 360 HXc0 (show Hid (_ = [48, 48, 101]) from rfl) (by have : (⟨#[48, 48, 101]⟩ : ByteArray).size = 3 := rfl; omega)
    clear HXc0
    obtain ⟨Xc2, xc2, HXc2, zxc2⟩ := cat_ex Xc1 Z _ _ 390 HXc1 HZ (by omega)
    clear HXc1
    obtain ⟨Xc3, xc3, HXc3, zxc3⟩ := cat_ex Xc2 N _ _ 420 HXc2 HN (by omega)
    clear HXc2
    have Rc : Hid (M.rs (Xc3.data.toList) = (⟨1, false, ⟨d1, k1, b1, t1⟩⟩, 0, 0)) := by
      show _ = _
      have := M.case_any D0 D1 hA0 hA1 j q 101 (.inl rfl) [] (by simp) 2 2
      simp only [show ¬ (([] : List UInt8) = [45]) from by simp, if_false, e1] at this
      rw [← this, HXc3.out]
      simp [List.replicate_succ]
    obtain ⟨Xd0, xd0, HXd0, zxd0⟩ := cat_ex S1 ⟨#[101, 45]⟩ _ _ 330 HS1 (show Hid (_ = [101, 45]) from rfl) (by have : (⟨#[101, 45]⟩ : ByteArray).size = 2 := rfl; omega)
    obtain ⟨Xd1, xd1, HXd1, zxd1⟩ := cat_ex Xd0 Z _ _ 360 HXd0 HZ (by omega)
    clear HXd0
    obtain ⟨Xd2, xd2, HXd2, zxd2⟩ := cat_ex Xd1 N _ _ 390 HXd1 HN (by omega)
    clear HXd1
    have Rd : Hid (M.rs (Xd2.data.toList) = (⟨1, false, ⟨d2, k2, b2, t2⟩⟩, 0, 0)) := by
      show _ = _
      have := M.case_any D0 D1 hA0 hA1 j q 101 (.inl rfl) [45] (by simp) 0 0
      simp only [if_true, e2] at this
      rw [← this, HXd2.out]
      simp
    obtain ⟨Xf0, xf0, HXf0, zxf0⟩ := cat_ex S1 ⟨#[69, 45]⟩ _ _ 330 HS1 (show Hid (_ = [69, 45]) from rfl) (by have : (⟨#[69, 45]⟩ : ByteArray).size = 2 := rfl; omega)
    obtain ⟨Xf1, xf1, HXf1, zxf1⟩ := cat_ex Xf0 N _ _ 360 HXf0 HN (by omega)
    clear HXf0
    have Rf : Hid (M.rs (Xf1.data.toList) = (⟨1, false, ⟨d2, k2, b2, t2⟩⟩, 0, 0)) := by
      show _ = _
      have := M.case_any D0 D1 hA0 hA1 0 q 69 (.inr rfl) [45] (by simp) 0 0
      simp only [if_true, e2] at this
      rw [← this, HXf1.out]
      simp
    clear e1 e2 hA0 hA1 hL0 hL1 HXa1 HXb2 HXc3 HXd2 HXf1 HS1 HZ HN f5 g2
    have Ca := Lib.hid (fun V (u : Up w V) => of_val V (Lib.hid (EW.out.up u)) Xa1 _ (Lib.hid rfl) (by omega) _ 0 0 Ra 1 false d1 k1 b1 t1 rfl rfl rfl)
    clear Ra
    go_upto_region 19 with (first
      | (go_at_call 13; refine (CN.out _ U1).mono ?_; rintro _ Va ⟨rfl, ua⟩)
      | (go_at_call 12; refine (Ca.out _ (U1.trans ua)).mono ?_; rintro _ Ya ⟨Aa, na, ca, xsa, rfl, aa, ba, la, ma, va⟩)
      | (refine store_ob rfl 27 (.tmp 15) (.tmp 79) rfl _ #[.int .i64 0, .bool false, .slice none 0 0, .int .i64 0, .int .i64 0, .bool false] #[.int .i64 1, .bool false, .slice Aa na ca, .int .i64 k1, .int .i64 b1, .bool t1] rfl rfl 6 (by kernel_rfl) rfl rfl (by simp [Value.oneCell']) Ya ((Up.refl _).alloc _) (Nat.le_refl _) 27 (Ob.mk_ _ _ _) ?_; intro Wa Ia qa))
    have Na := (wd_nt aa ba la ma).up qa
    have UQa := (ua.trans va).trans qa
    have Ua : Up w Wa := U1.trans UQa
    clear aa ba la ma va qa ua UQa Ca
    have Cb := Lib.hid (fun V (u : Up w V) => of_val V (Lib.hid (EW.out.up u)) Xb2 _ (Lib.hid rfl) (by omega) _ 0 0 Rb 1 false d1 k1 b1 t1 rfl rfl rfl)
    clear Rb
    go_upto_region 20 with (first
      | (go_at_call 13; refine (CN.out _ Ua).mono ?_; rintro _ Vb ⟨rfl, ub⟩)
      | (go_at_call 12; refine (Cb.out _ (Ua.trans ub)).mono ?_; rintro _ Yb ⟨Ab, nb, cb, xsb, rfl, ab, bb, lb, mb, vb⟩)
      | (refine store_ob rfl 27 (.tmp 16) (.tmp 87) rfl _ #[.int .i64 0, .bool false, .slice none 0 0, .int .i64 0, .int .i64 0, .bool false] #[.int .i64 1, .bool false, .slice Ab nb cb, .int .i64 k1, .int .i64 b1, .bool t1] rfl rfl 6 (by kernel_rfl) rfl rfl (by simp [Value.oneCell']) Yb ((Up.refl _).alloc _) (Nat.le_refl _) 27 (Ob.mk_ _ _ _) ?_; intro Wb Ib qb))
    have Nb := (wd_nt ab bb lb mb).up qb
    have UQb := (ub.trans vb).trans qb
    have Ub : Up w Wb := Ua.trans UQb
    replace Ia := Ia.up UQb
    replace Na := Na.up UQb
    clear ab bb lb mb vb qb ub UQb Cb Ua
    have Cc := Lib.hid (fun V (u : Up w V) => of_val V (Lib.hid (EW.out.up u)) Xc3 _ (Lib.hid rfl) (by omega) _ 0 0 Rc 1 false d1 k1 b1 t1 rfl rfl rfl)
    clear Rc
    go_upto_region 21 with (first
      | (go_at_call 13; refine (CN.out _ Ub).mono ?_; rintro _ Vc ⟨rfl, uc⟩)
      | (go_at_call 12; refine (Cc.out _ (Ub.trans uc)).mono ?_; rintro _ Yc ⟨Ac, nc, cc, xsc, rfl, ac, bc, lc, mc, vc⟩)
      | (refine store_ob rfl 27 (.tmp 17) (.tmp 96) rfl _ #[.int .i64 0, .bool false, .slice none 0 0, .int .i64 0, .int .i64 0, .bool false] #[.int .i64 1, .bool false, .slice Ac nc cc, .int .i64 k1, .int .i64 b1, .bool t1] rfl rfl 6 (by kernel_rfl) rfl rfl (by simp [Value.oneCell']) Yc ((Up.refl _).alloc _) (Nat.le_refl _) 27 (Ob.mk_ _ _ _) ?_; intro Wc Ic qc))
    have Nc := (wd_nt ac bc lc mc).up qc
    have UQc := (uc.trans vc).trans qc
    have Uc : Up w Wc := Ub.trans UQc
    replace Ia := Ia.up UQc
    replace Na := Na.up UQc
    replace Ib := Ib.up UQc
    replace Nb := Nb.up UQc
    clear ac bc lc mc vc qc uc UQc Cc Ub
    have Cd := Lib.hid (fun V (u : Up w V) => of_val V (Lib.hid (EW.out.up u)) Xd2 _ (Lib.hid rfl) (by omega) _ 0 0 Rd 1 false d2 k2 b2 t2 rfl rfl rfl)
    clear Rd
    go_upto_region 22 with (first
      | (go_at_call 13; refine (CN.out _ Uc).mono ?_; rintro _ Vd ⟨rfl, ud⟩)
      | (go_at_call 12; refine (Cd.out _ (Uc.trans ud)).mono ?_; rintro _ Yd ⟨Ad, nd, cd, xsd, rfl, ad, bd, ld, md, vd⟩)
      | (refine store_ob rfl 27 (.tmp 18) (.tmp 104) rfl _ #[.int .i64 0, .bool false, .slice none 0 0, .int .i64 0, .int .i64 0, .bool false] #[.int .i64 1, .bool false, .slice Ad nd cd, .int .i64 k2, .int .i64 b2, .bool t2] rfl rfl 6 (by kernel_rfl) rfl rfl (by simp [Value.oneCell']) Yd ((Up.refl _).alloc _) (Nat.le_refl _) 27 (Ob.mk_ _ _ _) ?_; intro Wd Id qd))
    have Nd := (wd_nt ad bd ld md).up qd
    have UQd := (ud.trans vd).trans qd
    have Ud : Up w Wd := Uc.trans UQd
    replace Ia := Ia.up UQd
    replace Na := Na.up UQd
    replace Ib := Ib.up UQd
    replace Nb := Nb.up UQd
    replace Ic := Ic.up UQd
    replace Nc := Nc.up UQd
    clear ad bd ld md vd qd ud UQd Cd Uc
    have Cf := Lib.hid (fun V (u : Up w V) => of_val V (Lib.hid (EW.out.up u)) Xf1 _ (Lib.hid rfl) (by omega) _ 0 0 Rf 1 false d2 k2 b2 t2 rfl rfl rfl)
    clear Rf
    go_upto_region 23 with (first
      | (go_at_call 13; refine (CN.out _ Ud).mono ?_; rintro _ Vf ⟨rfl, uf⟩)
      | (go_at_call 12; refine (Cf.out _ (Ud.trans uf)).mono ?_; rintro _ Yf ⟨Af, nf, cf, xsf, rfl, af, bf, lf, mf, vf⟩)
      | (refine store_ob rfl 27 (.tmp 19) (.tmp 110) rfl _ #[.int .i64 0, .bool false, .slice none 0 0, .int .i64 0, .int .i64 0, .bool false] #[.int .i64 1, .bool false, .slice Af nf cf, .int .i64 k2, .int .i64 b2, .bool t2] rfl rfl 6 (by kernel_rfl) rfl rfl (by simp [Value.oneCell']) Yf ((Up.refl _).alloc _) (Nat.le_refl _) 27 (Ob.mk_ _ _ _) ?_; intro Wf If qf))
    have Nf := (wd_nt af bf lf mf).up qf
    have UQf := (uf.trans vf).trans qf
    have Uf : Up w Wf := Ud.trans UQf
    replace Ia := Ia.up UQf
    replace Na := Na.up UQf
    replace Ib := Ib.up UQf
    replace Nb := Nb.up UQf
    replace Ic := Ic.up UQf
    replace Nc := Nc.up UQf
    replace Id := Id.up UQf
    replace Nd := Nd.up UQf
    clear af bf lf mf vf qf uf UQf Cf Ud
    obtain ⟨ia0, ia1, ia2, ia3, ia4, ia5⟩ := Ia.six
    obtain ⟨ib0, ib1, ib2, ib3, ib4, ib5⟩ := Ib.six
    have S1c := Lib.hid (same_true Wf 1 false _ _ k1 b1 t1 _ _ _ _ d1 Na.nw Nb.nw)
    go_wp2_with fail
    refine S1c.out.mono ?_
    rintro _ Q1 ⟨rfl, v1⟩
    clear ia0 ia1 ia2 ia3 ia4 ia5 ib0 ib1 ib2 ib3 ib4 ib5 S1c
    obtain ⟨ia0, ia1, ia2, ia3, ia4, ia5⟩ := (Ia.up v1).six
    obtain ⟨ic0, ic1, ic2, ic3, ic4, ic5⟩ := (Ic.up v1).six
    have S2c := Lib.hid (same_true Q1 1 false _ _ k1 b1 t1 _ _ _ _ d1 (Na.up v1).nw (Nc.up v1).nw)
    go_wp2_with fail
    refine S2c.out.mono ?_
    rintro _ Q2 ⟨rfl, v2⟩
    clear ia0 ia1 ia2 ia3 ia4 ia5 ic0 ic1 ic2 ic3 ic4 ic5 S2c
    obtain ⟨id0, id1, id2, id3, id4, id5⟩ := ((Id.up v1).up v2).six
    obtain ⟨if_0, if_1, if_2, if_3, if_4, if_5⟩ := ((If.up v1).up v2).six
    have S3c := Lib.hid (same_true Q2 1 false _ _ k2 b2 t2 _ _ _ _ d2 ((Nd.up v1).up v2).nw ((Nf.up v1).up v2).nw)
    go_wp2_with fail
    refine S3c.out.mono ?_
    rintro _ Q3 ⟨rfl, v3⟩
    go_wp2_with fail
    go_ret
    exact ⟨rfl, ((Uf.trans v1).trans v2).trans v3⟩
end Go.Proofs.YtpmpdecaadfnmaaDoor
