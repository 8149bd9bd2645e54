/-
  The walk of ScanSame: true, and nothing that was there has turned.
-/
import Derived.Test.YtpmpdecaadfnmaaDoorSx6
import Derived.Deep.CutBlock
import Derived.Deep.DeepCutAuto
namespace Go.Proofs.YtpmpdecaadfnmaaDoor
open Go.RowKit Go.Shelf
set_option linter.unusedVariables false

abbrev itc (A : Option Addr) (n c : Nat) (z : Int) : Array Value := #[.int .i64 1, .bool false, .slice A n c, .int .i64 z, .int .i64 0, .bool false]
theorem zeros_cut (Z : ByteArray) (m j : Nat) (h : Hid (Z.data.toList = List.replicate m 48)) (hj : j ≤ m) :
    ∃ Y : ByteArray, Hid (Y.data.toList = List.replicate j 48) ∧ Y.size ≤ j ∧ ∀ W, (Instr.slice 9 (.string Z) none (some (.int .i64 (j : Int))) none).run Tryd.prog W = .ok (.string Y) W := by
  have hz : Z.size = m := by rw [size_of h]; simp
  have e : (Z.extract 0 j).data.toList = List.replicate j 48 := by
    have : (Z.extract 0 j).data.toList = Z.data.toList.take j := by simp
    rw [this, h.out, List.take_replicate, Nat.min_eq_left hj]
  refine ⟨Z.extract 0 j, e, by rw [size_of e]; simp, fun W => ?_⟩
  rw [run_slice_string_h W 9 Z Tryd.underlying9 .i64 (j : Int) (by omega) (by omega)]
  rfl
theorem wrap_rem301 (x : Int) (h : (Lit.int .i64 x).wf = true) : ∃ z : Int, x.tmod 301 = z ∧ -301 < z ∧ z < 301 ∧ IntKind.i64.wrap z = z := by
  have h1 : x.tmod 301 < 301 := Int.tmod_lt_of_pos x (by omega)
  have h2 : -301 < x.tmod 301 := by
    have := Int.tmod_lt_of_pos (-x) (b := 301) (by omega)
    rw [Int.neg_tmod] at this
    omega
  exact ⟨_, rfl, h2, h1, IntWalk.i64_in _ (by omega)⟩

set_option maxHeartbeats 16000000 in
set_option maxRecDepth 100000 in
theorem ssame_walk (w : World) (hTW : TabW w) (hEW : ErrW w) (A0 : Option Addr) (n0 c0 : Nat) (l0 : List UInt8) (e0 : Sb w A0 n0 c0 l0) (x1 : Int) (wx1 : (Lit.int .i64 x1).wf = true) (x2 : Int) (_wx2 : (Lit.int .i64 x2).wf = true) (x3 : Int) (_wx3 : (Lit.int .i64 x3).wf = true) :
    Calls Tryd.prog 4 #[.slice A0 n0 c0, .int .i64 x1, .int .i64 x2, .int .i64 x3] w (True9 w) := by
  have TW := Lib.hid hTW
  have EW := Lib.hid hEW
  have CH := Lib.hid (shown9_any w TW EW)
  obtain ⟨m', m, f1, f2, f3', f4', f5⟩ := few_16 x2 41 (by omega)
  have f3 : (m' : Int).tmod 41 = (m : Int) := f3'
  have f4 : (m' : Int) % 41 = (m : Int) := f4'
  obtain ⟨h, g1, g2⟩ := and_15 x3
  obtain ⟨z, hz1, hz2, hz3, hz4⟩ := wrap_rem301 x1 wx1
  have H0 := Lib.hid e0
  clear hTW hEW f3' f4' f2 wx1 _wx2 _wx3 e0
  go_enter Tryd.func4, Tryd.ntmps4
  go_upto_region 2 with (go_at_call 10; refine CH.out.mono ?_; rintro _ w1 ⟨rfl, u1⟩)
  clear CH
  go_upto_region 4 with fail
  clear hz1 hz4
  go_upto_block 0 with fail
  go_cut [10, 11] from 23 to 42 (fun sv iv wx => ∃ (S : ByteArray) (D : List UInt8), sv = .string S ∧ M.allD D = true ∧ D.length ≤ 100 ∧ Hid (S.data.toList = D) ∧ Up w wx)
  case first =>
    go_wp2_with fail
    go_loopw [10, 11] (fun sv iv wr => ∃ (j : Nat) (S : ByteArray), sv = .string S ∧ iv = .int .i64 (j : Int) ∧ j ≤ n0 ∧ j ≤ 100 ∧ Hid (S.data.toList = (l0.take j).map M.dg) ∧ Up w wr) (fun _ iv _ => 100 - (intOf iv).toNat)
    case atStart => exact ⟨0, _, rfl, rfl, by omega, by omega, rfl, u1⟩
    case round =>
      obtain ⟨j, S, rfl, rfl, hjn, hj60, HJ, uj⟩ := hrel
      have hSz : S.size ≤ 250 := by
        rw [size_of HJ]
        simp
        omega
      by_cases hlt : j < n0 ∧ j < 100
      · obtain ⟨ad, rfl⟩ := H0.out.ad (by omega)
        obtain ⟨x, hx⟩ : ∃ x, l0.getD j 0 = x := ⟨_, rfl⟩
        have cx := (H0.out.up uj).at_ ad rfl j (by omega)
        rw [hx] at cx
        obtain ⟨r, T, hr, p1, p2, HT, hTs, hcv⟩ := dig_ex x
        have hcv := hcv wr
        have d1 : decide ((j : Int) < (n0 : Int)) = true := decide_eq_true (by omega)
        have d2 : decide ((j : Int) < 100) = true := decide_eq_true (by omega)
        obtain ⟨R, hR, HR, hRz⟩ := cat_ex S T _ _ 260 HJ HT (by omega)
        have HJ2 : Hid (R.data.toList = (l0.take (j + 1)).map M.dg) := by
          show _ = _
          rw [HR.out, M.take_snoc (by rw [H0.out.num]; omega), hx, List.map_append]
          simp
        clear HJ HR HT hx
        go_wp2_with fail
        go_roundw
        case rel => exact ⟨j + 1, _, rfl, by go_num, by omega, by omega, HJ2, uj.alloc _⟩
        case measure => simp [intOf]; omega
      · have hend : (j < n0 ∧ ¬ j < 100) ∨ ¬ j < n0 := by omega
        rcases hend with ⟨h1, h2⟩ | h1
        · have d1 : decide ((j : Int) < (n0 : Int)) = true := decide_eq_true (by omega)
          have d2 : decide ((j : Int) < 100) = false := decide_eq_false (by omega)
          go_wp2_with fail
          go_meet
          exact ⟨S, _, rfl, M.dg_all _, by simp; omega, HJ, uj⟩
        · have d1 : decide ((j : Int) < (n0 : Int)) = false := decide_eq_false (by omega)
          go_wp2_with fail
          go_meet
          exact ⟨S, _, rfl, M.dg_all _, by simp; omega, HJ, uj⟩
  obtain ⟨S0, D0, rfl, hA0, hL0, HS0, U1⟩ := hcut
  have z0 : S0.size ≤ 130 := by
    rw [size_of HS0]
    omega
  obtain ⟨S1, hS1, HS1, z1⟩ := cat_ex S0 ⟨#[55]⟩ _ _ 140 HS0 (show Hid (_ = [55]) from rfl) (by have : (⟨#[55]⟩ : ByteArray).size = 1 := rfl; omega)
  clear HS0
  go_upto_region 13 with fail
  go_loop [12, 13] (fun sv iv => ∃ (j : Nat) (Z : ByteArray), sv = .string Z ∧ iv = .int .i64 (j : Int) ∧ j ≤ m ∧ Hid (Z.data.toList = List.replicate j 48)) (fun _ iv => m - (intOf iv).toNat)
  case atStart => exact ⟨0, _, rfl, rfl, by omega, rfl⟩
  case round =>
    obtain ⟨j, Z, rfl, rfl, hj, HZ⟩ := hrel
    have zZ : Z.size ≤ 50 := by
      rw [size_of HZ]
      simp
      omega
    by_cases hjn : j < m
    · have dj : decide ((j : Int) < (m : Int)) = true := decide_eq_true (by omega)
      have HJ2 : Hid ((Z ++ (⟨#[48]⟩ : ByteArray)).data.toList = List.replicate (j + 1) 48) := by
        show _ = _
        rw [ByteArray.data_append, Array.toList_append, HZ.out, List.replicate_succ']
      clear HZ
      go_wp2_with fail
      go_round
      case rel => exact ⟨j + 1, _, rfl, by go_num, by omega, HJ2⟩
      case measure => simp [intOf]; omega
    obtain rfl : j = m := by omega
    have dj : decide ((j : Int) < (j : Int)) = false := decide_eq_false (by omega)
    have CN := Lib.hid (fun V (u : Up w V) (y : Int) (hy : -10000000 ≤ y ∧ y ≤ 10000000) (N : ByteArray) (hN : Hid ((⟨(M.nt y).toArray⟩ : ByteArray) = N)) => numtext_any V (Lib.hid (TW.out.up u)) y hy N hN)
    have hh : min (h : Int) (j : Int) = ((min h j : Nat) : Int) := by omega
    obtain ⟨p, hp⟩ : ∃ p, min h j = p := ⟨_, rfl⟩
    rw [hp] at hh
    obtain ⟨Y, HY, zY, hsl⟩ := zeros_cut Z j p HZ (by omega)
    have hpj : p ≤ 15 := by omega
    have zY2 : Y.size ≤ 15 := by omega
    have HA : Hid (M.allD (D0 ++ [55]) = true) := by
      show _ = true
      rw [M.allD_append, hA0]
      rfl
    have HNE : Hid (D0 ++ [55] ≠ []) := by show _ ≠ _; simp
    have HSZ : Hid ((D0 ++ [55]).length = S1.size) := by show _ = _; rw [size_of HS1]
    obtain ⟨d1, hd1⟩ : ∃ d1, M.vsa 0 (M.lz (D0 ++ [55])) = d1 := ⟨_, rfl⟩
    have HNUM : Hid (M.num (D0 ++ [55]) z = ⟨d1, z, 0, false⟩) := by show _ = _; rw [← hd1]; exact M.same_num D0 hA0 hL0 z ⟨hz2, hz3⟩
    clear hd1 hjn hp zY
    obtain ⟨Na, hNa⟩ : ∃ N : ByteArray, (⟨(M.nt z).toArray⟩ : ByteArray) = N := ⟨_, rfl⟩
    have HNa : Hid (Na.data.toList = M.nt z) := by show _ = _; rw [← hNa]
    have zNa : Na.size ≤ 20 := by
      rw [size_of HNa]
      exact M.nt_len _ (by omega)
    have hNNa := Lib.hid hNa
    clear hNa
    obtain ⟨Xa0, xa0, HXa0, zxa0⟩ := cat_ex S1 ⟨#[101]⟩ _ _ 300 HS1 (show Hid (_ = [101]) from rfl) (by have : (⟨#[101]⟩ : ByteArray).size = 1 := rfl; omega)
    obtain ⟨Xa1, xa1, HXa1, zxa1⟩ := cat_ex Xa0 Na _ _ 450 HXa0 HNa (by omega)
    clear HXa0
    have Ra : Hid (M.rs (Xa1.data.toList) = (⟨1, false, ⟨d1, z, 0, false⟩⟩, 0, 0)) := by
      show _ = _
      have := M.same_a (D0 ++ [55]) HA.out HNE.out z
      rw [HNUM.out] at this
      rw [← this, HXa1.out, M.nt_eq]
      simp
    obtain ⟨Nb, hNb⟩ : ∃ N : ByteArray, (⟨(M.nt (z - (j : Int))).toArray⟩ : ByteArray) = N := ⟨_, rfl⟩
    have HNb : Hid (Nb.data.toList = M.nt (z - (j : Int))) := by show _ = _; rw [← hNb]
    have zNb : Nb.size ≤ 20 := by
      rw [size_of HNb]
      exact M.nt_len _ (by omega)
    have hNNb := Lib.hid hNb
    clear hNb
    obtain ⟨Xb0, xb0, HXb0, zxb0⟩ := cat_ex Y S1 _ _ 300 HY HS1 (by omega)
    obtain ⟨Xb1, xb1, HXb1, zxb1⟩ := cat_ex Xb0 Z _ _ 450 HXb0 HZ (by omega)
    clear HXb0
    obtain ⟨Xb2, xb2, HXb2, zxb2⟩ := cat_ex Xb1 ⟨#[46]⟩ _ _ 600 HXb1 (show Hid (_ = [46]) from rfl) (by have : (⟨#[46]⟩ : ByteArray).size = 1 := rfl; omega)
    clear HXb1
    obtain ⟨Xb3, xb3, HXb3, zxb3⟩ := cat_ex Xb2 ⟨#[101]⟩ _ _ 750 HXb2 (show Hid (_ = [101]) from rfl) (by have : (⟨#[101]⟩ : ByteArray).size = 1 := rfl; omega)
    clear HXb2
    obtain ⟨Xb4, xb4, HXb4, zxb4⟩ := cat_ex Xb3 Nb _ _ 900 HXb3 HNb (by omega)
    clear HXb3
    have Rb : Hid (M.rs (Xb4.data.toList) = (⟨1, false, ⟨d1, z, 0, false⟩⟩, 0, 0)) := by
      show _ = _
      have := M.same_b (D0 ++ [55]) HA.out HNE.out z p j
      rw [HNUM.out] at this
      rw [← this, HXb4.out, M.nt_eq]
      simp
    obtain ⟨Nc, hNc⟩ : ∃ N : ByteArray, (⟨(M.nt (z + (j : Int) + (S1.size : Int))).toArray⟩ : ByteArray) = N := ⟨_, rfl⟩
    have HNc : Hid (Nc.data.toList = M.nt (z + (j : Int) + (S1.size : Int))) := by show _ = _; rw [← hNc]
    have zNc : Nc.size ≤ 20 := by
      rw [size_of HNc]
      exact M.nt_len _ (by omega)
    have hNNc := Lib.hid hNc
    clear hNc
    obtain ⟨Xc0, xc0, HXc0, zxc0⟩ := cat_ex ⟨#[48, 46]⟩ Z _ _ 300 (show Hid (_ = [48, 46]) from rfl) HZ (by have : (⟨#[48, 46]⟩ : ByteArray).size = 2 := rfl; omega)
    obtain ⟨Xc1, xc1, HXc1, zxc1⟩ := cat_ex Xc0 S1 _ _ 450 HXc0 HS1 (by omega)
    clear HXc0
    obtain ⟨Xc2, xc2, HXc2, zxc2⟩ := cat_ex Xc1 ⟨#[69]⟩ _ _ 600 HXc1 (show Hid (_ = [69]) from rfl) (by have : (⟨#[69]⟩ : ByteArray).size = 1 := rfl; omega)
    clear HXc1
    obtain ⟨Xc3, xc3, HXc3, zxc3⟩ := cat_ex Xc2 Nc _ _ 750 HXc2 HNc (by omega)
    clear HXc2
    have Rc : Hid (M.rs (Xc3.data.toList) = (⟨1, false, ⟨d1, z, 0, false⟩⟩, 0, 0)) := by
      show _ = _
      have := M.same_c (D0 ++ [55]) HA.out z j
      rw [HNUM.out, HSZ.out] at this
      rw [← this, HXc3.out, M.nt_eq]
      simp
    obtain ⟨Nd, hNd⟩ : ∃ N : ByteArray, (⟨(M.nt (z + (S1.size : Int))).toArray⟩ : ByteArray) = N := ⟨_, rfl⟩
    have HNd : Hid (Nd.data.toList = M.nt (z + (S1.size : Int))) := by show _ = _; rw [← hNd]
    have zNd : Nd.size ≤ 20 := by
      rw [size_of HNd]
      exact M.nt_len _ (by omega)
    have hNNd := Lib.hid hNd
    clear hNd
    obtain ⟨Xd0, xd0, HXd0, zxd0⟩ := cat_ex ⟨#[46]⟩ S1 _ _ 300 (show Hid (_ = [46]) from rfl) HS1 (by have : (⟨#[46]⟩ : ByteArray).size = 1 := rfl; omega)
    obtain ⟨Xd1, xd1, HXd1, zxd1⟩ := cat_ex Xd0 Z _ _ 450 HXd0 HZ (by omega)
    clear HXd0
    obtain ⟨Xd2, xd2, HXd2, zxd2⟩ := cat_ex Xd1 ⟨#[101]⟩ _ _ 600 HXd1 (show Hid (_ = [101]) from rfl) (by have : (⟨#[101]⟩ : ByteArray).size = 1 := rfl; omega)
    clear HXd1
    obtain ⟨Xd3, xd3, HXd3, zxd3⟩ := cat_ex Xd2 Nd _ _ 750 HXd2 HNd (by omega)
    clear HXd2
    have Rd : Hid (M.rs (Xd3.data.toList) = (⟨1, false, ⟨d1, z, 0, false⟩⟩, 0, 0)) := by
      show _ = _
      have := M.same_d (D0 ++ [55]) HA.out HNE.out z j
      rw [HNUM.out, HSZ.out] at this
      rw [← this, HXd3.out, M.nt_eq]
      simp
    clear HNUM HA HNE HSZ hA0 hL0 HZ HY HS1 f5 g2 HXa1 HNa HXb4 HNb HXc3 HNc HXd3 HNd
    have Ca := Lib.hid (fun V (u : Up w V) => of_val V (Lib.hid (EW.out.up u)) Xa1 _ (Lib.hid rfl) (by omega) _ 0 0 Ra 1 false d1 z 0 false rfl rfl rfl)
    clear Ra
    go_upto_region 17 with (first
      | (go_at_call 13; refine (CN.out _ U1 z (by omega) Na hNNa).mono ?_; rintro _ Va ⟨rfl, ua⟩)
      | (go_at_call 12; refine (Ca.out _ (U1.trans ua)).mono ?_; rintro _ Ya ⟨Aa, na, ca, xsa, rfl, aa, ba, la, ma, va⟩)
      | (refine store_ob rfl 27 (.tmp 14) (.tmp 60) rfl _ #[.int .i64 0, .bool false, .slice none 0 0, .int .i64 0, .int .i64 0, .bool false] #[.int .i64 1, .bool false, .slice Aa na ca, .int .i64 z, .int .i64 0, .bool false] rfl rfl 6 (by kernel_rfl) rfl rfl (by simp [Value.oneCell']) Ya ((Up.refl _).alloc _) (Nat.le_refl _) 27 (Ob.mk_ _ _ _) ?_; intro Wa Ia qa))
    have Ja := (wd_nt aa ba la ma).up qa
    have UQa := (ua.trans va).trans qa
    have Ua : Up w Wa := U1.trans UQa
    clear aa ba la ma va qa ua UQa Ca
    have Cb := Lib.hid (fun V (u : Up w V) => of_val V (Lib.hid (EW.out.up u)) Xb4 _ (Lib.hid rfl) (by omega) _ 0 0 Rb 1 false d1 z 0 false rfl rfl rfl)
    clear Rb
    go_upto_region 17 with fail
    simp only [Act.put]
    go_cut [15] from 61 to 77 (fun pv wx => ∃ (g : Nat) (A : Option Addr) (n c lo : Nat), pv = .pointer (some ⟨g, 0, none⟩) ∧ Ob wx g 27 (itc A n c z) ∧ Nt wx lo 2001 (.slice A n c) d1 ∧ Up Wa wx)
    case first =>
      have k1 : ¬ (Y.size + S1.size > 9223372036854775807) := by omega
      have k2 : ¬ (Xb0.size + Z.size > 9223372036854775807) := by omega
      have k5 : ¬ (9223372036854775807 < Y.size + S1.size) := by omega
      have k6 : ¬ (9223372036854775807 < Xb0.size + Z.size) := by omega
      have k7 : ¬ (9223372036854775807 < Xb1.size + 1) := by omega
      have k8 : ¬ (9223372036854775807 < Xb2.size + 1) := by omega
      have k9 : ¬ (9223372036854775807 < Xb3.size + Nb.size) := by omega
      have kw : IntKind.i64.wrap (z - (j : Int)) = z - (j : Int) := IntWalk.i64_in _ (by omega)
      have uD : Up Wa Wa.drew := (Up.refl _).drew
      refine wp_region_held_drew (S := fun _ => True) (by kernel_rfl) trivial (fun hHeld => ?_)
      refine wpAnyH_take (i := 0) (v := ?_) rfl (by kernel_rfl) (by kernel_rfl) (by kernel_rfl) (fun _ _ _ h => h) (Or.inl ⟨by rfl, ?_⟩) (by assumption) ?_
      rotate_left
      · intro wq _
        go_simp
        all_goals with_reducible rfl
      try simp only [Act.put, List.setIfInBounds_toArray, List.set_cons_zero, List.set_cons_succ, List.getElem_toArray, List.getElem_cons_zero]
      refine wpAnyH_take (i := 1) (v := ?_) rfl (by kernel_rfl) (by kernel_rfl) (by kernel_rfl) (fun _ _ _ h => h) (Or.inl ⟨by rfl, ?_⟩) (by assumption) ?_
      rotate_left
      · intro wq _
        go_simp
        all_goals with_reducible rfl
      try simp only [Act.put, List.setIfInBounds_toArray, List.set_cons_zero, List.set_cons_succ, List.getElem_toArray, List.getElem_cons_zero, List.getElem_cons_succ]
      refine wpAnyH_take (i := 2) (v := ?_) rfl (by kernel_rfl) (by kernel_rfl) (by kernel_rfl) (fun _ _ _ h => h) (Or.inl ⟨by rfl, ?_⟩) (by assumption) ?_
      rotate_left
      · intro wq _
        go_simp
        all_goals with_reducible rfl
      try simp only [Act.put, List.setIfInBounds_toArray, List.set_cons_zero, List.set_cons_succ, List.getElem_toArray, List.getElem_cons_zero, List.getElem_cons_succ]
      refine wpAnyH_take (i := 3) (v := ?_) rfl (by kernel_rfl) (by kernel_rfl) (by kernel_rfl) (fun _ _ _ h => h) (Or.inl ⟨by rfl, ?_⟩) (by assumption) ?_
      rotate_left
      · intro wq _
        go_simp
        all_goals with_reducible rfl
      try simp only [Act.put, List.setIfInBounds_toArray, List.set_cons_zero, List.set_cons_succ, List.getElem_toArray, List.getElem_cons_zero, List.getElem_cons_succ]
      refine wpAnyH_take (i := 4) (v := ?_) rfl (by kernel_rfl) (by kernel_rfl) (by kernel_rfl) (fun _ _ _ h => h) (Or.inl ⟨by rfl, ?_⟩) (by assumption) ?_
      rotate_left
      · intro wq _
        go_simp
        all_goals with_reducible rfl
      try simp only [Act.put, List.setIfInBounds_toArray, List.set_cons_zero, List.set_cons_succ, List.getElem_toArray, List.getElem_cons_zero, List.getElem_cons_succ]
      refine wpAnyH_take (i := 5) (v := ?_) rfl (by kernel_rfl) (by kernel_rfl) (by kernel_rfl) (fun _ _ _ h => h) (Or.inl ⟨by rfl, ?_⟩) (by assumption) ?_
      rotate_left
      · intro wq _
        go_simp
        all_goals with_reducible rfl
      try simp only [Act.put, List.setIfInBounds_toArray, List.set_cons_zero, List.set_cons_succ, List.getElem_toArray, List.getElem_cons_zero, List.getElem_cons_succ]
      refine wpAnyH_take (i := 6) (v := ?_) rfl (by kernel_rfl) (by kernel_rfl) (by kernel_rfl) (fun _ _ _ h => h) (Or.inl ⟨by rfl, ?_⟩) (by assumption) ?_
      rotate_left
      · intro wq _
        go_simp
        all_goals with_reducible rfl
      try simp only [Act.put, List.setIfInBounds_toArray, List.set_cons_zero, List.set_cons_succ, List.getElem_toArray, List.getElem_cons_zero, List.getElem_cons_succ]
      refine wpAnyH_take (i := 7) (v := ?_) rfl (by kernel_rfl) (by kernel_rfl) (by kernel_rfl) (fun _ _ _ h => h) (Or.inl ⟨by rfl, ?_⟩) (by assumption) ?_
      rotate_left
      · intro wq _
        go_simp
        all_goals with_reducible rfl
      try simp only [Act.put, List.setIfInBounds_toArray, List.set_cons_zero, List.set_cons_succ, List.getElem_toArray, List.getElem_cons_zero, List.getElem_cons_succ]
      refine wpAnyH_take (i := 8) (v := ?_) rfl (by kernel_rfl) (by kernel_rfl) (by kernel_rfl) (fun _ _ _ h => h) (Or.inl ⟨by rfl, ?_⟩) (by assumption) ?_
      rotate_left
      · intro wq _
        go_simp
        all_goals with_reducible rfl
      try simp only [Act.put, List.setIfInBounds_toArray, List.set_cons_zero, List.set_cons_succ, List.getElem_toArray, List.getElem_cons_zero, List.getElem_cons_succ]
      refine wpAnyH_take (i := 9) (v := ?_) rfl (by kernel_rfl) (by kernel_rfl) (by kernel_rfl) (fun _ _ _ h => h) (Or.inl ⟨by rfl, ?_⟩) (by assumption) ?_
      rotate_left
      · intro wq _
        go_simp
        all_goals with_reducible rfl
      try simp only [Act.put, List.setIfInBounds_toArray, List.set_cons_zero, List.set_cons_succ, List.getElem_toArray, List.getElem_cons_zero, List.getElem_cons_succ]
      refine wpAnyH_take (i := 10) (v := ?_) rfl (by kernel_rfl) (by kernel_rfl) (by kernel_rfl) (fun _ _ _ h => h) (Or.inl ⟨by rfl, ?_⟩) (by assumption) ?_
      rotate_left
      · intro wq _
        go_simp
        all_goals with_reducible rfl
      try simp only [Act.put, List.setIfInBounds_toArray, List.set_cons_zero, List.set_cons_succ, List.getElem_toArray, List.getElem_cons_zero, List.getElem_cons_succ]
      refine wpAnyH_take (i := 11) (v := ?_) rfl (by kernel_rfl) (by kernel_rfl) (by kernel_rfl) (fun _ _ _ h => h) (Or.inl ⟨by rfl, ?_⟩) (by assumption) ?_
      rotate_left
      · intro wq _
        go_simp
        all_goals with_reducible rfl
      try simp only [Act.put, List.setIfInBounds_toArray, List.set_cons_zero, List.set_cons_succ, List.getElem_toArray, List.getElem_cons_zero, List.getElem_cons_succ]
      refine wpAnyH_take (i := 12) (v := ?_) rfl (by kernel_rfl) (by kernel_rfl) (by kernel_rfl) (fun _ _ _ h => h) (Or.inl ⟨by rfl, ?_⟩) (by assumption) ?_
      rotate_left
      · intro wq _
        go_simp
        all_goals with_reducible rfl
      try simp only [Act.put, List.setIfInBounds_toArray, List.set_cons_zero, List.set_cons_succ, List.getElem_toArray, List.getElem_cons_zero, List.getElem_cons_succ]
      refine wpAnyH_take (i := 13) (v := ?_) rfl (by kernel_rfl) (by kernel_rfl) (by kernel_rfl) (fun _ _ _ h => h) (Or.inl ⟨by rfl, ?_⟩) (by assumption) ?_
      rotate_left
      · intro wq _
        go_simp
        all_goals with_reducible rfl
      try simp only [Act.put, List.setIfInBounds_toArray, List.set_cons_zero, List.set_cons_succ, List.getElem_toArray, List.getElem_cons_zero, List.getElem_cons_succ]
      refine wpAnyH_ready (rs := [14, 17]) (by kernel_rfl) (by simp) ?_
      refine AllReadyH.cons rfl (fun K hK => ?_) (AllReadyH.cons rfl (fun K hK => ?_) AllReadyH.nil)
      · go_simp
        refine (CN.out _ (Ua.trans uD) (z - (j : Int)) (by omega) Nb hNNb).mono ?_
        rintro _ Vb ⟨rfl, vVb⟩
        have uVb : Up Wa Vb := uD.trans vVb
        refine hK.out _ _ trivial (fun _ => ?_)
        try simp only [Act.put, List.setIfInBounds_toArray, List.set_cons_zero, List.set_cons_succ, List.getElem_toArray, List.getElem_cons_zero, List.getElem_cons_succ]
        clear hK
        refine wpAnyH_take (i := 15) (v := ?_) rfl (by kernel_rfl) (by kernel_rfl) (by kernel_rfl) (fun _ _ _ h => h) (Or.inl ⟨by rfl, ?_⟩) (by assumption) ?_
        rotate_left
        · intro wq _
          go_simp
          all_goals with_reducible rfl
        try simp only [Act.put, List.setIfInBounds_toArray, List.set_cons_zero, List.set_cons_succ, List.getElem_toArray, List.getElem_cons_zero, List.getElem_cons_succ]
        refine wpAnyH_ready (rs := [16, 17]) (by kernel_rfl) (by simp) ?_
        refine AllReadyH.cons rfl (fun K hK => ?_) (AllReadyH.cons rfl (fun K hK => ?_) AllReadyH.nil)
        · go_simp
          refine (Cb.out _ (Ua.trans uVb)).mono ?_
          rintro _ Yb ⟨Ab, nb, cb, xsb, rfl, ab, bb, lb, mb, vYb⟩
          have uYb : Up Wa Yb := uVb.trans vYb
          refine hK.out _ _ trivial (fun _ => ?_)
          try simp only [Act.put, List.setIfInBounds_toArray, List.set_cons_zero, List.set_cons_succ, List.getElem_toArray, List.getElem_cons_zero, List.getElem_cons_succ]
          clear hK
          have J := wd_nt ab bb lb mb
          refine wpAnyH_ready (rs := [17]) (by kernel_rfl) (by simp) ?_
          refine AllReadyH.cons rfl (fun K hK => ?_) AllReadyH.nil
          go_simp
          refine hK.out _ (Yb.alloc (.cells #[.int .i64 0, .bool false, .slice none 0 0, .int .i64 0, .int .i64 0, .bool false] 27)) trivial (fun _ => ?_)
          try simp only [Act.put, List.setIfInBounds_toArray, List.set_cons_zero, List.set_cons_succ, List.getElem_toArray, List.getElem_cons_zero, List.getElem_cons_succ]
          clear hK
          obtain ⟨E, hE⟩ : ∃ E, Yb.alloc (.cells #[.int .i64 0, .bool false, .slice none 0 0, .int .i64 0, .int .i64 0, .bool false] 27) = E := ⟨_, rfl⟩
          have R : Ob E Yb.heap.size 27 #[.int .i64 0, .bool false, .slice none 0 0, .int .i64 0, .int .i64 0, .bool false] := by rw [← hE]; exact Ob.mk_ _ _ _
          have uE : Up Wa E := by rw [← hE]; exact uYb.alloc _
          have hE2 := hE
          rw [hE]
          have lE : Yb.heap.size < E.heap.size := R.lt
          clear hE
          refine wpAnyH_ready (rs := [18]) (by kernel_rfl) (by simp) ?_
          refine AllReadyH.cons rfl (fun K hK => ?_) AllReadyH.nil
          rw [if_pos (by rfl)]
          refine wp_store_row 27 (.tmp 15) (.tmp 77) rfl Yb.heap.size #[.int .i64 1, .bool false, .slice Ab nb cb, .int .i64 z, .int .i64 0, .bool false] rfl rfl 27 #[.int .i64 0, .bool false, .slice none 0 0, .int .i64 0, .int .i64 0, .bool false] R (by kernel_rfl) rfl (by simp [Value.oneCell']) ?_
          have oS : ∀ b', b' ≠ Yb.heap.size → (E.setRow Yb.heap.size #[.int .i64 1, .bool false, .slice Ab nb cb, .int .i64 z, .int .i64 0, .bool false]).heap[b']? = E.heap[b']? := fun b' h => setRow_other _ _ _ _ h
          have R2 : Ob (E.setRow Yb.heap.size #[.int .i64 1, .bool false, .slice Ab nb cb, .int .i64 z, .int .i64 0, .bool false]) Yb.heap.size 27 #[.int .i64 1, .bool false, .slice Ab nb cb, .int .i64 z, .int .i64 0, .bool false] := setRow_heap _ _ _ _ _ _ R
          have gW : Wa.heap.size ≤ Yb.heap.size := Up.size uYb
          have U2 : Up Wa (E.setRow Yb.heap.size #[.int .i64 1, .bool false, .slice Ab nb cb, .int .i64 z, .int .i64 0, .bool false]) := uE.setRow_ gW _
          have J2 := J.up (((show Up Yb E from by rw [← hE2]; exact (Up.refl _).alloc _)).setRow_ (Nat.le_refl _) #[.int .i64 1, .bool false, .slice Ab nb cb, .int .i64 z, .int .i64 0, .bool false])
          have hfin : ∃ (g : Nat) (A : Option Addr) (n c lo : Nat), (Value.pointer (some ⟨Yb.heap.size, 0, none⟩)) = .pointer (some ⟨g, 0, none⟩) ∧ Ob (E.setRow Yb.heap.size #[.int .i64 1, .bool false, .slice Ab nb cb, .int .i64 z, .int .i64 0, .bool false]) g 27 (itc A n c z) ∧ Nt (E.setRow Yb.heap.size #[.int .i64 1, .bool false, .slice Ab nb cb, .int .i64 z, .int .i64 0, .bool false]) lo 2001 (.slice A n c) d1 ∧ Up Wa (E.setRow Yb.heap.size #[.int .i64 1, .bool false, .slice Ab nb cb, .int .i64 z, .int .i64 0, .bool false]) := ⟨_, _, _, _, _, rfl, R2, J2, U2⟩
          refine hK.out _ _ trivial (fun _ => ?_)
          simp only [Act.put]
          clear hK
          refine wpAnyH_done (by kernel_rfl) ?_ _
          go_wp2_with fail
          go_meet
          exact hfin
        · go_simp
          refine hK.out _ (Vb.alloc (.cells #[.int .i64 0, .bool false, .slice none 0 0, .int .i64 0, .int .i64 0, .bool false] 27)) trivial (fun _ => ?_)
          try simp only [Act.put, List.setIfInBounds_toArray, List.set_cons_zero, List.set_cons_succ, List.getElem_toArray, List.getElem_cons_zero, List.getElem_cons_succ]
          clear hK
          obtain ⟨E, hE⟩ : ∃ E, Vb.alloc (.cells #[.int .i64 0, .bool false, .slice none 0 0, .int .i64 0, .int .i64 0, .bool false] 27) = E := ⟨_, rfl⟩
          have R : Ob E Vb.heap.size 27 #[.int .i64 0, .bool false, .slice none 0 0, .int .i64 0, .int .i64 0, .bool false] := by rw [← hE]; exact Ob.mk_ _ _ _
          have uE : Up Wa E := by rw [← hE]; exact uVb.alloc _
          rw [hE]
          have lE : Vb.heap.size < E.heap.size := R.lt
          clear hE
          refine wpAnyH_ready (rs := [16]) (by kernel_rfl) (by simp) ?_
          refine AllReadyH.cons rfl (fun K hK => ?_) AllReadyH.nil
          go_simp
          refine (Cb.out _ (Ua.trans uE)).mono ?_
          rintro _ Yb ⟨Ab, nb, cb, xsb, rfl, ab, bb, lb, mb, vYb⟩
          have uYb : Up Wa Yb := uE.trans vYb
          refine hK.out _ _ trivial (fun _ => ?_)
          try simp only [Act.put, List.setIfInBounds_toArray, List.set_cons_zero, List.set_cons_succ, List.getElem_toArray, List.getElem_cons_zero, List.getElem_cons_succ]
          clear hK
          have J := wd_nt ab bb lb mb
          replace R := R.up vYb
          refine wpAnyH_ready (rs := [18]) (by kernel_rfl) (by simp) ?_
          refine AllReadyH.cons rfl (fun K hK => ?_) AllReadyH.nil
          rw [if_pos (by rfl)]
          refine wp_store_row 27 (.tmp 15) (.tmp 77) rfl Vb.heap.size #[.int .i64 1, .bool false, .slice Ab nb cb, .int .i64 z, .int .i64 0, .bool false] rfl rfl 27 #[.int .i64 0, .bool false, .slice none 0 0, .int .i64 0, .int .i64 0, .bool false] R (by kernel_rfl) rfl (by simp [Value.oneCell']) ?_
          have oS : ∀ b', b' ≠ Vb.heap.size → (Yb.setRow Vb.heap.size #[.int .i64 1, .bool false, .slice Ab nb cb, .int .i64 z, .int .i64 0, .bool false]).heap[b']? = Yb.heap[b']? := fun b' h => setRow_other _ _ _ _ h
          have R2 : Ob (Yb.setRow Vb.heap.size #[.int .i64 1, .bool false, .slice Ab nb cb, .int .i64 z, .int .i64 0, .bool false]) Vb.heap.size 27 #[.int .i64 1, .bool false, .slice Ab nb cb, .int .i64 z, .int .i64 0, .bool false] := setRow_heap _ _ _ _ _ _ R
          have gW : Wa.heap.size ≤ Vb.heap.size := Up.size uVb
          have U2 : Up Wa (Yb.setRow Vb.heap.size #[.int .i64 1, .bool false, .slice Ab nb cb, .int .i64 z, .int .i64 0, .bool false]) := uYb.setRow_ gW _
          have J2 := J.other oS (by omega)
          have hfin : ∃ (g : Nat) (A : Option Addr) (n c lo : Nat), (Value.pointer (some ⟨Vb.heap.size, 0, none⟩)) = .pointer (some ⟨g, 0, none⟩) ∧ Ob (Yb.setRow Vb.heap.size #[.int .i64 1, .bool false, .slice Ab nb cb, .int .i64 z, .int .i64 0, .bool false]) g 27 (itc A n c z) ∧ Nt (Yb.setRow Vb.heap.size #[.int .i64 1, .bool false, .slice Ab nb cb, .int .i64 z, .int .i64 0, .bool false]) lo 2001 (.slice A n c) d1 ∧ Up Wa (Yb.setRow Vb.heap.size #[.int .i64 1, .bool false, .slice Ab nb cb, .int .i64 z, .int .i64 0, .bool false]) := ⟨_, _, _, _, _, rfl, R2, J2, U2⟩
          refine hK.out _ _ trivial (fun _ => ?_)
          simp only [Act.put]
          clear hK
          refine wpAnyH_done (by kernel_rfl) ?_ _
          go_wp2_with fail
          go_meet
          exact hfin
      · go_simp
        refine hK.out _ (Wa.drew.alloc (.cells #[.int .i64 0, .bool false, .slice none 0 0, .int .i64 0, .int .i64 0, .bool false] 27)) trivial (fun _ => ?_)
        try simp only [Act.put, List.setIfInBounds_toArray, List.set_cons_zero, List.set_cons_succ, List.getElem_toArray, List.getElem_cons_zero, List.getElem_cons_succ]
        clear hK
        obtain ⟨E, hE⟩ : ∃ E, Wa.drew.alloc (.cells #[.int .i64 0, .bool false, .slice none 0 0, .int .i64 0, .int .i64 0, .bool false] 27) = E := ⟨_, rfl⟩
        have R : Ob E Wa.drew.heap.size 27 #[.int .i64 0, .bool false, .slice none 0 0, .int .i64 0, .int .i64 0, .bool false] := by rw [← hE]; exact Ob.mk_ _ _ _
        have uE : Up Wa E := by rw [← hE]; exact uD.alloc _
        rw [hE]
        have lE : Wa.drew.heap.size < E.heap.size := R.lt
        clear hE
        refine wpAnyH_ready (rs := [14]) (by kernel_rfl) (by simp) ?_
        refine AllReadyH.cons rfl (fun K hK => ?_) AllReadyH.nil
        go_simp
        refine (CN.out _ (Ua.trans uE) (z - (j : Int)) (by omega) Nb hNNb).mono ?_
        rintro _ Vb ⟨rfl, vVb⟩
        have uVb : Up Wa Vb := uE.trans vVb
        refine hK.out _ _ trivial (fun _ => ?_)
        try simp only [Act.put, List.setIfInBounds_toArray, List.set_cons_zero, List.set_cons_succ, List.getElem_toArray, List.getElem_cons_zero, List.getElem_cons_succ]
        clear hK
        replace R := R.up vVb
        refine wpAnyH_take (i := 15) (v := ?_) rfl (by kernel_rfl) (by kernel_rfl) (by kernel_rfl) (fun _ _ _ h => h) (Or.inl ⟨by rfl, ?_⟩) (by assumption) ?_
        rotate_left
        · intro wq _
          go_simp
          all_goals with_reducible rfl
        try simp only [Act.put, List.setIfInBounds_toArray, List.set_cons_zero, List.set_cons_succ, List.getElem_toArray, List.getElem_cons_zero, List.getElem_cons_succ]
        refine wpAnyH_ready (rs := [16]) (by kernel_rfl) (by simp) ?_
        refine AllReadyH.cons rfl (fun K hK => ?_) AllReadyH.nil
        go_simp
        refine (Cb.out _ (Ua.trans uVb)).mono ?_
        rintro _ Yb ⟨Ab, nb, cb, xsb, rfl, ab, bb, lb, mb, vYb⟩
        have uYb : Up Wa Yb := uVb.trans vYb
        refine hK.out _ _ trivial (fun _ => ?_)
        try simp only [Act.put, List.setIfInBounds_toArray, List.set_cons_zero, List.set_cons_succ, List.getElem_toArray, List.getElem_cons_zero, List.getElem_cons_succ]
        clear hK
        have J := wd_nt ab bb lb mb
        replace R := R.up vYb
        refine wpAnyH_ready (rs := [18]) (by kernel_rfl) (by simp) ?_
        refine AllReadyH.cons rfl (fun K hK => ?_) AllReadyH.nil
        rw [if_pos (by rfl)]
        refine wp_store_row 27 (.tmp 15) (.tmp 77) rfl Wa.drew.heap.size #[.int .i64 1, .bool false, .slice Ab nb cb, .int .i64 z, .int .i64 0, .bool false] rfl rfl 27 #[.int .i64 0, .bool false, .slice none 0 0, .int .i64 0, .int .i64 0, .bool false] R (by kernel_rfl) rfl (by simp [Value.oneCell']) ?_
        have oS : ∀ b', b' ≠ Wa.drew.heap.size → (Yb.setRow Wa.drew.heap.size #[.int .i64 1, .bool false, .slice Ab nb cb, .int .i64 z, .int .i64 0, .bool false]).heap[b']? = Yb.heap[b']? := fun b' h => setRow_other _ _ _ _ h
        have R2 : Ob (Yb.setRow Wa.drew.heap.size #[.int .i64 1, .bool false, .slice Ab nb cb, .int .i64 z, .int .i64 0, .bool false]) Wa.drew.heap.size 27 #[.int .i64 1, .bool false, .slice Ab nb cb, .int .i64 z, .int .i64 0, .bool false] := setRow_heap _ _ _ _ _ _ R
        have gW : Wa.heap.size ≤ Wa.drew.heap.size := Up.size uD
        have U2 : Up Wa (Yb.setRow Wa.drew.heap.size #[.int .i64 1, .bool false, .slice Ab nb cb, .int .i64 z, .int .i64 0, .bool false]) := uYb.setRow_ gW _
        have J2 := J.other oS (by have := Up.size vVb; omega)
        have hfin : ∃ (g : Nat) (A : Option Addr) (n c lo : Nat), (Value.pointer (some ⟨Wa.drew.heap.size, 0, none⟩)) = .pointer (some ⟨g, 0, none⟩) ∧ Ob (Yb.setRow Wa.drew.heap.size #[.int .i64 1, .bool false, .slice Ab nb cb, .int .i64 z, .int .i64 0, .bool false]) g 27 (itc A n c z) ∧ Nt (Yb.setRow Wa.drew.heap.size #[.int .i64 1, .bool false, .slice Ab nb cb, .int .i64 z, .int .i64 0, .bool false]) lo 2001 (.slice A n c) d1 ∧ Up Wa (Yb.setRow Wa.drew.heap.size #[.int .i64 1, .bool false, .slice Ab nb cb, .int .i64 z, .int .i64 0, .bool false]) := ⟨_, _, _, _, _, rfl, R2, J2, U2⟩
        refine hK.out _ _ trivial (fun _ => ?_)
        simp only [Act.put]
        clear hK
        refine wpAnyH_done (by kernel_rfl) ?_ _
        go_wp2_with fail
        go_meet
        exact hfin
    obtain ⟨gb, Ab, nb, cb, lob, rfl, Ib, Jb, UQb⟩ := hcut
    have Ub : Up w wc := Ua.trans UQb
    replace Ia := Ia.up UQb
    replace Ja := Ja.up UQb
    clear UQb Ua Cb
    have Cc := Lib.hid (fun V (u : Up w V) => of_val V (Lib.hid (EW.out.up u)) Xc3 _ (Lib.hid rfl) (by omega) _ 0 0 Rc 1 false d1 z 0 false rfl rfl rfl)
    clear Rc
    go_upto_region 19 with (first
      | (go_at_call 13; refine (CN.out _ Ub (z + (j : Int) + (S1.size : Int)) (by omega) Nc hNNc).mono ?_; rintro _ Vc ⟨rfl, uc⟩)
      | (go_at_call 12; refine (Cc.out _ (Ub.trans uc)).mono ?_; rintro _ Yc ⟨Ac, nc, cc, xsc, rfl, ac, bc, lc, mc, vc⟩)
      | (refine store_ob rfl 27 (.tmp 16) (.tmp 91) rfl _ #[.int .i64 0, .bool false, .slice none 0 0, .int .i64 0, .int .i64 0, .bool false] #[.int .i64 1, .bool false, .slice Ac nc cc, .int .i64 z, .int .i64 0, .bool false] rfl rfl 6 (by kernel_rfl) rfl rfl (by simp [Value.oneCell']) Yc ((Up.refl _).alloc _) (Nat.le_refl _) 27 (Ob.mk_ _ _ _) ?_; intro Wc Ic qc))
    have Jc := (wd_nt ac bc lc mc).up qc
    have UQc := (uc.trans vc).trans qc
    have Uc : Up w Wc := Ub.trans UQc
    replace Ia := Ia.up UQc
    replace Ja := Ja.up UQc
    replace Ib := Ib.up UQc
    replace Jb := Jb.up UQc
    clear ac bc lc mc vc qc uc UQc Cc Ub
    have Cd := Lib.hid (fun V (u : Up w V) => of_val V (Lib.hid (EW.out.up u)) Xd3 _ (Lib.hid rfl) (by omega) _ 0 0 Rd 1 false d1 z 0 false rfl rfl rfl)
    clear Rd
    go_upto_region 20 with (first
      | (go_at_call 13; refine (CN.out _ Uc (z + (S1.size : Int)) (by omega) Nd hNNd).mono ?_; rintro _ Vd ⟨rfl, ud⟩)
      | (go_at_call 12; refine (Cd.out _ (Uc.trans ud)).mono ?_; rintro _ Yd ⟨Ad, nd, cd, xsd, rfl, ad, bd, ld, md, vd⟩)
      | (refine store_ob rfl 27 (.tmp 17) (.tmp 103) rfl _ #[.int .i64 0, .bool false, .slice none 0 0, .int .i64 0, .int .i64 0, .bool false] #[.int .i64 1, .bool false, .slice Ad nd cd, .int .i64 z, .int .i64 0, .bool false] rfl rfl 6 (by kernel_rfl) rfl rfl (by simp [Value.oneCell']) Yd ((Up.refl _).alloc _) (Nat.le_refl _) 27 (Ob.mk_ _ _ _) ?_; intro Wd Id qd))
    have Jd := (wd_nt ad bd ld md).up qd
    have UQd := (ud.trans vd).trans qd
    have Ud : Up w Wd := Uc.trans UQd
    replace Ia := Ia.up UQd
    replace Ja := Ja.up UQd
    replace Ib := Ib.up UQd
    replace Jb := Jb.up UQd
    replace Ic := Ic.up UQd
    replace Jc := Jc.up UQd
    clear ad bd ld md vd qd ud UQd Cd Uc
    obtain ⟨ia0, ia1, ia2, ia3, ia4, ia5⟩ := Ia.six
    obtain ⟨ib0, ib1, ib2, ib3, ib4, ib5⟩ := Ib.six
    have S0c := Lib.hid (same_true Wd 1 false _ _ z 0 false _ _ _ _ d1 Ja.nw Jb.nw)
    go_wp2_with fail
    refine S0c.out.mono ?_
    rintro _ Q0 ⟨rfl, v0⟩
    clear ia0 ia1 ia2 ia3 ia4 ia5 ib0 ib1 ib2 ib3 ib4 ib5 S0c
    obtain ⟨ia0, ia1, ia2, ia3, ia4, ia5⟩ := (Ia.up v0).six
    obtain ⟨ic0, ic1, ic2, ic3, ic4, ic5⟩ := (Ic.up v0).six
    have S1c := Lib.hid (same_true Q0 1 false _ _ z 0 false _ _ _ _ d1 (Ja.up v0).nw (Jc.up v0).nw)
    go_wp2_with fail
    refine S1c.out.mono ?_
    rintro _ Q1 ⟨rfl, v1⟩
    clear ia0 ia1 ia2 ia3 ia4 ia5 ic0 ic1 ic2 ic3 ic4 ic5 S1c
    obtain ⟨ia0, ia1, ia2, ia3, ia4, ia5⟩ := ((Ia.up v0).up v1).six
    obtain ⟨id0, id1, id2, id3, id4, id5⟩ := ((Id.up v0).up v1).six
    have S2c := Lib.hid (same_true Q1 1 false _ _ z 0 false _ _ _ _ d1 ((Ja.up v0).up v1).nw ((Jd.up v0).up v1).nw)
    go_wp2_with fail
    refine S2c.out.mono ?_
    rintro _ Q2 ⟨rfl, v2⟩
    clear ia0 ia1 ia2 ia3 ia4 ia5 id0 id1 id2 id3 id4 id5 S2c
    obtain ⟨ia0, ia1, ia2, ia3, ia4, ia5⟩ := (((Ia.up v0).up v1).up v2).six
    have ez : (z == z) = true := by simp
    go_wp2_with fail
    go_ret
    exact ⟨rfl, ((Ud.trans v0).trans v1).trans v2⟩
end Go.Proofs.YtpmpdecaadfnmaaDoor
