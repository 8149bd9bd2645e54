/-
  The walk of ParseRounds: true, and nothing that was there has turned.
-/
import Derived.Test.YtbbjlcgfaigmdaaGreatDoorJr0
namespace Go.Proofs.YtbbjlcgfaigmdaaGreatDoor
open Go.RowKit Go.Shelf
set_option linter.unusedSimpArgs false
set_option linter.unusedVariables false

set_option maxHeartbeats 4000000 in
set_option maxRecDepth 100000 in
theorem prounds_false (w : World) (L : Hid (Lp w)) (x0 x1 : Int) (A0 : Option Addr) (n0 c0 : Nat) (xs : List Nat) (h0 : Src w A0 n0 c0 xs) (x4 : Int) : Calls Tryz.prog 5 #[.int .i64 x0, .int .i64 x1, .bool false, .slice A0 n0 c0, .int .i64 x4] w (True10 w) := by
  obtain ⟨kk0, hkk, hk1, hk2⟩ : ∃ kk0 : Nat, min (n0 : Int) 10 = (kk0 : Int) ∧ kk0 ≤ n0 ∧ kk0 ≤ 10 := ⟨min n0 10, by omega, by omega, by omega⟩
  obtain ⟨k, hr, hr1, hr2⟩ : ∃ k : Int, x4.tmod 901 = k ∧ -901 < k ∧ k < 901 := tmod_rng10 x4 901 (by decide)
  have hc0 := h0.len
  replace h0 := h0.take hk1
  have wk3 : IntKind.i64.wrap (k - 3) = k - 3 := IntWalk.i64_in _ (by omega)
  have U := Up.refl w
  go_enter Tryz.func5, Tryz.ntmps5
  go_wp2_with fail
  refine (shown10_any _ L).mono ?_
  rintro _ w1 ⟨rfl, u_⟩
  replace U := U.trans u_
  replace h0 := h0.up u_
  clear u_
  go_wp2_with fail
  refine (norm_src _ _ _ _ _ h0 (by omega)).mono ?_
  rintro _ w2 ⟨va, rfl, na, u_⟩
  replace U := U.trans u_
  clear u_ h0
  obtain ⟨a, ha⟩ : ∃ a, M.val (xs.take kk0) = a := ⟨_, rfl⟩
  rw [ha] at na
  replace na := na.more hk2
  clear ha hkk
  obtain ⟨A2, s2, c2, y2, rfl, na⟩ := na
  replace na : Nt w2 _ _ (.slice A2 s2 c2) a := ⟨A2, s2, c2, y2, rfl, na⟩
  have HLT := Lib.hid na.nw.lt
  have HL := Lib.hid (show a < 18446744073709551616 ^ 128 from Nat.lt_of_lt_of_le HLT.out (Nat.pow_le_pow_right (by decide) (by decide)))
  go_wp2_with fail
  refine (dec_yes _ _ 10 false _ a k na.nw HL.out ⟨by omega, by omega⟩).mono ?_
  rintro _ w3 ⟨vx, rfl, nx, u_⟩
  replace na := na.up u_
  replace U := U.trans u_
  clear u_
  obtain ⟨A3, s3, c3, y3, rfl, nx⟩ := nx
  replace nx : Nt w3 _ _ (.slice A3 s3 c3) a := ⟨A3, s3, c3, y3, rfl, nx⟩
  go_wp2_with fail
  obtain ⟨V4, hV4⟩ : ∃ V4, w3.alloc (.cells #[.bool false, .slice A3 s3 c3, .int .i64 k, .int .i64 k] 42) = V4 := ⟨_, rfl⟩
  have X : Ob V4 w3.heap.size 42 #[.bool false, .slice A3 s3 c3, .int .i64 k, .int .i64 k] := by rw [← hV4]; exact Ob.mk_ _ _ _
  have u_ : Up w3 V4 := by rw [← hV4]; exact (Up.refl _).alloc _
  rw [hV4]
  clear hV4
  replace na := na.up u_
  replace nx := nx.up u_
  replace U := U.trans u_
  clear u_
  -- the numbers, the texts
  obtain ⟨D, hD⟩ : ∃ D, Lib.decDigits a = D := ⟨_, rfl⟩
  have hda := M.dd_all a a (Nat.le_refl _)
  have hdl : D.length ≤ 200 := by rw [← hD]; exact M.dd_len (k := 199) (Nat.lt_of_lt_of_le HLT.out (by decide +kernel))
  rw [hD] at hda
  have HA := Lib.hid hda.1
  have HNE := Lib.hid hda.2.2.1
  clear hda
  obtain ⟨S, hS⟩ : ∃ S : ByteArray, (⟨D.toArray⟩ : ByteArray) = S := ⟨_, rfl⟩
  have HS : Hid (S.data.toList = D) := by show _ = _; rw [← hS]
  have zS : S.size ≤ 200 := by rw [size_of HS]; exact hdl
  have HTX := Lib.hid (show (⟨(Lib.decDigits a).toArray⟩ : ByteArray) = S by rw [hD]; exact hS)
  clear hS
  obtain ⟨S1, hS1⟩ : ∃ S1, S = S1 := ⟨_, rfl⟩
  have HS1 : Hid (S1.data.toList = D) := by rw [← hS1]; exact HS
  have zS1 : S1.size ≤ 300 := by rw [← hS1]; omega
  have HSG : Hid (S1.data.toList = M.sg false ++ D) := HS1
  obtain ⟨Na, hNa⟩ : ∃ N : ByteArray, (⟨(M.nt k).toArray⟩ : ByteArray) = N := ⟨_, rfl⟩
  have HNa : Hid (Na.data.toList = M.nt k) := by show _ = _; rw [← hNa]
  have zNa : Na.size ≤ 20 := by rw [size_of HNa]; exact M.nt_len _ (by omega)
  have hNNa := Lib.hid hNa
  clear hNa
  obtain ⟨Nb, hNb⟩ : ∃ N : ByteArray, (⟨(M.nt (k - 3)).toArray⟩ : ByteArray) = N := ⟨_, rfl⟩
  have HNb : Hid (Nb.data.toList = M.nt (k - 3)) := by show _ = _; rw [← hNb]
  have zNb : Nb.size ≤ 20 := by rw [size_of HNb]; exact M.nt_len _ (by omega)
  have hNNb := Lib.hid hNb
  clear hNb
  obtain ⟨Xa0, xa0, HXa0, zxa0⟩ := cat_ex S1 ⟨#[101]⟩ _ _ 310 HSG (show Hid (_ = [101]) from rfl) (by have : (⟨#[101]⟩ : ByteArray).size = 1 := rfl; omega)
  obtain ⟨Xa, xa1, HXa, zxa⟩ := cat_ex Xa0 Na _ _ 350 HXa0 HNa (by omega)
  obtain ⟨Xb0, xb0, HXb0, zxb0⟩ := cat_ex S1 ⟨#[48, 48, 48, 69]⟩ _ _ 310 HSG (show Hid (_ = [48, 48, 48, 69]) from rfl) (by have : (⟨#[48, 48, 48, 69]⟩ : ByteArray).size = 4 := rfl; omega)
  obtain ⟨Xb, xb1, HXb, zxb⟩ := cat_ex Xb0 Nb _ _ 350 HXb0 HNb (by omega)
  clear HXa0 HXb0 HS1 HS
  have Ra : Hid (M.rs (Xa.data.toList) = (⟨1, false, M.num D k⟩, 0, 0)) := by
    show _ = _
    rw [← M.txt_e false D HA.out HNE.out k, HXa.out]
    simp
  have Rb : Hid (M.rs (Xb.data.toList) = (⟨1, false, M.num D k⟩, 0, 0)) := by
    show _ = _
    rw [← M.txt_e3 false D HA.out HNE.out 69 (.inr rfl) k, HXb.out]
    simp
  obtain ⟨p, e, hrc⟩ := M.rc_ex x0 x1 false (M.sz a k k)
  obtain ⟨dd, kd, bg, ct, hnum⟩ : ∃ dd kd bg ct, M.num D k = ⟨dd, kd, bg, ct⟩ := ⟨_, _, _, _, rfl⟩
  obtain ⟨q, n, f, hj, HB⟩ : ∃ q n f, M.Jc x0 x1 Xa.data.toList q n f ∧ Hid ((bg != 0) = true ∨ ((bg != 0) = false ∧ p = q ∧ e = f ∧ n = 0)) := by
    by_cases c : bg = 0
    · have hs := M.dec_sz (d := a) (k := k) HLT.out (by omega) (by rw [hD, hnum]; exact c)
      rw [hD] at hs
      exact ⟨p, 0, e, M.jc_of_rc Ra.out hs hrc, .inr ⟨by simpa using c, rfl, rfl, rfl⟩⟩
    · obtain ⟨q, n, f, hj⟩ := M.jc_ex x0 x1 Xa.data.toList
      exact ⟨q, n, f, hj, .inl (by simpa using c)⟩
  have CR := Lib.hid (fun W (P : Lp W) (v : Value) (lo : Nat) (nv : Nt W lo 10 v a) => rnd_round W (Lib.hid P.low) (Lib.hid P.form) x0 x1 lo 10 false v k k a nv (by decide) ⟨by omega, by omega⟩ ⟨by omega, by omega⟩ HL.out p e hrc)
  have CPa := Lib.hid (fun W (P : Lp W) => jparse_any W (Lib.hid P) x0 x1 Xa _ (Lib.hid rfl) (by omega) q n f hj)
  have CPb := Lib.hid (fun W (P : Lp W) => jparse_any W (Lib.hid P) x0 x1 Xb _ (Lib.hid rfl) (by omega) q n f (M.jc_congr (Ra.out.trans Rb.out.symm) hj))
  have CNa := Lib.hid (fun W (P : Lp W) => numtext10_any W (Lib.hid P.ten) k (by omega) Na hNNa)
  have CNb := Lib.hid (fun W (P : Lp W) => numtext10_any W (Lib.hid P.ten) (k - 3) (by omega) Nb hNNb)
  have CS := Lib.hid (fun W (P : Lp W) A n c (S : Sb W A n c Xa.data.toList) (hn : n ≤ 100000000) => scan_val W (Lib.hid P.er) A n c _ S hn _ 0 0 Ra.out 1 false dd kd bg ct 0 rfl rfl hnum rfl)
  have CT := Lib.hid (fun W (P : Lp W) (lo : Nat) (nv : Nt W lo 10 (.slice A2 s2 c2) a) => text_of W lo 10 (.slice A2 s2 c2) a nv.nw (by decide) P.ten S HTX.out)
  have HXA := Lib.hid (rfl : Xa.data.toList = Xa.data.toList)
  clear hrc hnum hj Ra Rb HXa HXb hNNa hNNb HNa HNb HSG HA HNE hD hdl HTX HL HLT
  refine (CT.out _ (L.out.up U) _ na).mono ?_
  rintro _ w5 ⟨rfl, u_⟩
  replace U := U.trans u_
  replace nx := nx.up u_
  replace X := X.up u_
  clear u_ na CT
  have b0 := X.get 0
  have b1 := X.get 1
  have b2 := X.get 2
  have b3 := X.get 3
  simp only [List.getElem?_toArray, List.getElem?_cons_zero, List.getElem?_cons_succ] at b0 b1 b2 b3
  subst hS1
  go_wp2_with fail
  refine (CR.out _ (L.out.up U) _ _ nx).mono ?_
  rintro _ w6 ⟨rfl, u_⟩
  replace U := U.trans u_
  clear u_ b0 b1 b2 b3 X nx CR
  go_wp2_with fail
  refine (CNa.out _ (L.out.up U)).mono ?_
  rintro _ w7 ⟨rfl, u_⟩
  replace U := U.trans u_
  clear u_
  go_wp2_with fail
  refine (CPa.out _ (L.out.up U)).mono ?_
  rintro _ w8 ⟨rfl, u_⟩
  replace U := U.trans u_
  clear u_ CPa
  go_wp2_with fail
  refine (CNb.out _ (L.out.up U)).mono ?_
  rintro _ w9 ⟨rfl, u_⟩
  replace U := U.trans u_
  clear u_ CNb
  go_wp2_with fail
  refine (CPb.out _ (L.out.up U)).mono ?_
  rintro _ w10 ⟨rfl, u_⟩
  replace U := U.trans u_
  clear u_ CPb
  go_wp2_with fail
  refine (CNa.out _ (L.out.up U)).mono ?_
  rintro _ w11 ⟨rfl, u_⟩
  replace U := U.trans u_
  clear u_ CNa
  obtain ⟨c, W, hcv, SB, u_⟩ := conv_str w11 Xa Xa.data.toList rfl (by omega)
  replace U := U.trans u_
  obtain ⟨g, hg⟩ : ∃ g, w11.heap.size = g := ⟨_, rfl⟩
  rw [hg] at hcv SB
  obtain ⟨nn, hn⟩ : ∃ nn, Xa.size = nn := ⟨_, rfl⟩
  have hnn : nn ≤ 100000000 := by omega
  rw [hn] at hcv SB
  replace CS := Lib.hid (CS.out W (L.out.up U) _ nn c SB hnn)
  clear u_ SB hn hg hnn
  go_wp2_with fail
  refine CS.out.mono ?_
  rintro _ w12 ⟨A5, n5, c5, xs5, rfl, N5, v5, l5, z5, u_⟩
  replace U := U.trans u_
  clear u_ CS hcv N5 v5 l5 z5
  go_upto_region 14 with fail
  obtain ⟨V5, hV5⟩ : ∃ V, w12.alloc (.cells #[.int .i64 1, .bool false, .slice A5 n5 c5, .int .i64 kd, .int .i64 bg, .bool ct] 49) = V := ⟨_, rfl⟩
  have R : Ob V5 w12.heap.size 49 #[.int .i64 1, .bool false, .slice A5 n5 c5, .int .i64 kd, .int .i64 bg, .bool ct] := by rw [← hV5]; exact Ob.mk_ _ _ _
  have u_ : Up w12 V5 := by rw [← hV5]; exact (Up.refl _).alloc _
  rw [hV5]
  clear hV5
  replace U := U.trans u_
  clear u_
  obtain ⟨i0, i1, i2, i3, i4, i5⟩ := R.six
  clear R i0 i1 i2 i3 i5
  rcases HB.out with h | ⟨h, rfl, rfl, rfl⟩
  all_goals
    go_wp2_with fail
    go_ret
    exact ⟨rfl, U⟩
set_option maxHeartbeats 4000000 in
set_option maxRecDepth 100000 in
theorem prounds_true (w : World) (L : Hid (Lp w)) (x0 x1 : Int) (A0 : Option Addr) (n0 c0 : Nat) (xs : List Nat) (h0 : Src w A0 n0 c0 xs) (x4 : Int) : Calls Tryz.prog 5 #[.int .i64 x0, .int .i64 x1, .bool true, .slice A0 n0 c0, .int .i64 x4] w (True10 w) := by
  obtain ⟨kk0, hkk, hk1, hk2⟩ : ∃ kk0 : Nat, min (n0 : Int) 10 = (kk0 : Int) ∧ kk0 ≤ n0 ∧ kk0 ≤ 10 := ⟨min n0 10, by omega, by omega, by omega⟩
  obtain ⟨k, hr, hr1, hr2⟩ : ∃ k : Int, x4.tmod 901 = k ∧ -901 < k ∧ k < 901 := tmod_rng10 x4 901 (by decide)
  have hc0 := h0.len
  replace h0 := h0.take hk1
  have wk3 : IntKind.i64.wrap (k - 3) = k - 3 := IntWalk.i64_in _ (by omega)
  have U := Up.refl w
  go_enter Tryz.func5, Tryz.ntmps5
  go_wp2_with fail
  refine (shown10_any _ L).mono ?_
  rintro _ w1 ⟨rfl, u_⟩
  replace U := U.trans u_
  replace h0 := h0.up u_
  clear u_
  go_wp2_with fail
  refine (norm_src _ _ _ _ _ h0 (by omega)).mono ?_
  rintro _ w2 ⟨va, rfl, na, u_⟩
  replace U := U.trans u_
  clear u_ h0
  obtain ⟨a, ha⟩ : ∃ a, M.val (xs.take kk0) = a := ⟨_, rfl⟩
  rw [ha] at na
  replace na := na.more hk2
  clear ha hkk
  obtain ⟨A2, s2, c2, y2, rfl, na⟩ := na
  replace na : Nt w2 _ _ (.slice A2 s2 c2) a := ⟨A2, s2, c2, y2, rfl, na⟩
  have HLT := Lib.hid na.nw.lt
  have HL := Lib.hid (show a < 18446744073709551616 ^ 128 from Nat.lt_of_lt_of_le HLT.out (Nat.pow_le_pow_right (by decide) (by decide)))
  go_wp2_with fail
  refine (dec_yes _ _ 10 true _ a k na.nw HL.out ⟨by omega, by omega⟩).mono ?_
  rintro _ w3 ⟨vx, rfl, nx, u_⟩
  replace na := na.up u_
  replace U := U.trans u_
  clear u_
  obtain ⟨A3, s3, c3, y3, rfl, nx⟩ := nx
  replace nx : Nt w3 _ _ (.slice A3 s3 c3) a := ⟨A3, s3, c3, y3, rfl, nx⟩
  go_wp2_with fail
  obtain ⟨V4, hV4⟩ : ∃ V4, w3.alloc (.cells #[.bool true, .slice A3 s3 c3, .int .i64 k, .int .i64 k] 42) = V4 := ⟨_, rfl⟩
  have X : Ob V4 w3.heap.size 42 #[.bool true, .slice A3 s3 c3, .int .i64 k, .int .i64 k] := by rw [← hV4]; exact Ob.mk_ _ _ _
  have u_ : Up w3 V4 := by rw [← hV4]; exact (Up.refl _).alloc _
  rw [hV4]
  clear hV4
  replace na := na.up u_
  replace nx := nx.up u_
  replace U := U.trans u_
  clear u_
  -- the numbers, the texts
  obtain ⟨D, hD⟩ : ∃ D, Lib.decDigits a = D := ⟨_, rfl⟩
  have hda := M.dd_all a a (Nat.le_refl _)
  have hdl : D.length ≤ 200 := by rw [← hD]; exact M.dd_len (k := 199) (Nat.lt_of_lt_of_le HLT.out (by decide +kernel))
  rw [hD] at hda
  have HA := Lib.hid hda.1
  have HNE := Lib.hid hda.2.2.1
  clear hda
  obtain ⟨S, hS⟩ : ∃ S : ByteArray, (⟨D.toArray⟩ : ByteArray) = S := ⟨_, rfl⟩
  have HS : Hid (S.data.toList = D) := by show _ = _; rw [← hS]
  have zS : S.size ≤ 200 := by rw [size_of HS]; exact hdl
  have HTX := Lib.hid (show (⟨(Lib.decDigits a).toArray⟩ : ByteArray) = S by rw [hD]; exact hS)
  clear hS
  obtain ⟨S1, xs1, HS1, zS1⟩ := cat_ex ⟨#[45]⟩ S _ _ 300 (show Hid (_ = [45]) from rfl) HS (by have : (⟨#[45]⟩ : ByteArray).size = 1 := rfl; omega)
  have HSG : Hid (S1.data.toList = M.sg true ++ D) := HS1
  obtain ⟨Na, hNa⟩ : ∃ N : ByteArray, (⟨(M.nt k).toArray⟩ : ByteArray) = N := ⟨_, rfl⟩
  have HNa : Hid (Na.data.toList = M.nt k) := by show _ = _; rw [← hNa]
  have zNa : Na.size ≤ 20 := by rw [size_of HNa]; exact M.nt_len _ (by omega)
  have hNNa := Lib.hid hNa
  clear hNa
  obtain ⟨Nb, hNb⟩ : ∃ N : ByteArray, (⟨(M.nt (k - 3)).toArray⟩ : ByteArray) = N := ⟨_, rfl⟩
  have HNb : Hid (Nb.data.toList = M.nt (k - 3)) := by show _ = _; rw [← hNb]
  have zNb : Nb.size ≤ 20 := by rw [size_of HNb]; exact M.nt_len _ (by omega)
  have hNNb := Lib.hid hNb
  clear hNb
  obtain ⟨Xa0, xa0, HXa0, zxa0⟩ := cat_ex S1 ⟨#[101]⟩ _ _ 310 HSG (show Hid (_ = [101]) from rfl) (by have : (⟨#[101]⟩ : ByteArray).size = 1 := rfl; omega)
  obtain ⟨Xa, xa1, HXa, zxa⟩ := cat_ex Xa0 Na _ _ 350 HXa0 HNa (by omega)
  obtain ⟨Xb0, xb0, HXb0, zxb0⟩ := cat_ex S1 ⟨#[48, 48, 48, 69]⟩ _ _ 310 HSG (show Hid (_ = [48, 48, 48, 69]) from rfl) (by have : (⟨#[48, 48, 48, 69]⟩ : ByteArray).size = 4 := rfl; omega)
  obtain ⟨Xb, xb1, HXb, zxb⟩ := cat_ex Xb0 Nb _ _ 350 HXb0 HNb (by omega)
  clear HXa0 HXb0 HS1 HS
  have Ra : Hid (M.rs (Xa.data.toList) = (⟨1, true, M.num D k⟩, 0, 0)) := by
    show _ = _
    rw [← M.txt_e true D HA.out HNE.out k, HXa.out]
    simp
  have Rb : Hid (M.rs (Xb.data.toList) = (⟨1, true, M.num D k⟩, 0, 0)) := by
    show _ = _
    rw [← M.txt_e3 true D HA.out HNE.out 69 (.inr rfl) k, HXb.out]
    simp
  obtain ⟨p, e, hrc⟩ := M.rc_ex x0 x1 true (M.sz a k k)
  obtain ⟨dd, kd, bg, ct, hnum⟩ : ∃ dd kd bg ct, M.num D k = ⟨dd, kd, bg, ct⟩ := ⟨_, _, _, _, rfl⟩
  obtain ⟨q, n, f, hj, HB⟩ : ∃ q n f, M.Jc x0 x1 Xa.data.toList q n f ∧ Hid ((bg != 0) = true ∨ ((bg != 0) = false ∧ p = q ∧ e = f ∧ n = 0)) := by
    by_cases c : bg = 0
    · have hs := M.dec_sz (d := a) (k := k) HLT.out (by omega) (by rw [hD, hnum]; exact c)
      rw [hD] at hs
      exact ⟨p, 0, e, M.jc_of_rc Ra.out hs hrc, .inr ⟨by simpa using c, rfl, rfl, rfl⟩⟩
    · obtain ⟨q, n, f, hj⟩ := M.jc_ex x0 x1 Xa.data.toList
      exact ⟨q, n, f, hj, .inl (by simpa using c)⟩
  have CR := Lib.hid (fun W (P : Lp W) (v : Value) (lo : Nat) (nv : Nt W lo 10 v a) => rnd_round W (Lib.hid P.low) (Lib.hid P.form) x0 x1 lo 10 true v k k a nv (by decide) ⟨by omega, by omega⟩ ⟨by omega, by omega⟩ HL.out p e hrc)
  have CPa := Lib.hid (fun W (P : Lp W) => jparse_any W (Lib.hid P) x0 x1 Xa _ (Lib.hid rfl) (by omega) q n f hj)
  have CPb := Lib.hid (fun W (P : Lp W) => jparse_any W (Lib.hid P) x0 x1 Xb _ (Lib.hid rfl) (by omega) q n f (M.jc_congr (Ra.out.trans Rb.out.symm) hj))
  have CNa := Lib.hid (fun W (P : Lp W) => numtext10_any W (Lib.hid P.ten) k (by omega) Na hNNa)
  have CNb := Lib.hid (fun W (P : Lp W) => numtext10_any W (Lib.hid P.ten) (k - 3) (by omega) Nb hNNb)
  have CS := Lib.hid (fun W (P : Lp W) A n c (S : Sb W A n c Xa.data.toList) (hn : n ≤ 100000000) => scan_val W (Lib.hid P.er) A n c _ S hn _ 0 0 Ra.out 1 true dd kd bg ct 0 rfl rfl hnum rfl)
  have CT := Lib.hid (fun W (P : Lp W) (lo : Nat) (nv : Nt W lo 10 (.slice A2 s2 c2) a) => text_of W lo 10 (.slice A2 s2 c2) a nv.nw (by decide) P.ten S HTX.out)
  have HXA := Lib.hid (rfl : Xa.data.toList = Xa.data.toList)
  clear hrc hnum hj Ra Rb HXa HXb hNNa hNNb HNa HNb HSG HA HNE hD hdl HTX HL HLT
  refine (CT.out _ (L.out.up U) _ na).mono ?_
  rintro _ w5 ⟨rfl, u_⟩
  replace U := U.trans u_
  replace nx := nx.up u_
  replace X := X.up u_
  clear u_ na CT
  have b0 := X.get 0
  have b1 := X.get 1
  have b2 := X.get 2
  have b3 := X.get 3
  simp only [List.getElem?_toArray, List.getElem?_cons_zero, List.getElem?_cons_succ] at b0 b1 b2 b3
  go_wp2_with fail
  refine (CR.out _ (L.out.up U) _ _ nx).mono ?_
  rintro _ w6 ⟨rfl, u_⟩
  replace U := U.trans u_
  clear u_ b0 b1 b2 b3 X nx CR
  go_wp2_with fail
  refine (CNa.out _ (L.out.up U)).mono ?_
  rintro _ w7 ⟨rfl, u_⟩
  replace U := U.trans u_
  clear u_
  go_wp2_with fail
  refine (CPa.out _ (L.out.up U)).mono ?_
  rintro _ w8 ⟨rfl, u_⟩
  replace U := U.trans u_
  clear u_ CPa
  go_wp2_with fail
  refine (CNb.out _ (L.out.up U)).mono ?_
  rintro _ w9 ⟨rfl, u_⟩
  replace U := U.trans u_
  clear u_ CNb
  go_wp2_with fail
  refine (CPb.out _ (L.out.up U)).mono ?_
  rintro _ w10 ⟨rfl, u_⟩
  replace U := U.trans u_
  clear u_ CPb
  go_wp2_with fail
  refine (CNa.out _ (L.out.up U)).mono ?_
  rintro _ w11 ⟨rfl, u_⟩
  replace U := U.trans u_
  clear u_ CNa
  obtain ⟨c, W, hcv, SB, u_⟩ := conv_str w11 Xa Xa.data.toList rfl (by omega)
  replace U := U.trans u_
  obtain ⟨g, hg⟩ : ∃ g, w11.heap.size = g := ⟨_, rfl⟩
  rw [hg] at hcv SB
  obtain ⟨nn, hn⟩ : ∃ nn, Xa.size = nn := ⟨_, rfl⟩
  have hnn : nn ≤ 100000000 := by omega
  rw [hn] at hcv SB
  replace CS := Lib.hid (CS.out W (L.out.up U) _ nn c SB hnn)
  clear u_ SB hn hg hnn
  go_wp2_with fail
  refine CS.out.mono ?_
  rintro _ w12 ⟨A5, n5, c5, xs5, rfl, N5, v5, l5, z5, u_⟩
  replace U := U.trans u_
  clear u_ CS hcv N5 v5 l5 z5
  go_upto_region 14 with fail
  obtain ⟨V5, hV5⟩ : ∃ V, w12.alloc (.cells #[.int .i64 1, .bool true, .slice A5 n5 c5, .int .i64 kd, .int .i64 bg, .bool ct] 49) = V := ⟨_, rfl⟩
  have R : Ob V5 w12.heap.size 49 #[.int .i64 1, .bool true, .slice A5 n5 c5, .int .i64 kd, .int .i64 bg, .bool ct] := by rw [← hV5]; exact Ob.mk_ _ _ _
  have u_ : Up w12 V5 := by rw [← hV5]; exact (Up.refl _).alloc _
  rw [hV5]
  clear hV5
  replace U := U.trans u_
  clear u_
  obtain ⟨i0, i1, i2, i3, i4, i5⟩ := R.six
  clear R i0 i1 i2 i3 i5
  rcases HB.out with h | ⟨h, rfl, rfl, rfl⟩
  all_goals
    go_wp2_with fail
    go_ret
    exact ⟨rfl, U⟩
theorem prounds_walk (w : World) (L : Hid (Lp w)) (x0 : Int) (_wx0 : (Lit.int .i64 x0).wf = true) (x1 : Int) (_wx1 : (Lit.int .i64 x1).wf = true) (x2 : Bool) (A0 : Option Addr) (n0 c0 : Nat) (xs : List Nat) (h0 : Src w A0 n0 c0 xs) (x4 : Int) (_wx4 : (Lit.int .i64 x4).wf = true) :
    Calls Tryz.prog 5 #[.int .i64 x0, .int .i64 x1, .bool x2, .slice A0 n0 c0, .int .i64 x4] w (True10 w) := by
  cases x2
  · exact prounds_false w L x0 x1 A0 n0 c0 xs h0 x4
  · exact prounds_true w L x0 x1 A0 n0 c0 xs h0 x4
end Go.Proofs.YtbbjlcgfaigmdaaGreatDoor
