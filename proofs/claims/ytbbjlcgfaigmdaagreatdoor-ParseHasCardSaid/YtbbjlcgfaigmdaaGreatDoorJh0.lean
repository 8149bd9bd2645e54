/-
  A number as text, in one way or another.
-/
import Derived.Test.YtbbjlcgfaigmdaaGreatDoorJr0
namespace Go.Proofs.YtbbjlcgfaigmdaaGreatDoor
open Go.RowKit Go.Shelf
set_option linter.unusedSimpArgs false
set_option linter.unusedVariables false

set_option maxHeartbeats 4000000 in
set_option maxRecDepth 100000 in
theorem txt_ppt (w : World) (L : Hid (Lp w)) (m n : Nat) (hm : m < 18446744073709551616) (hn : n ≤ 3000) :
    ∃ S : ByteArray, S.size ≤ 3000 ∧ (∃ N, M.rs S.data.toList = (⟨1, false, N⟩, 0, 0) ∧ M.szn N = M.sz m (n : Int) 0) ∧ ∀ W, Up w W → Calls Tryz.prog 17 #[.bool false, u64 m, .int .i64 (n : Int), .bool true] W (Str S W) := by
  obtain ⟨D, hD⟩ : ∃ D, Lib.decDigits (m * 2 ^ n) = D := ⟨_, rfl⟩
  have hda := M.dd_all (m * 2 ^ n) (m * 2 ^ n) (Nat.le_refl _)
  have hp := M.has_pos hm hn
  have hdl : D.length ≤ 1000 := by rw [← hD]; exact M.dd_len (k := 999) (Nat.lt_of_lt_of_le (M.lt_two (K := 3000) hm hn) M.c_2a)
  rw [hD] at hda hp
  have HA := Lib.hid hda.1
  have HNE := Lib.hid hda.2.2.1
  have HSZ := Lib.hid hp.1
  have HLT := Lib.hid hp.2
  clear hda hp
  obtain ⟨S, hS⟩ : ∃ S : ByteArray, (⟨D.toArray⟩ : ByteArray) = S := ⟨_, rfl⟩
  have HS : Hid (S.data.toList = D) := by show _ = _; rw [← hS]
  have zS : S.size ≤ 1500 := by rw [size_of HS]; omega
  have HTX := Lib.hid (show (⟨(Lib.decDigits (m * 2 ^ n)).toArray⟩ : ByteArray) = S by rw [hD]; exact hS)
  clear hS
  obtain ⟨S1, hS1, HS1, zS1⟩ := cat_ex ⟨#[]⟩ S _ _ 1600 (show Hid (_ = []) from rfl) HS (by have : (⟨#[]⟩ : ByteArray).size = 0 := rfl; omega)
  have HSG : Hid (S1.data.toList = M.sg false ++ D) := HS1
  obtain ⟨X, hX, HX, zX⟩ := cat_ex S1 ⟨#[46, 48, 48]⟩ _ _ 1700 HSG (show Hid (_ = [46, 48, 48]) from rfl) (by have : (⟨#[46, 48, 48]⟩ : ByteArray).size = 3 := rfl; omega)
  have R : M.rs X.data.toList = (⟨1, false, M.num D 0⟩, 0, 0) := by
    rw [← M.txt_p false D HA.out HNE.out, HX.out]
    simp
  have WN : max 0 (min (n : Int) 131072) = (n : Int) := by omega
  refine ⟨X, by omega, ⟨_, R, HSZ.out⟩, fun w' uw => ?_⟩
  replace L := Lib.hid (L.out.up uw)
  clear uw
  have CO := Lib.hid (fun W => of_any W m hm)
  have CSH := Lib.hid (fun W lo v (h : Nw W lo 1 v m) => shl_any W lo 1 v m h (by decide) (n : Int) n WN)
  have CT := Lib.hid (fun W (P : Lp W) lo s v (h : Nw W lo s v (m * 2 ^ n)) (hs : s ≤ 100000000) => text_of W lo s v (m * 2 ^ n) h hs P.ten S HTX.out)
  have d0 : decide ((n : Int) ≥ 0) = true := decide_eq_true (by omega)
  have d1 : (n : Int) ≥ 0 := by omega
  clear R HSZ HLT HA HNE hD hdl HTX HS HS1 HSG HX WN hm
  have U := Up.refl w'
  go_enter Tryz.func17, Tryz.ntmps17
  go_wp2_with fail
  refine (CO.out _).mono ?_
  rintro _ w1 ⟨v1, rfl, N1, u_⟩
  replace U := U.trans u_
  clear u_ CO
  go_wp2_with fail
  refine (CSH.out _ _ _ N1.nw).mono ?_
  rintro _ w2 ⟨v2, rfl, N2, u_⟩
  replace U := U.trans u_
  clear u_ CSH N1
  go_wp2_with fail
  refine (CT.out _ (L.out.up U) _ _ _ N2.nw (by omega)).mono ?_
  rintro _ w3 ⟨rfl, u_⟩
  replace U := U.trans u_
  clear u_ CT N2
  go_wp2_with fail
  go_ret
  exact ⟨rfl, U⟩
set_option maxHeartbeats 4000000 in
set_option maxRecDepth 100000 in
theorem txt_ppf (w : World) (L : Hid (Lp w)) (m n : Nat) (hm : m < 18446744073709551616) (hn : n ≤ 3000) :
    ∃ S : ByteArray, S.size ≤ 3000 ∧ (∃ N, M.rs S.data.toList = (⟨1, false, N⟩, 0, 0) ∧ M.szn N = M.sz m (n : Int) 0) ∧ ∀ W, Up w W → Calls Tryz.prog 17 #[.bool false, u64 m, .int .i64 (n : Int), .bool false] W (Str S W) := by
  obtain ⟨D, hD⟩ : ∃ D, Lib.decDigits (m * 2 ^ n) = D := ⟨_, rfl⟩
  have hda := M.dd_all (m * 2 ^ n) (m * 2 ^ n) (Nat.le_refl _)
  have hp := M.has_pos hm hn
  have hdl : D.length ≤ 1000 := by rw [← hD]; exact M.dd_len (k := 999) (Nat.lt_of_lt_of_le (M.lt_two (K := 3000) hm hn) M.c_2a)
  rw [hD] at hda hp
  have HA := Lib.hid hda.1
  have HNE := Lib.hid hda.2.2.1
  have HSZ := Lib.hid hp.1
  have HLT := Lib.hid hp.2
  clear hda hp
  obtain ⟨S, hS⟩ : ∃ S : ByteArray, (⟨D.toArray⟩ : ByteArray) = S := ⟨_, rfl⟩
  have HS : Hid (S.data.toList = D) := by show _ = _; rw [← hS]
  have zS : S.size ≤ 1500 := by rw [size_of HS]; omega
  have HTX := Lib.hid (show (⟨(Lib.decDigits (m * 2 ^ n)).toArray⟩ : ByteArray) = S by rw [hD]; exact hS)
  clear hS
  obtain ⟨S1, hS1, HS1, zS1⟩ := cat_ex ⟨#[]⟩ S _ _ 1600 (show Hid (_ = []) from rfl) HS (by have : (⟨#[]⟩ : ByteArray).size = 0 := rfl; omega)
  have HSG : Hid (S1.data.toList = M.sg false ++ D) := HS1
  obtain ⟨X, hX, HX, zX⟩ := cat_ex S1 ⟨#[48, 101, 45, 49]⟩ _ _ 1700 HSG (show Hid (_ = [48, 101, 45, 49]) from rfl) (by have : (⟨#[48, 101, 45, 49]⟩ : ByteArray).size = 4 := rfl; omega)
  have R : M.rs X.data.toList = (⟨1, false, M.num D 0⟩, 0, 0) := by
    rw [← M.txt_q false D HA.out HNE.out, HX.out]
    simp
  have WN : max 0 (min (n : Int) 131072) = (n : Int) := by omega
  refine ⟨X, by omega, ⟨_, R, HSZ.out⟩, fun w' uw => ?_⟩
  replace L := Lib.hid (L.out.up uw)
  clear uw
  have CO := Lib.hid (fun W => of_any W m hm)
  have CSH := Lib.hid (fun W lo v (h : Nw W lo 1 v m) => shl_any W lo 1 v m h (by decide) (n : Int) n WN)
  have CT := Lib.hid (fun W (P : Lp W) lo s v (h : Nw W lo s v (m * 2 ^ n)) (hs : s ≤ 100000000) => text_of W lo s v (m * 2 ^ n) h hs P.ten S HTX.out)
  have d0 : decide ((n : Int) ≥ 0) = true := decide_eq_true (by omega)
  have d1 : (n : Int) ≥ 0 := by omega
  clear R HSZ HLT HA HNE hD hdl HTX HS HS1 HSG HX WN hm
  have U := Up.refl w'
  go_enter Tryz.func17, Tryz.ntmps17
  go_wp2_with fail
  refine (CO.out _).mono ?_
  rintro _ w1 ⟨v1, rfl, N1, u_⟩
  replace U := U.trans u_
  clear u_ CO
  go_wp2_with fail
  refine (CSH.out _ _ _ N1.nw).mono ?_
  rintro _ w2 ⟨v2, rfl, N2, u_⟩
  replace U := U.trans u_
  clear u_ CSH N1
  go_wp2_with fail
  refine (CT.out _ (L.out.up U) _ _ _ N2.nw (by omega)).mono ?_
  rintro _ w3 ⟨rfl, u_⟩
  replace U := U.trans u_
  clear u_ CT N2
  go_wp2_with fail
  go_ret
  exact ⟨rfl, U⟩
set_option maxHeartbeats 4000000 in
set_option maxRecDepth 100000 in
theorem txt_pmt (w : World) (L : Hid (Lp w)) (m n : Nat) (hm : m < 18446744073709551616) (hn : n ≤ 2000 ∧ 0 < n) :
    ∃ S : ByteArray, S.size ≤ 3000 ∧ (∃ N, M.rs S.data.toList = (⟨1, false, N⟩, 0, 0) ∧ M.szn N = M.sz m (-(n : Int)) 0) ∧ ∀ W, Up w W → Calls Tryz.prog 17 #[.bool false, u64 m, .int .i64 (-(n : Int)), .bool true] W (Str S W) := by
  obtain ⟨D, hD⟩ : ∃ D, Lib.decDigits (m * 5 ^ n) = D := ⟨_, rfl⟩
  have hda := M.dd_all (m * 5 ^ n) (m * 5 ^ n) (Nat.le_refl _)
  have hp := M.has_neg hm hn.1
  have hdl : D.length ≤ 1500 := by rw [← hD]; exact M.dd_len (k := 1499) (Nat.lt_of_lt_of_le (M.lt_five (K := 2000) hm hn.1) M.c_5a)
  rw [hD] at hda hp
  have HA := Lib.hid hda.1
  have HNE := Lib.hid hda.2.2.1
  have HSZ := Lib.hid hp.1
  have HLT := Lib.hid hp.2
  clear hda hp
  obtain ⟨S, hS⟩ : ∃ S : ByteArray, (⟨D.toArray⟩ : ByteArray) = S := ⟨_, rfl⟩
  have HS : Hid (S.data.toList = D) := by show _ = _; rw [← hS]
  have zS : S.size ≤ 1500 := by rw [size_of HS]; omega
  have HTX := Lib.hid (show (⟨(Lib.decDigits (m * 5 ^ n)).toArray⟩ : ByteArray) = S by rw [hD]; exact hS)
  clear hS
  obtain ⟨S1, hS1, HS1, zS1⟩ := cat_ex ⟨#[]⟩ S _ _ 1600 (show Hid (_ = []) from rfl) HS (by have : (⟨#[]⟩ : ByteArray).size = 0 := rfl; omega)
  have HSG : Hid (S1.data.toList = M.sg false ++ D) := HS1
  obtain ⟨X0, hX0, HX0, zX0⟩ := cat_ex S1 ⟨#[101]⟩ _ _ 1700 HSG (show Hid (_ = [101]) from rfl) (by have : (⟨#[101]⟩ : ByteArray).size = 1 := rfl; omega)
  obtain ⟨Na, hNa⟩ : ∃ N : ByteArray, (⟨(M.nt (-(n : Int))).toArray⟩ : ByteArray) = N := ⟨_, rfl⟩
  have HNa : Hid (Na.data.toList = M.nt (-(n : Int))) := by show _ = _; rw [← hNa]
  have zNa : Na.size ≤ 20 := by rw [size_of HNa]; exact M.nt_len _ (by omega)
  have hNNa := Lib.hid hNa
  clear hNa
  obtain ⟨X, hX, HX, zX⟩ := cat_ex X0 Na _ _ 1800 HX0 HNa (by omega)
  have R : M.rs X.data.toList = (⟨1, false, M.num D (-(n : Int))⟩, 0, 0) := by
    rw [← M.txt_e false D HA.out HNE.out (-(n : Int)), HX.out]
    simp
  have WN : max 0 (min (n : Int) 10000) = (n : Int) := by omega
  refine ⟨X, by omega, ⟨_, R, HSZ.out⟩, fun w' uw => ?_⟩
  replace L := Lib.hid (L.out.up uw)
  clear uw
  have CO := Lib.hid (fun W => of_any W m hm)
  have CPW := Lib.hid (fun W => show Calls Tryz.prog 42 #[.int .u64 5, .int .i64 (n : Int)] W (Res (n + 1) (5 ^ n) W) from pow_any W 5 n (n : Int) (by decide) WN)
  have CML := Lib.hid (fun W lo lo' v v' (h : Nw W lo 1 v m) (h' : Nw W lo' (n + 1) v' (5 ^ n)) => mul_any W lo lo' 1 (n + 1) v v' m (5 ^ n) h h' (by decide) (by omega))
  have CT := Lib.hid (fun W (P : Lp W) lo s v (h : Nw W lo s v (m * 5 ^ n)) (hs : s ≤ 100000000) => text_of W lo s v (m * 5 ^ n) h hs P.ten S HTX.out)
  have CNa := Lib.hid (fun W (P : Lp W) => numtext10_any W (Lib.hid P.ten) (-(n : Int)) (by omega) Na hNNa)
  obtain ⟨z, hz⟩ : ∃ z : Int, -(n : Int) = z := ⟨_, rfl⟩
  have wz : IntKind.i64.wrap (-z) = (n : Int) := by rw [← hz, Int.neg_neg]; exact IntWalk.i64_in _ (by omega)
  have d0 : decide (z ≥ 0) = false := decide_eq_false (by omega)
  have d1 : ¬ z ≥ 0 := by omega
  have w3 : IntKind.i64.wrap (z - 3) = z - 3 := IntWalk.i64_in _ (by omega)
  rw [hz] at CNa ⊢
  have hsz : n + 1 + 1 ≤ 100000000 := by omega
  clear R HSZ HLT HA HNE hD hdl HTX HS HS1 HSG HX HX0 WN hm hNNa HNa hz
  have U := Up.refl w'
  go_enter Tryz.func17, Tryz.ntmps17
  go_wp2_with fail
  refine (CO.out _).mono ?_
  rintro _ w1 ⟨v1, rfl, N1, u_⟩
  replace U := U.trans u_
  clear u_ CO
  go_wp2_with fail
  refine (CPW.out _).mono ?_
  rintro _ w2 ⟨v2, rfl, N2, u_⟩
  replace U := U.trans u_
  replace N1 := N1.up u_
  clear u_ CPW
  go_wp2_with fail
  refine (CML.out _ _ _ _ _ N1.nw N2.nw).mono ?_
  rintro _ w3_ ⟨v3, rfl, N3, u_⟩
  replace U := U.trans u_
  clear u_ CML N1 N2
  go_wp2_with fail
  refine (CT.out _ (L.out.up U) _ _ _ N3.nw (by omega)).mono ?_
  rintro _ w4 ⟨rfl, u_⟩
  replace U := U.trans u_
  clear u_ CT N3
  go_wp2_with fail
  refine (CNa.out _ (L.out.up U)).mono ?_
  rintro _ w5 ⟨rfl, u_⟩
  replace U := U.trans u_
  clear u_ CNa
  go_wp2_with fail
  go_ret
  exact ⟨rfl, U⟩
set_option maxHeartbeats 4000000 in
set_option maxRecDepth 100000 in
theorem txt_pmf (w : World) (L : Hid (Lp w)) (m n : Nat) (hm : m < 18446744073709551616) (hn : n ≤ 2000 ∧ 0 < n) :
    ∃ S : ByteArray, S.size ≤ 3000 ∧ (∃ N, M.rs S.data.toList = (⟨1, false, N⟩, 0, 0) ∧ M.szn N = M.sz m (-(n : Int)) 0) ∧ ∀ W, Up w W → Calls Tryz.prog 17 #[.bool false, u64 m, .int .i64 (-(n : Int)), .bool false] W (Str S W) := by
  obtain ⟨D, hD⟩ : ∃ D, Lib.decDigits (m * 5 ^ n) = D := ⟨_, rfl⟩
  have hda := M.dd_all (m * 5 ^ n) (m * 5 ^ n) (Nat.le_refl _)
  have hp := M.has_neg hm hn.1
  have hdl : D.length ≤ 1500 := by rw [← hD]; exact M.dd_len (k := 1499) (Nat.lt_of_lt_of_le (M.lt_five (K := 2000) hm hn.1) M.c_5a)
  rw [hD] at hda hp
  have HA := Lib.hid hda.1
  have HNE := Lib.hid hda.2.2.1
  have HSZ := Lib.hid hp.1
  have HLT := Lib.hid hp.2
  clear hda hp
  obtain ⟨S, hS⟩ : ∃ S : ByteArray, (⟨D.toArray⟩ : ByteArray) = S := ⟨_, rfl⟩
  have HS : Hid (S.data.toList = D) := by show _ = _; rw [← hS]
  have zS : S.size ≤ 1500 := by rw [size_of HS]; omega
  have HTX := Lib.hid (show (⟨(Lib.decDigits (m * 5 ^ n)).toArray⟩ : ByteArray) = S by rw [hD]; exact hS)
  clear hS
  obtain ⟨S1, hS1, HS1, zS1⟩ := cat_ex ⟨#[]⟩ S _ _ 1600 (show Hid (_ = []) from rfl) HS (by have : (⟨#[]⟩ : ByteArray).size = 0 := rfl; omega)
  have HSG : Hid (S1.data.toList = M.sg false ++ D) := HS1
  obtain ⟨X0, hX0, HX0, zX0⟩ := cat_ex S1 ⟨#[48, 48, 48, 101]⟩ _ _ 1700 HSG (show Hid (_ = [48, 48, 48, 101]) from rfl) (by have : (⟨#[48, 48, 48, 101]⟩ : ByteArray).size = 4 := rfl; omega)
  obtain ⟨Na, hNa⟩ : ∃ N : ByteArray, (⟨(M.nt (-(n : Int) - 3)).toArray⟩ : ByteArray) = N := ⟨_, rfl⟩
  have HNa : Hid (Na.data.toList = M.nt (-(n : Int) - 3)) := by show _ = _; rw [← hNa]
  have zNa : Na.size ≤ 20 := by rw [size_of HNa]; exact M.nt_len _ (by omega)
  have hNNa := Lib.hid hNa
  clear hNa
  obtain ⟨X, hX, HX, zX⟩ := cat_ex X0 Na _ _ 1800 HX0 HNa (by omega)
  have R : M.rs X.data.toList = (⟨1, false, M.num D (-(n : Int))⟩, 0, 0) := by
    rw [← M.txt_e3 false D HA.out HNE.out 101 (.inl rfl) (-(n : Int)), HX.out]
    simp
  have WN : max 0 (min (n : Int) 10000) = (n : Int) := by omega
  refine ⟨X, by omega, ⟨_, R, HSZ.out⟩, fun w' uw => ?_⟩
  replace L := Lib.hid (L.out.up uw)
  clear uw
  have CO := Lib.hid (fun W => of_any W m hm)
  have CPW := Lib.hid (fun W => show Calls Tryz.prog 42 #[.int .u64 5, .int .i64 (n : Int)] W (Res (n + 1) (5 ^ n) W) from pow_any W 5 n (n : Int) (by decide) WN)
  have CML := Lib.hid (fun W lo lo' v v' (h : Nw W lo 1 v m) (h' : Nw W lo' (n + 1) v' (5 ^ n)) => mul_any W lo lo' 1 (n + 1) v v' m (5 ^ n) h h' (by decide) (by omega))
  have CT := Lib.hid (fun W (P : Lp W) lo s v (h : Nw W lo s v (m * 5 ^ n)) (hs : s ≤ 100000000) => text_of W lo s v (m * 5 ^ n) h hs P.ten S HTX.out)
  have CNa := Lib.hid (fun W (P : Lp W) => numtext10_any W (Lib.hid P.ten) (-(n : Int) - 3) (by omega) Na hNNa)
  obtain ⟨z, hz⟩ : ∃ z : Int, -(n : Int) = z := ⟨_, rfl⟩
  have wz : IntKind.i64.wrap (-z) = (n : Int) := by rw [← hz, Int.neg_neg]; exact IntWalk.i64_in _ (by omega)
  have d0 : decide (z ≥ 0) = false := decide_eq_false (by omega)
  have d1 : ¬ z ≥ 0 := by omega
  have w3 : IntKind.i64.wrap (z - 3) = z - 3 := IntWalk.i64_in _ (by omega)
  rw [hz] at CNa ⊢
  have hsz : n + 1 + 1 ≤ 100000000 := by omega
  clear R HSZ HLT HA HNE hD hdl HTX HS HS1 HSG HX HX0 WN hm hNNa HNa hz
  have U := Up.refl w'
  go_enter Tryz.func17, Tryz.ntmps17
  go_wp2_with fail
  refine (CO.out _).mono ?_
  rintro _ w1 ⟨v1, rfl, N1, u_⟩
  replace U := U.trans u_
  clear u_ CO
  go_wp2_with fail
  refine (CPW.out _).mono ?_
  rintro _ w2 ⟨v2, rfl, N2, u_⟩
  replace U := U.trans u_
  replace N1 := N1.up u_
  clear u_ CPW
  go_wp2_with fail
  refine (CML.out _ _ _ _ _ N1.nw N2.nw).mono ?_
  rintro _ w3_ ⟨v3, rfl, N3, u_⟩
  replace U := U.trans u_
  clear u_ CML N1 N2
  go_wp2_with fail
  refine (CT.out _ (L.out.up U) _ _ _ N3.nw (by omega)).mono ?_
  rintro _ w4 ⟨rfl, u_⟩
  replace U := U.trans u_
  clear u_ CT N3
  go_wp2_with fail
  refine (CNa.out _ (L.out.up U)).mono ?_
  rintro _ w5 ⟨rfl, u_⟩
  replace U := U.trans u_
  clear u_ CNa
  go_wp2_with fail
  go_ret
  exact ⟨rfl, U⟩
set_option maxHeartbeats 4000000 in
set_option maxRecDepth 100000 in
theorem txt_npt (w : World) (L : Hid (Lp w)) (m n : Nat) (hm : m < 18446744073709551616) (hn : n ≤ 3000) :
    ∃ S : ByteArray, S.size ≤ 3000 ∧ (∃ N, M.rs S.data.toList = (⟨1, true, N⟩, 0, 0) ∧ M.szn N = M.sz m (n : Int) 0) ∧ ∀ W, Up w W → Calls Tryz.prog 17 #[.bool true, u64 m, .int .i64 (n : Int), .bool true] W (Str S W) := by
  obtain ⟨D, hD⟩ : ∃ D, Lib.decDigits (m * 2 ^ n) = D := ⟨_, rfl⟩
  have hda := M.dd_all (m * 2 ^ n) (m * 2 ^ n) (Nat.le_refl _)
  have hp := M.has_pos hm hn
  have hdl : D.length ≤ 1000 := by rw [← hD]; exact M.dd_len (k := 999) (Nat.lt_of_lt_of_le (M.lt_two (K := 3000) hm hn) M.c_2a)
  rw [hD] at hda hp
  have HA := Lib.hid hda.1
  have HNE := Lib.hid hda.2.2.1
  have HSZ := Lib.hid hp.1
  have HLT := Lib.hid hp.2
  clear hda hp
  obtain ⟨S, hS⟩ : ∃ S : ByteArray, (⟨D.toArray⟩ : ByteArray) = S := ⟨_, rfl⟩
  have HS : Hid (S.data.toList = D) := by show _ = _; rw [← hS]
  have zS : S.size ≤ 1500 := by rw [size_of HS]; omega
  have HTX := Lib.hid (show (⟨(Lib.decDigits (m * 2 ^ n)).toArray⟩ : ByteArray) = S by rw [hD]; exact hS)
  clear hS
  obtain ⟨S1, hS1, HS1, zS1⟩ := cat_ex ⟨#[45]⟩ S _ _ 1600 (show Hid (_ = [45]) from rfl) HS (by have : (⟨#[45]⟩ : ByteArray).size = 1 := rfl; omega)
  have HSG : Hid (S1.data.toList = M.sg true ++ D) := HS1
  obtain ⟨X, hX, HX, zX⟩ := cat_ex S1 ⟨#[46, 48, 48]⟩ _ _ 1700 HSG (show Hid (_ = [46, 48, 48]) from rfl) (by have : (⟨#[46, 48, 48]⟩ : ByteArray).size = 3 := rfl; omega)
  have R : M.rs X.data.toList = (⟨1, true, M.num D 0⟩, 0, 0) := by
    rw [← M.txt_p true D HA.out HNE.out, HX.out]
    simp
  have WN : max 0 (min (n : Int) 131072) = (n : Int) := by omega
  refine ⟨X, by omega, ⟨_, R, HSZ.out⟩, fun w' uw => ?_⟩
  replace L := Lib.hid (L.out.up uw)
  clear uw
  have CO := Lib.hid (fun W => of_any W m hm)
  have CSH := Lib.hid (fun W lo v (h : Nw W lo 1 v m) => shl_any W lo 1 v m h (by decide) (n : Int) n WN)
  have CT := Lib.hid (fun W (P : Lp W) lo s v (h : Nw W lo s v (m * 2 ^ n)) (hs : s ≤ 100000000) => text_of W lo s v (m * 2 ^ n) h hs P.ten S HTX.out)
  have d0 : decide ((n : Int) ≥ 0) = true := decide_eq_true (by omega)
  have d1 : (n : Int) ≥ 0 := by omega
  clear R HSZ HLT HA HNE hD hdl HTX HS HS1 HSG HX WN hm
  have U := Up.refl w'
  go_enter Tryz.func17, Tryz.ntmps17
  go_wp2_with fail
  refine (CO.out _).mono ?_
  rintro _ w1 ⟨v1, rfl, N1, u_⟩
  replace U := U.trans u_
  clear u_ CO
  go_wp2_with fail
  refine (CSH.out _ _ _ N1.nw).mono ?_
  rintro _ w2 ⟨v2, rfl, N2, u_⟩
  replace U := U.trans u_
  clear u_ CSH N1
  go_wp2_with fail
  refine (CT.out _ (L.out.up U) _ _ _ N2.nw (by omega)).mono ?_
  rintro _ w3 ⟨rfl, u_⟩
  replace U := U.trans u_
  clear u_ CT N2
  go_wp2_with fail
  go_ret
  exact ⟨rfl, U⟩
set_option maxHeartbeats 4000000 in
set_option maxRecDepth 100000 in
theorem txt_npf (w : World) (L : Hid (Lp w)) (m n : Nat) (hm : m < 18446744073709551616) (hn : n ≤ 3000) :
    ∃ S : ByteArray, S.size ≤ 3000 ∧ (∃ N, M.rs S.data.toList = (⟨1, true, N⟩, 0, 0) ∧ M.szn N = M.sz m (n : Int) 0) ∧ ∀ W, Up w W → Calls Tryz.prog 17 #[.bool true, u64 m, .int .i64 (n : Int), .bool false] W (Str S W) := by
  obtain ⟨D, hD⟩ : ∃ D, Lib.decDigits (m * 2 ^ n) = D := ⟨_, rfl⟩
  have hda := M.dd_all (m * 2 ^ n) (m * 2 ^ n) (Nat.le_refl _)
  have hp := M.has_pos hm hn
  have hdl : D.length ≤ 1000 := by rw [← hD]; exact M.dd_len (k := 999) (Nat.lt_of_lt_of_le (M.lt_two (K := 3000) hm hn) M.c_2a)
  rw [hD] at hda hp
  have HA := Lib.hid hda.1
  have HNE := Lib.hid hda.2.2.1
  have HSZ := Lib.hid hp.1
  have HLT := Lib.hid hp.2
  clear hda hp
  obtain ⟨S, hS⟩ : ∃ S : ByteArray, (⟨D.toArray⟩ : ByteArray) = S := ⟨_, rfl⟩
  have HS : Hid (S.data.toList = D) := by show _ = _; rw [← hS]
  have zS : S.size ≤ 1500 := by rw [size_of HS]; omega
  have HTX := Lib.hid (show (⟨(Lib.decDigits (m * 2 ^ n)).toArray⟩ : ByteArray) = S by rw [hD]; exact hS)
  clear hS
  obtain ⟨S1, hS1, HS1, zS1⟩ := cat_ex ⟨#[45]⟩ S _ _ 1600 (show Hid (_ = [45]) from rfl) HS (by have : (⟨#[45]⟩ : ByteArray).size = 1 := rfl; omega)
  have HSG : Hid (S1.data.toList = M.sg true ++ D) := HS1
  obtain ⟨X, hX, HX, zX⟩ := cat_ex S1 ⟨#[48, 101, 45, 49]⟩ _ _ 1700 HSG (show Hid (_ = [48, 101, 45, 49]) from rfl) (by have : (⟨#[48, 101, 45, 49]⟩ : ByteArray).size = 4 := rfl; omega)
  have R : M.rs X.data.toList = (⟨1, true, M.num D 0⟩, 0, 0) := by
    rw [← M.txt_q true D HA.out HNE.out, HX.out]
    simp
  have WN : max 0 (min (n : Int) 131072) = (n : Int) := by omega
  refine ⟨X, by omega, ⟨_, R, HSZ.out⟩, fun w' uw => ?_⟩
  replace L := Lib.hid (L.out.up uw)
  clear uw
  have CO := Lib.hid (fun W => of_any W m hm)
  have CSH := Lib.hid (fun W lo v (h : Nw W lo 1 v m) => shl_any W lo 1 v m h (by decide) (n : Int) n WN)
  have CT := Lib.hid (fun W (P : Lp W) lo s v (h : Nw W lo s v (m * 2 ^ n)) (hs : s ≤ 100000000) => text_of W lo s v (m * 2 ^ n) h hs P.ten S HTX.out)
  have d0 : decide ((n : Int) ≥ 0) = true := decide_eq_true (by omega)
  have d1 : (n : Int) ≥ 0 := by omega
  clear R HSZ HLT HA HNE hD hdl HTX HS HS1 HSG HX WN hm
  have U := Up.refl w'
  go_enter Tryz.func17, Tryz.ntmps17
  go_wp2_with fail
  refine (CO.out _).mono ?_
  rintro _ w1 ⟨v1, rfl, N1, u_⟩
  replace U := U.trans u_
  clear u_ CO
  go_wp2_with fail
  refine (CSH.out _ _ _ N1.nw).mono ?_
  rintro _ w2 ⟨v2, rfl, N2, u_⟩
  replace U := U.trans u_
  clear u_ CSH N1
  go_wp2_with fail
  refine (CT.out _ (L.out.up U) _ _ _ N2.nw (by omega)).mono ?_
  rintro _ w3 ⟨rfl, u_⟩
  replace U := U.trans u_
  clear u_ CT N2
  go_wp2_with fail
  go_ret
  exact ⟨rfl, U⟩
set_option maxHeartbeats 4000000 in
set_option maxRecDepth 100000 in
theorem txt_nmt (w : World) (L : Hid (Lp w)) (m n : Nat) (hm : m < 18446744073709551616) (hn : n ≤ 2000 ∧ 0 < n) :
    ∃ S : ByteArray, S.size ≤ 3000 ∧ (∃ N, M.rs S.data.toList = (⟨1, true, N⟩, 0, 0) ∧ M.szn N = M.sz m (-(n : Int)) 0) ∧ ∀ W, Up w W → Calls Tryz.prog 17 #[.bool true, u64 m, .int .i64 (-(n : Int)), .bool true] W (Str S W) := by
  obtain ⟨D, hD⟩ : ∃ D, Lib.decDigits (m * 5 ^ n) = D := ⟨_, rfl⟩
  have hda := M.dd_all (m * 5 ^ n) (m * 5 ^ n) (Nat.le_refl _)
  have hp := M.has_neg hm hn.1
  have hdl : D.length ≤ 1500 := by rw [← hD]; exact M.dd_len (k := 1499) (Nat.lt_of_lt_of_le (M.lt_five (K := 2000) hm hn.1) M.c_5a)
  rw [hD] at hda hp
  have HA := Lib.hid hda.1
  have HNE := Lib.hid hda.2.2.1
  have HSZ := Lib.hid hp.1
  have HLT := Lib.hid hp.2
  clear hda hp
  obtain ⟨S, hS⟩ : ∃ S : ByteArray, (⟨D.toArray⟩ : ByteArray) = S := ⟨_, rfl⟩
  have HS : Hid (S.data.toList = D) := by show _ = _; rw [← hS]
  have zS : S.size ≤ 1500 := by rw [size_of HS]; omega
  have HTX := Lib.hid (show (⟨(Lib.decDigits (m * 5 ^ n)).toArray⟩ : ByteArray) = S by rw [hD]; exact hS)
  clear hS
  obtain ⟨S1, hS1, HS1, zS1⟩ := cat_ex ⟨#[45]⟩ S _ _ 1600 (show Hid (_ = [45]) from rfl) HS (by have : (⟨#[45]⟩ : ByteArray).size = 1 := rfl; omega)
  have HSG : Hid (S1.data.toList = M.sg true ++ D) := HS1
  obtain ⟨X0, hX0, HX0, zX0⟩ := cat_ex S1 ⟨#[101]⟩ _ _ 1700 HSG (show Hid (_ = [101]) from rfl) (by have : (⟨#[101]⟩ : ByteArray).size = 1 := rfl; omega)
  obtain ⟨Na, hNa⟩ : ∃ N : ByteArray, (⟨(M.nt (-(n : Int))).toArray⟩ : ByteArray) = N := ⟨_, rfl⟩
  have HNa : Hid (Na.data.toList = M.nt (-(n : Int))) := by show _ = _; rw [← hNa]
  have zNa : Na.size ≤ 20 := by rw [size_of HNa]; exact M.nt_len _ (by omega)
  have hNNa := Lib.hid hNa
  clear hNa
  obtain ⟨X, hX, HX, zX⟩ := cat_ex X0 Na _ _ 1800 HX0 HNa (by omega)
  have R : M.rs X.data.toList = (⟨1, true, M.num D (-(n : Int))⟩, 0, 0) := by
    rw [← M.txt_e true D HA.out HNE.out (-(n : Int)), HX.out]
    simp
  have WN : max 0 (min (n : Int) 10000) = (n : Int) := by omega
  refine ⟨X, by omega, ⟨_, R, HSZ.out⟩, fun w' uw => ?_⟩
  replace L := Lib.hid (L.out.up uw)
  clear uw
  have CO := Lib.hid (fun W => of_any W m hm)
  have CPW := Lib.hid (fun W => show Calls Tryz.prog 42 #[.int .u64 5, .int .i64 (n : Int)] W (Res (n + 1) (5 ^ n) W) from pow_any W 5 n (n : Int) (by decide) WN)
  have CML := Lib.hid (fun W lo lo' v v' (h : Nw W lo 1 v m) (h' : Nw W lo' (n + 1) v' (5 ^ n)) => mul_any W lo lo' 1 (n + 1) v v' m (5 ^ n) h h' (by decide) (by omega))
  have CT := Lib.hid (fun W (P : Lp W) lo s v (h : Nw W lo s v (m * 5 ^ n)) (hs : s ≤ 100000000) => text_of W lo s v (m * 5 ^ n) h hs P.ten S HTX.out)
  have CNa := Lib.hid (fun W (P : Lp W) => numtext10_any W (Lib.hid P.ten) (-(n : Int)) (by omega) Na hNNa)
  obtain ⟨z, hz⟩ : ∃ z : Int, -(n : Int) = z := ⟨_, rfl⟩
  have wz : IntKind.i64.wrap (-z) = (n : Int) := by rw [← hz, Int.neg_neg]; exact IntWalk.i64_in _ (by omega)
  have d0 : decide (z ≥ 0) = false := decide_eq_false (by omega)
  have d1 : ¬ z ≥ 0 := by omega
  have w3 : IntKind.i64.wrap (z - 3) = z - 3 := IntWalk.i64_in _ (by omega)
  rw [hz] at CNa ⊢
  have hsz : n + 1 + 1 ≤ 100000000 := by omega
  clear R HSZ HLT HA HNE hD hdl HTX HS HS1 HSG HX HX0 WN hm hNNa HNa hz
  have U := Up.refl w'
  go_enter Tryz.func17, Tryz.ntmps17
  go_wp2_with fail
  refine (CO.out _).mono ?_
  rintro _ w1 ⟨v1, rfl, N1, u_⟩
  replace U := U.trans u_
  clear u_ CO
  go_wp2_with fail
  refine (CPW.out _).mono ?_
  rintro _ w2 ⟨v2, rfl, N2, u_⟩
  replace U := U.trans u_
  replace N1 := N1.up u_
  clear u_ CPW
  go_wp2_with fail
  refine (CML.out _ _ _ _ _ N1.nw N2.nw).mono ?_
  rintro _ w3_ ⟨v3, rfl, N3, u_⟩
  replace U := U.trans u_
  clear u_ CML N1 N2
  go_wp2_with fail
  refine (CT.out _ (L.out.up U) _ _ _ N3.nw (by omega)).mono ?_
  rintro _ w4 ⟨rfl, u_⟩
  replace U := U.trans u_
  clear u_ CT N3
  go_wp2_with fail
  refine (CNa.out _ (L.out.up U)).mono ?_
  rintro _ w5 ⟨rfl, u_⟩
  replace U := U.trans u_
  clear u_ CNa
  go_wp2_with fail
  go_ret
  exact ⟨rfl, U⟩
set_option maxHeartbeats 4000000 in
set_option maxRecDepth 100000 in
theorem txt_nmf (w : World) (L : Hid (Lp w)) (m n : Nat) (hm : m < 18446744073709551616) (hn : n ≤ 2000 ∧ 0 < n) :
    ∃ S : ByteArray, S.size ≤ 3000 ∧ (∃ N, M.rs S.data.toList = (⟨1, true, N⟩, 0, 0) ∧ M.szn N = M.sz m (-(n : Int)) 0) ∧ ∀ W, Up w W → Calls Tryz.prog 17 #[.bool true, u64 m, .int .i64 (-(n : Int)), .bool false] W (Str S W) := by
  obtain ⟨D, hD⟩ : ∃ D, Lib.decDigits (m * 5 ^ n) = D := ⟨_, rfl⟩
  have hda := M.dd_all (m * 5 ^ n) (m * 5 ^ n) (Nat.le_refl _)
  have hp := M.has_neg hm hn.1
  have hdl : D.length ≤ 1500 := by rw [← hD]; exact M.dd_len (k := 1499) (Nat.lt_of_lt_of_le (M.lt_five (K := 2000) hm hn.1) M.c_5a)
  rw [hD] at hda hp
  have HA := Lib.hid hda.1
  have HNE := Lib.hid hda.2.2.1
  have HSZ := Lib.hid hp.1
  have HLT := Lib.hid hp.2
  clear hda hp
  obtain ⟨S, hS⟩ : ∃ S : ByteArray, (⟨D.toArray⟩ : ByteArray) = S := ⟨_, rfl⟩
  have HS : Hid (S.data.toList = D) := by show _ = _; rw [← hS]
  have zS : S.size ≤ 1500 := by rw [size_of HS]; omega
  have HTX := Lib.hid (show (⟨(Lib.decDigits (m * 5 ^ n)).toArray⟩ : ByteArray) = S by rw [hD]; exact hS)
  clear hS
  obtain ⟨S1, hS1, HS1, zS1⟩ := cat_ex ⟨#[45]⟩ S _ _ 1600 (show Hid (_ = [45]) from rfl) HS (by have : (⟨#[45]⟩ : ByteArray).size = 1 := rfl; omega)
  have HSG : Hid (S1.data.toList = M.sg true ++ D) := HS1
  obtain ⟨X0, hX0, HX0, zX0⟩ := cat_ex S1 ⟨#[48, 48, 48, 101]⟩ _ _ 1700 HSG (show Hid (_ = [48, 48, 48, 101]) from rfl) (by have : (⟨#[48, 48, 48, 101]⟩ : ByteArray).size = 4 := rfl; omega)
  obtain ⟨Na, hNa⟩ : ∃ N : ByteArray, (⟨(M.nt (-(n : Int) - 3)).toArray⟩ : ByteArray) = N := ⟨_, rfl⟩
  have HNa : Hid (Na.data.toList = M.nt (-(n : Int) - 3)) := by show _ = _; rw [← hNa]
  have zNa : Na.size ≤ 20 := by rw [size_of HNa]; exact M.nt_len _ (by omega)
  have hNNa := Lib.hid hNa
  clear hNa
  obtain ⟨X, hX, HX, zX⟩ := cat_ex X0 Na _ _ 1800 HX0 HNa (by omega)
  have R : M.rs X.data.toList = (⟨1, true, M.num D (-(n : Int))⟩, 0, 0) := by
    rw [← M.txt_e3 true D HA.out HNE.out 101 (.inl rfl) (-(n : Int)), HX.out]
    simp
  have WN : max 0 (min (n : Int) 10000) = (n : Int) := by omega
  refine ⟨X, by omega, ⟨_, R, HSZ.out⟩, fun w' uw => ?_⟩
  replace L := Lib.hid (L.out.up uw)
  clear uw
  have CO := Lib.hid (fun W => of_any W m hm)
  have CPW := Lib.hid (fun W => show Calls Tryz.prog 42 #[.int .u64 5, .int .i64 (n : Int)] W (Res (n + 1) (5 ^ n) W) from pow_any W 5 n (n : Int) (by decide) WN)
  have CML := Lib.hid (fun W lo lo' v v' (h : Nw W lo 1 v m) (h' : Nw W lo' (n + 1) v' (5 ^ n)) => mul_any W lo lo' 1 (n + 1) v v' m (5 ^ n) h h' (by decide) (by omega))
  have CT := Lib.hid (fun W (P : Lp W) lo s v (h : Nw W lo s v (m * 5 ^ n)) (hs : s ≤ 100000000) => text_of W lo s v (m * 5 ^ n) h hs P.ten S HTX.out)
  have CNa := Lib.hid (fun W (P : Lp W) => numtext10_any W (Lib.hid P.ten) (-(n : Int) - 3) (by omega) Na hNNa)
  obtain ⟨z, hz⟩ : ∃ z : Int, -(n : Int) = z := ⟨_, rfl⟩
  have wz : IntKind.i64.wrap (-z) = (n : Int) := by rw [← hz, Int.neg_neg]; exact IntWalk.i64_in _ (by omega)
  have d0 : decide (z ≥ 0) = false := decide_eq_false (by omega)
  have d1 : ¬ z ≥ 0 := by omega
  have w3 : IntKind.i64.wrap (z - 3) = z - 3 := IntWalk.i64_in _ (by omega)
  rw [hz] at CNa ⊢
  have hsz : n + 1 + 1 ≤ 100000000 := by omega
  clear R HSZ HLT HA HNE hD hdl HTX HS HS1 HSG HX HX0 WN hm hNNa HNa hz
  have U := Up.refl w'
  go_enter Tryz.func17, Tryz.ntmps17
  go_wp2_with fail
  refine (CO.out _).mono ?_
  rintro _ w1 ⟨v1, rfl, N1, u_⟩
  replace U := U.trans u_
  clear u_ CO
  go_wp2_with fail
  refine (CPW.out _).mono ?_
  rintro _ w2 ⟨v2, rfl, N2, u_⟩
  replace U := U.trans u_
  replace N1 := N1.up u_
  clear u_ CPW
  go_wp2_with fail
  refine (CML.out _ _ _ _ _ N1.nw N2.nw).mono ?_
  rintro _ w3_ ⟨v3, rfl, N3, u_⟩
  replace U := U.trans u_
  clear u_ CML N1 N2
  go_wp2_with fail
  refine (CT.out _ (L.out.up U) _ _ _ N3.nw (by omega)).mono ?_
  rintro _ w4 ⟨rfl, u_⟩
  replace U := U.trans u_
  clear u_ CT N3
  go_wp2_with fail
  refine (CNa.out _ (L.out.up U)).mono ?_
  rintro _ w5 ⟨rfl, u_⟩
  replace U := U.trans u_
  clear u_ CNa
  go_wp2_with fail
  go_ret
  exact ⟨rfl, U⟩
theorem text10_any (w : World) (L : Hid (Lp w)) (neg how : Bool) (m : Nat) (z : Int) (hm : m < 18446744073709551616) (hz : -2000 ≤ z ∧ z ≤ 3000) :
    ∃ S : ByteArray, S.size ≤ 3000 ∧ (∃ N, M.rs S.data.toList = (⟨1, neg, N⟩, 0, 0) ∧ M.szn N = M.sz m z 0) ∧ ∀ W, Up w W → Calls Tryz.prog 17 #[.bool neg, u64 m, .int .i64 z, .bool how] W (Str S W) := by
  rcases Int.le_total 0 z with h | h
  · obtain ⟨n, rfl⟩ := Int.eq_ofNat_of_zero_le h
    have hn : n ≤ 3000 := by omega
    cases neg <;> cases how
    · exact txt_ppf w L m n hm hn
    · exact txt_ppt w L m n hm hn
    · exact txt_npf w L m n hm hn
    · exact txt_npt w L m n hm hn
  · by_cases z0 : z = 0
    · subst z0
      cases neg <;> cases how
      · exact txt_ppf w L m 0 hm (by decide)
      · exact txt_ppt w L m 0 hm (by decide)
      · exact txt_npf w L m 0 hm (by decide)
      · exact txt_npt w L m 0 hm (by decide)
    · obtain ⟨n, hn⟩ : ∃ n : Nat, z = -(n : Int) := ⟨z.natAbs, by omega⟩
      subst hn
      have hn : n ≤ 2000 ∧ 0 < n := by omega
      cases neg <;> cases how
      · exact txt_pmf w L m n hm hn
      · exact txt_pmt w L m n hm hn
      · exact txt_nmf w L m n hm hn
      · exact txt_nmt w L m n hm hn
end Go.Proofs.YtbbjlcgfaigmdaaGreatDoor
