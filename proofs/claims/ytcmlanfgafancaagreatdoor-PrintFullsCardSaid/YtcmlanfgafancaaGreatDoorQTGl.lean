import Derived.Test.YtcmlanfgafancaaGreatDoorQTGf
import Derived.Test.YtcmlanfgafancaaGreatDoorQTKq
import Derived.Test.YtcmlanfgafancaaGreatDoorQTKp
import Derived.Deep.RegionHeld3
set_option maxHeartbeats 32000000
set_option linter.unusedVariables false
set_option linter.unusedSimpArgs false
namespace Go.Proofs.YtcmlanfgafancaaGreatDoor
open Go.RowKit Go.Shelf
set_option maxRecDepth 100000 in
theorem rprint13_err (w : World) (ii : Int) (p : Nat) (pb : p < 18446744073709551616) (fu : Bool) (c : Int) (g : Bool) (m : Nat) (z x : Int) (hd : M.Dc ii p c g m z x) (x0 : x ≠ 0) :
  Calls Tryz.prog 11 #[.int .i64 ii, u64 p, .bool fu] w (Ptx [] x w) := by
 have CD := Lib.hid (rdecode_any w ii p pb c g m z x hd)
 have d0 : (x != 0) = true := by rw [bne_iff_ne]; exact x0
 clear hd pb x0
 go_enter Tryz.func11, Tryz.ntmps11
 go_wp2_with fail
 refine CD.out.mono ?_
 rintro _ W1 ⟨rfl, u1⟩
 go_upto_region 2 with (refine store_ob rfl 38 (.tmp 8) (.tmp 15) rfl _ #[.int .i64 0, .bool false, .int .u64 0, .int .i64 0] #[.int .i64 c, .bool g, u64 m, .int .i64 z] rfl rfl 4 (by kernel_rfl) rfl rfl (by simp [Value.oneCell']) W1 ((Up.refl _).alloc _) (Nat.le_refl _) 38 (Ob.mk_ _ _ _) ?_; intro V2 X2 q2)
 have U := u1.trans q2
 have v0 := X2.get 0
 have v1 := X2.get 1
 simp only [M.z7, M.z8, M.z9] at v0 v1
 go_wp2_with fail
 go_ret2
 exact ⟨_, rfl, Tx.lit [], U⟩
set_option maxRecDepth 100000 in
theorem rprint13_zero (w : World) (i : Nat) (i2 : i ≤ 14) (p : Nat) (pb : p < 18446744073709551616) (fu g : Bool) (m : Nat) (z : Int) (hd : M.Dc (i : Int) p 1 g m z 0) :
  Calls Tryz.prog 11 #[.int .i64 (i : Int), u64 p, .bool fu] w (Ptx (M.wrd i 1 g) 0 w) := by
 have CD := Lib.hid (rdecode_any w (i : Int) p pb 1 g m z 0 hd)
 clear hd pb
 cases g with
 | true =>
  go_enter Tryz.func11, Tryz.ntmps11
  go_wp2_with fail
  refine CD.out.mono ?_
  rintro _ W1 ⟨rfl, u1⟩
  go_upto_region 2 with (refine store_ob rfl 38 (.tmp 8) (.tmp 15) rfl _ #[.int .i64 0, .bool false, .int .u64 0, .int .i64 0] #[.int .i64 1, .bool true, u64 m, .int .i64 z] rfl rfl 4 (by kernel_rfl) rfl rfl (by simp [Value.oneCell']) W1 ((Up.refl _).alloc _) (Nat.le_refl _) 38 (Ob.mk_ _ _ _) ?_; intro V2 X2 q2)
  have U := u1.trans q2
  have v0 := X2.get 0
  have v1 := X2.get 1
  simp only [M.z7, M.z8, M.z9] at v0 v1
  go_wp2_with fail
  go_ret2
  exact ⟨_, rfl, (Tx.lit [45]).cat (Tx.lit [48]), U⟩
 | false =>
  go_enter Tryz.func11, Tryz.ntmps11
  go_wp2_with fail
  refine CD.out.mono ?_
  rintro _ W1 ⟨rfl, u1⟩
  go_upto_region 2 with (refine store_ob rfl 38 (.tmp 8) (.tmp 15) rfl _ #[.int .i64 0, .bool false, .int .u64 0, .int .i64 0] #[.int .i64 1, .bool false, u64 m, .int .i64 z] rfl rfl 4 (by kernel_rfl) rfl rfl (by simp [Value.oneCell']) W1 ((Up.refl _).alloc _) (Nat.le_refl _) 38 (Ob.mk_ _ _ _) ?_; intro V2 X2 q2)
  have U := u1.trans q2
  have v0 := X2.get 0
  have v1 := X2.get 1
  simp only [M.z7, M.z8, M.z9] at v0 v1
  go_wp2_with fail
  go_ret2
  exact ⟨_, rfl, (Tx.lit []).cat (Tx.lit [48]), U⟩
set_option maxRecDepth 100000 in
theorem rprint13_inf (w : World) (i : Nat) (i2 : i ≤ 14) (p : Nat) (pb : p < 18446744073709551616) (fu g : Bool) (m : Nat) (z : Int) (hd : M.Dc (i : Int) p 3 g m z 0) :
  Calls Tryz.prog 11 #[.int .i64 (i : Int), u64 p, .bool fu] w (Ptx (M.wrd i 3 g) 0 w) := by
 have CD := Lib.hid (rdecode_any w (i : Int) p pb 3 g m z 0 hd)
 clear hd pb
 cases g with
 | true =>
  go_enter Tryz.func11, Tryz.ntmps11
  go_wp2_with fail
  refine CD.out.mono ?_
  rintro _ W1 ⟨rfl, u1⟩
  go_upto_region 2 with (refine store_ob rfl 38 (.tmp 8) (.tmp 15) rfl _ #[.int .i64 0, .bool false, .int .u64 0, .int .i64 0] #[.int .i64 3, .bool true, u64 m, .int .i64 z] rfl rfl 4 (by kernel_rfl) rfl rfl (by simp [Value.oneCell']) W1 ((Up.refl _).alloc _) (Nat.le_refl _) 38 (Ob.mk_ _ _ _) ?_; intro V2 X2 q2)
  have U := u1.trans q2
  have v0 := X2.get 0
  have v1 := X2.get 1
  simp only [M.z7, M.z8, M.z9] at v0 v1
  go_wp2_with fail
  go_ret2
  exact ⟨_, rfl, (Tx.lit [45]).cat (Tx.lit [105, 110, 102]), U⟩
 | false =>
  go_enter Tryz.func11, Tryz.ntmps11
  go_wp2_with fail
  refine CD.out.mono ?_
  rintro _ W1 ⟨rfl, u1⟩
  go_upto_region 2 with (refine store_ob rfl 38 (.tmp 8) (.tmp 15) rfl _ #[.int .i64 0, .bool false, .int .u64 0, .int .i64 0] #[.int .i64 3, .bool false, u64 m, .int .i64 z] rfl rfl 4 (by kernel_rfl) rfl rfl (by simp [Value.oneCell']) W1 ((Up.refl _).alloc _) (Nat.le_refl _) 38 (Ob.mk_ _ _ _) ?_; intro V2 X2 q2)
  have U := u1.trans q2
  have v0 := X2.get 0
  have v1 := X2.get 1
  simp only [M.z7, M.z8, M.z9] at v0 v1
  go_wp2_with fail
  go_ret2
  exact ⟨_, rfl, (Tx.lit []).cat (Tx.lit [105, 110, 102]), U⟩
set_option maxRecDepth 100000 in
theorem rprint13_nan (w : World) (i : Nat) (i2 : i ≤ 14) (p : Nat) (pb : p < 18446744073709551616) (fu g : Bool) (m : Nat) (z : Int) (hd : M.Dc (i : Int) p 4 g m z 0) :
  Calls Tryz.prog 11 #[.int .i64 (i : Int), u64 p, .bool fu] w (Ptx (M.wrd i 4 g) 0 w) := by
 have CD := Lib.hid (rdecode_any w (i : Int) p pb 4 g m z 0 hd)
 have hg : g = false := by
  obtain ⟨j, _, _, _, _, hv⟩ := M.dc_in hd
  rcases hv with ⟨_, _, h, _⟩ | ⟨_, h, _⟩ | ⟨_, h, _⟩ | ⟨_, h, _⟩
  ·exact h
  ·exact absurd h (by decide)
  ·exact absurd h (by decide)
  ·exact absurd h (by decide)
 subst hg
 clear hd pb
 by_cases h4 : i ≤ 4
 ·have d4 : decide ((i : Int) ≤ 4) = true := decide_eq_true (by omega)
  have HW : Hid (M.wrd i 4 false = [78, 97, 82]) := by
   show _ = _
   unfold M.wrd
   rw [if_neg (by decide), if_neg (by decide), if_pos h4]
  clear h4
  go_enter Tryz.func11, Tryz.ntmps11
  go_wp2_with fail
  refine CD.out.mono ?_
  rintro _ W1 ⟨rfl, u1⟩
  go_upto_region 2 with (refine store_ob rfl 38 (.tmp 8) (.tmp 15) rfl _ #[.int .i64 0, .bool false, .int .u64 0, .int .i64 0] #[.int .i64 4, .bool false, u64 m, .int .i64 z] rfl rfl 4 (by kernel_rfl) rfl rfl (by simp [Value.oneCell']) W1 ((Up.refl _).alloc _) (Nat.le_refl _) 38 (Ob.mk_ _ _ _) ?_; intro V2 X2 q2)
  have U := u1.trans q2
  have v0 := X2.get 0
  have v1 := X2.get 1
  simp only [M.z7, M.z8, M.z9] at v0 v1
  go_wp2_with fail
  go_ret2
  exact ⟨_, rfl, by rw [HW.out]; exact Tx.lit _, U⟩
 ·have d4 : decide ((i : Int) ≤ 4) = false := decide_eq_false (by omega)
  have HW : Hid (M.wrd i 4 false = [110, 97, 110]) := by
   show _ = _
   unfold M.wrd
   rw [if_neg (by decide), if_neg (by decide), if_neg h4]
  clear h4
  go_enter Tryz.func11, Tryz.ntmps11
  go_wp2_with fail
  refine CD.out.mono ?_
  rintro _ W1 ⟨rfl, u1⟩
  go_upto_region 2 with (refine store_ob rfl 38 (.tmp 8) (.tmp 15) rfl _ #[.int .i64 0, .bool false, .int .u64 0, .int .i64 0] #[.int .i64 4, .bool false, u64 m, .int .i64 z] rfl rfl 4 (by kernel_rfl) rfl rfl (by simp [Value.oneCell']) W1 ((Up.refl _).alloc _) (Nat.le_refl _) 38 (Ob.mk_ _ _ _) ?_; intro V2 X2 q2)
  have U := u1.trans q2
  have v0 := X2.get 0
  have v1 := X2.get 1
  simp only [M.z7, M.z8, M.z9] at v0 v1
  go_wp2_with fail
  go_ret2
  exact ⟨_, rfl, by rw [HW.out]; exact Tx.lit _, U⟩
set_option maxRecDepth 100000 in
theorem rprint13_full (w : World) (i : Nat) (i1 : 1 ≤ i) (i2 : i ≤ 14) (p : Nat) (pb : p < 18446744073709551616) (g : Bool) (m : Nat) (z : Int) (hd : M.Dc (i : Int) p 2 g m z 0) (D : Nat) (K : Int) (hw : M.Wok D K)
  (hc : ∀ W, Calls Tryz.prog 24 #[.int .i64 (i : Int), u64 p] W (Dz W.heap.size g D K W)) :
  Calls Tryz.prog 11 #[.int .i64 (i : Int), u64 p, .bool true] w (Ptx (M.ly g D K) 0 w) := by
 have CD := Lib.hid (rdecode_any w (i : Int) p pb 2 g m z 0 hd)
 have HC := Lib.hid hc
 have HW := Lib.hid hw
 clear hd pb hc hw
 go_enter Tryz.func11, Tryz.ntmps11
 go_wp2_with fail
 refine CD.out.mono ?_
 rintro _ W1 ⟨rfl, u1⟩
 go_upto_region 2 with (refine store_ob rfl 38 (.tmp 8) (.tmp 15) rfl _ #[.int .i64 0, .bool false, .int .u64 0, .int .i64 0] #[.int .i64 2, .bool g, u64 m, .int .i64 z] rfl rfl 4 (by kernel_rfl) rfl rfl (by simp [Value.oneCell']) W1 ((Up.refl _).alloc _) (Nat.le_refl _) 38 (Ob.mk_ _ _ _) ?_; intro V2 X2 q2)
 have U := u1.trans q2
 have v0 := X2.get 0
 have v1 := X2.get 1
 simp only [M.z7, M.z8, M.z9] at v0 v1
 have key : ∀ (W : World) (A : Option Addr) (n c lo : Nat), Nt W lo 128 (.slice A n c) D → Calls Tryz.prog 23 #[dv g (.slice A n c) K] W (Tex (M.ly g D K) W) := fun W A n c lo N => by
  obtain ⟨xs, hD, hv, hn⟩ := N.dr (by omega)
  have := rlayout12_any W g A n c xs K hD
  rw [M.lyr_nrm hn, hv, show M.lyn g D K = M.ly g D K from if_pos HW.out.rtn] at this
  exact this
 have KEY := Lib.hid key
 clear key
 rcases (show g = true ∨ g = false by cases g <;> simp) with rfl | rfl
 all_goals
  go_wp2_with fail
  refine (HC.out _).mono ?_
  rintro _ W3 ⟨A, n, c, rfl, N3, u3⟩
  have U3 : Up w W3 := U.trans (Up.trans (by repeat (first | exact Up.refl _ | refine Up.drew ?_ | refine Up.drewN ?_ _)) u3)
  have CL := Lib.hid (fun W (u : Up W3 W) => KEY.out W A n c _ (N3.up u))
  clear u3 N3
  go_wp2_with fail
  refine (CL.out _ (by repeat (first | exact Up.refl _ | refine Up.drew ?_ | refine Up.drewN ?_ _))).mono ?_
  rintro _ W4 ⟨S, rfl, tS, u4⟩
  replace U3 := U3.trans (Up.trans (by repeat (first | exact Up.refl _ | refine Up.drew ?_ | refine Up.drewN ?_ _)) u4)
  go_wp2_with fail
  go_ret2
  exact ⟨S, rfl, tS, by first | exact U3 | exact U3.drew⟩
set_option maxRecDepth 100000 in
theorem rprint13_short (w : World) (i : Nat) (i1 : 1 ≤ i) (i2 : i ≤ 14) (p : Nat) (pb : p < 18446744073709551616) (g : Bool) (m : Nat) (z : Int) (hd : M.Dc (i : Int) p 2 g m z 0) (D : Nat) (K : Int) (hw : M.Wok D K)
  (hc : ∀ W, Calls Tryz.prog 25 #[.int .i64 (i : Int), u64 p] W (Dz W.heap.size g D K W)) :
  Calls Tryz.prog 11 #[.int .i64 (i : Int), u64 p, .bool false] w (Ptx (M.ly g D K) 0 w) := by
 have CD := Lib.hid (rdecode_any w (i : Int) p pb 2 g m z 0 hd)
 have HC := Lib.hid hc
 have HW := Lib.hid hw
 clear hd pb hc hw
 go_enter Tryz.func11, Tryz.ntmps11
 go_wp2_with fail
 refine CD.out.mono ?_
 rintro _ W1 ⟨rfl, u1⟩
 go_upto_region 2 with (refine store_ob rfl 38 (.tmp 8) (.tmp 15) rfl _ #[.int .i64 0, .bool false, .int .u64 0, .int .i64 0] #[.int .i64 2, .bool g, u64 m, .int .i64 z] rfl rfl 4 (by kernel_rfl) rfl rfl (by simp [Value.oneCell']) W1 ((Up.refl _).alloc _) (Nat.le_refl _) 38 (Ob.mk_ _ _ _) ?_; intro V2 X2 q2)
 have U := u1.trans q2
 have v0 := X2.get 0
 have v1 := X2.get 1
 simp only [M.z7, M.z8, M.z9] at v0 v1
 have key : ∀ (W : World) (A : Option Addr) (n c lo : Nat), Nt W lo 128 (.slice A n c) D → Calls Tryz.prog 23 #[dv g (.slice A n c) K] W (Tex (M.ly g D K) W) := fun W A n c lo N => by
  obtain ⟨xs, hD, hv, hn⟩ := N.dr (by omega)
  have := rlayout12_any W g A n c xs K hD
  rw [M.lyr_nrm hn, hv, show M.lyn g D K = M.ly g D K from if_pos HW.out.rtn] at this
  exact this
 have KEY := Lib.hid key
 clear key
 rcases (show g = true ∨ g = false by cases g <;> simp) with rfl | rfl
 all_goals
  go_wp2_with fail
  refine (HC.out _).mono ?_
  rintro _ W3 ⟨A, n, c, rfl, N3, u3⟩
  have U3 : Up w W3 := U.trans (Up.trans (by repeat (first | exact Up.refl _ | refine Up.drew ?_ | refine Up.drewN ?_ _)) u3)
  have CL := Lib.hid (fun W (u : Up W3 W) => KEY.out W A n c _ (N3.up u))
  clear u3 N3
  go_wp2_with fail
  refine (CL.out _ (by repeat (first | exact Up.refl _ | refine Up.drew ?_ | refine Up.drewN ?_ _))).mono ?_
  rintro _ W4 ⟨S, rfl, tS, u4⟩
  replace U3 := U3.trans (Up.trans (by repeat (first | exact Up.refl _ | refine Up.drew ?_ | refine Up.drewN ?_ _)) u4)
  go_wp2_with fail
  go_ret2
  exact ⟨S, rfl, tS, by first | exact U3 | exact U3.drew⟩
theorem rprint13_any (w : World) (ii : Int) (p : Nat) (pb : p < 18446744073709551616) (fu : Bool) (l : List UInt8) (x : Int) (h : M.Pr ii p fu l x) :
  Calls Tryz.prog 11 #[.int .i64 ii, u64 p, .bool fu] w (Ptx l x w) := by
 obtain ⟨c, g, m, z, hd, ⟨x0, rfl⟩ | ⟨rfl, c2, i, rfl, rfl⟩ | ⟨rfl, rfl, D, K, hs, rfl⟩⟩ := h
 ·exact rprint13_err w ii p pb fu c g m z x hd x0
 ·obtain ⟨j, ej, i1, i2, hp, hv⟩ := M.dc_in hd
  obtain rfl : i = j := by omega
  have hc : c = 4 ∨ c = 3 ∨ c = 1 := by
   rcases hv with ⟨_, h, _⟩ | ⟨_, h, _⟩ | ⟨_, h, _⟩ | ⟨_, h, _⟩ <;> omega
  rcases hc with rfl | rfl | rfl
  ·exact rprint13_nan w i i2 p pb fu g m z hd
  ·exact rprint13_inf w i i2 p pb fu g m z hd
  ·exact rprint13_zero w i i2 p pb fu g m z hd
 ·obtain ⟨i, rfl, i1, i2, hp, hv⟩ := M.dc_in hd
  cases fu with
  | true =>
   rw [if_pos rfl] at hs
   obtain ⟨_, _, _, m', z', hv', hg', hw⟩ := M.uc_wok hs
   exact rprint13_full w i i1 i2 p pb g m z hd D K hw (fun W => rfull11_any W i i1 i2 p pb hp g m' z' hv' D K hg')
  | false =>
   rw [if_neg (by decide)] at hs
   obtain ⟨_, _, ⟨m', z', m1, z1, m2, z2, ev, t, n, k, d, r, y, hq⟩, hw⟩ := M.shc_wok hs
   exact rprint13_short w i i1 i2 p pb g m z hd D K hw (fun W => rshort11_any W i i1 i2 p pb g m' z' m1 z1 m2 z2 ev t n k d r y D K hq)
set_option maxRecDepth 100000 in
theorem prtells_walk (w : World) (L : Lq w) (F : Prn) (x0 : Int) (_wx0 : (Lit.int .i64 x0).wf = true) (x1 : Int) (_wx1 : (Lit.int .u64 x1).wf = true) : Calls Tryz.prog 3 #[.int .i64 x0, .int .u64 x1] w (True13 w) := by
 obtain ⟨p, rfl, pb⟩ := wf_u64 _wx1
 obtain ⟨l, x, h⟩ := M.pr_ex x0 p false
 have CH := Lib.hid (shown13_any F w L)
 have C1 := Lib.hid (fun W (u : Up w W) => F.print W x0 p l x (L.up u) pb h)
 have C2 := Lib.hid (fun W => rprint13_any W x0 p pb false l x h)
 have U := Up.refl w
 have d0 : (x == x) = true := by simp
 clear F h pb L
 go_enter Tryz.func3, Tryz.ntmps3
 go_wp2_with fail
 refine CH.out.mono ?_
 rintro _ w1 ⟨rfl, u1⟩
 replace U := U.trans u1
 clear u1
 go_wp2_with fail
 refine (C1.out _ (by first | exact U | exact U.drew)).mono ?_
 rintro _ w2 ⟨S, rfl, tS, u2⟩
 replace U := Up.trans (by first | exact U | exact U.drew) u2
 have HS := Lib.hid tS
 clear u2 tS
 go_wp2_with fail
 refine (C2.out _).mono ?_
 rintro _ w3 ⟨T, rfl, tT, u3⟩
 replace U := U.trans (Up.trans (by repeat (first | exact Up.refl _ | refine Up.drew ?_ | refine Up.drewN ?_ _)) u3)
 obtain rfl : S = T := Tx.uniq HS.out tT
 clear u3 tT HS
 go_wp2_with fail
 go_ret
 exact ⟨by first | rfl | simp, by first | exact U | exact U.drew⟩
set_option maxRecDepth 100000 in
theorem prfulls_walk (w : World) (L : Lq w) (F : Prn) (x0 : Int) (_wx0 : (Lit.int .i64 x0).wf = true) (x1 : Int) (_wx1 : (Lit.int .u64 x1).wf = true) : Calls Tryz.prog 4 #[.int .i64 x0, .int .u64 x1] w (True13 w) := by
 obtain ⟨p, rfl, pb⟩ := wf_u64 _wx1
 obtain ⟨l, x, h⟩ := M.pr_ex x0 p true
 have CH := Lib.hid (shown13_any F w L)
 have C1 := Lib.hid (fun W (u : Up w W) => F.full W x0 p l x (L.up u) pb h)
 have C2 := Lib.hid (fun W => rprint13_any W x0 p pb true l x h)
 have U := Up.refl w
 have d0 : (x == x) = true := by simp
 clear F h pb L
 go_enter Tryz.func4, Tryz.ntmps4
 go_wp2_with fail
 refine CH.out.mono ?_
 rintro _ w1 ⟨rfl, u1⟩
 replace U := U.trans u1
 clear u1
 go_wp2_with fail
 refine (C1.out _ (by first | exact U | exact U.drew)).mono ?_
 rintro _ w2 ⟨S, rfl, tS, u2⟩
 replace U := Up.trans (by first | exact U | exact U.drew) u2
 have HS := Lib.hid tS
 clear u2 tS
 go_wp2_with fail
 refine (C2.out _).mono ?_
 rintro _ w3 ⟨T, rfl, tT, u3⟩
 replace U := U.trans (Up.trans (by repeat (first | exact Up.refl _ | refine Up.drew ?_ | refine Up.drewN ?_ _)) u3)
 obtain rfl : S = T := Tx.uniq HS.out tT
 clear u3 tT HS
 go_wp2_with fail
 go_ret
 exact ⟨by first | rfl | simp, by first | exact U | exact U.drew⟩
end Go.Proofs.YtcmlanfgafancaaGreatDoor
