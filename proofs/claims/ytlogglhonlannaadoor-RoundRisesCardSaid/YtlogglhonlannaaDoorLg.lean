/-
  RoundRises.
-/
import Derived.Test.YtlogglhonlannaaDoorLb
namespace Go.Proofs.YtlogglhonlannaaDoor
open Go.RowKit
set_option linter.unusedSimpArgs false
set_option linter.unusedVariables false

set_option maxHeartbeats 1000000 in
set_option maxRecDepth 100000 in
theorem rrises_walk (w : World) (TT : Hid (Tz w)) (TF : Hid (TabF w)) (x0 : Int) (_wx0 : (Lit.int .i64 x0).wf = true) (x1 : Bool) (ng2 : Bool) (A2 : Option Addr) (ln2 cp2 : Nat) (xs2 : List Nat) (sr2 : Src w A2 ln2 cp2 xs2) (fz2 : Fz w A2 ln2) (_mx2 : cp2 ≤ maxLen) (tw2 : Int) (_wt2 : (Lit.int .i64 tw2).wf = true) (fv2 : Int) (_wv2 : (Lit.int .i64 fv2).wf = true) (ng3 : Bool) (A3 : Option Addr) (ln3 cp3 : Nat) (xs3 : List Nat) (sr3 : Src w A3 ln3 cp3 xs3) (fz3 : Fz w A3 ln3) (_mx3 : cp3 ≤ maxLen) (tw3 : Int) (_wt3 : (Lit.int .i64 tw3).wf = true) (fv3 : Int) (_wv3 : (Lit.int .i64 fv3).wf = true) : Calls Tryd.prog 4 #[.int .i64 x0, .bool x1, xv ng2 (.slice A2 ln2 cp2) tw2 fv2, xv ng3 (.slice A3 ln3 cp3) tw3 fv3] w (True8 w) := by
  obtain ⟨t, ht⟩ : ∃ z, max (min tw2 1000) (-1000) = z := ⟨_, rfl⟩
  obtain ⟨g, hg⟩ : ∃ z, max (min fv2 1000) (-1000) = z := ⟨_, rfl⟩
  obtain ⟨mm2, a2, N2, CS2⟩ := small8_ex w ng2 A2 ln2 cp2 xs2 tw2 fv2 sr2 fz2 t g ht hg
  have bt : -5000 ≤ t ∧ t ≤ 5000 := by omega
  have bg : -5000 ≤ g ∧ g ≤ 5000 := by omega
  have h1282 := N2.lt128 (by decide)
  clear ht hg sr2 fz2
  obtain ⟨t3, ht3⟩ : ∃ z, max (min tw3 1000) (-1000) = z := ⟨_, rfl⟩
  obtain ⟨g3, hg3⟩ : ∃ z, max (min fv3 1000) (-1000) = z := ⟨_, rfl⟩
  obtain ⟨mm3, a3, N3, CS3⟩ := small8_ex w ng3 A3 ln3 cp3 xs3 tw3 fv3 sr3 fz3 t3 g3 ht3 hg3
  have bt3 : -5000 ≤ t3 ∧ t3 ≤ 5000 := by omega
  have bg3 : -5000 ≤ g3 ∧ g3 ≤ 5000 := by omega
  have h1283 := N3.lt128 (by decide)
  clear ht3 hg3 sr3 fz3
  obtain ⟨X, hX⟩ : ∃ X, M.sz a2 t g = X := ⟨_, rfl⟩
  obtain ⟨Y, hY⟩ : ∃ X, M.sz a3 t3 g3 = X := ⟨_, rfl⟩
  obtain ⟨k, o, e, hn⟩ := M.nc_ex x0 x1 X
  obtain ⟨k', o', e', hn'⟩ := M.nc_ex x0 x1 Y
  obtain ⟨c, hc⟩ : ∃ c, M.cmp X Y = c := ⟨_, rfl⟩
  have C1 := Lib.hid (fun W (T : Tz W) (F : TabF W) (U : Up w W) => rnd_nearest W (Lib.hid T) (Lib.hid F) x0 x1 0 40 ng2 (.slice A2 mm2 cp2) t g a2 (N2.up U) (by decide) bt bg h1282 k o e (by rw [hX]; exact hn))
  have C2 := Lib.hid (fun W (T : Tz W) (F : TabF W) (U : Up w W) => rnd_nearest W (Lib.hid T) (Lib.hid F) x0 x1 0 40 ng3 (.slice A3 mm3 cp3) t3 g3 a3 (N3.up U) (by decide) bt3 bg3 h1283 k' o' e' (by rw [hY]; exact hn'))
  have CC := Lib.hid (fun W (U : Up w W) => xcmp_ov (-5000) (by omega) W 0 0 40 40 ng2 ng3 (.slice A2 mm2 cp2) (.slice A3 mm3 cp3) t g t3 g3 a2 a3 (N2.up U).nw (N3.up U).nw (by decide) (by decide) ⟨by omega, by omega⟩ ⟨by omega, by omega⟩ ⟨by omega, by omega⟩ ⟨by omega, by omega⟩ c (by rw [M.sz_ov, M.sz_ov, hX, hY]; exact hc))
  clear hX hY N2 N3 h1282 h1283 bt bg bt3 bg3
  have hx : (e ≠ 0 ∧ e' = e ∧ k = 0 ∧ k' = 0) ∨ (e = 0 ∧ e' = 0 ∧ (c = -1 ∧ k ≤ k' ∧ (o = true → o' = true) ∨ c = 1 ∧ k' ≤ k ∧ (o' = true → o = true) ∨ c = 0 ∧ k = k' ∧ o = o')) := by
    rcases hn with ⟨h, rfl, rfl, rfl⟩ | ⟨i, rfl, i1, i2, ⟨h4, hs, rfl, rfl, rfl⟩ | ⟨h4, q, hq, hr, rfl⟩⟩
    · rcases hn' with ⟨_, rfl, rfl, rfl⟩ | ⟨j, h2, j1, j2, h5⟩
      · exact .inl ⟨by decide, rfl, rfl, rfl⟩
      · clear h5; omega
    · rcases hn' with ⟨h, h6⟩ | ⟨j, h2, _, _, ⟨_, _, rfl, rfl, rfl⟩ | ⟨h5, _⟩⟩
      · clear h6; omega
      · exact .inl ⟨by decide, rfl, rfl, rfl⟩
      · obtain rfl : i = j := by omega
        exact absurd ⟨h4, hs⟩ h5
    · rcases hn' with ⟨h, h6⟩ | ⟨j, h2, _, _, ⟨h5, hs, _⟩ | ⟨_, q', hq', hr', rfl⟩⟩
      · clear h6; omega
      · obtain rfl : i = j := by omega
        exact absurd ⟨h5, hs⟩ h4
      · obtain rfl : i = j := by omega
        obtain rfl : q = q' := by omega
        obtain ⟨q2, hq2, _, _, qt⟩ := M.mst_rng (M.ok i i1 i2) (M.ok2 i i1 i2) (M.ok3 i i1 i2) x1
        obtain rfl : q = q2 := by omega
        refine .inr ⟨rfl, rfl, ?_⟩
        rcases Nat.lt_trichotomy X Y with h | h | h
        · rw [M.cmp_lt h] at hc
          have := M.nr_mono (M.ok i i1 i2) (M.ok2 i i1 i2) (M.ok3 i i1 i2) qt (Nat.le_of_lt h) hr hr'
          exact .inl ⟨hc.symm, this.1, this.2⟩
        · rw [M.cmp_eq h] at hc
          subst h
          have := M.nr_uniq (M.ok i i1 i2) (M.ok2 i i1 i2) (M.ok3 i i1 i2) qt hr hr'
          exact .inr (.inr ⟨hc.symm, this.1, this.2⟩)
        · rw [M.cmp_gt h] at hc
          have := M.nr_mono (M.ok i i1 i2) (M.ok2 i i1 i2) (M.ok3 i i1 i2) qt (Nat.le_of_lt h) hr' hr
          exact .inr (.inl ⟨hc.symm, this.1, this.2⟩)
  clear hn hn' hc
  rcases hx with ⟨e0, rfl, rfl, rfl⟩ | ⟨rfl, rfl, ⟨rfl, hk, ho⟩ | ⟨rfl, hk, ho⟩ | ⟨rfl, rfl, rfl⟩⟩
  ·
    have d1 : (e' != e') = false := by simp
    have d2 : (e' != 0) = true := by simpa using e0
    clear e0 CC
    have U := Up.refl w
    go_enter Tryd.func4, Tryd.ntmps4
    go_wp2_with fail
    obtain ⟨V1, hV1⟩ : ∃ V1, w.alloc (.cells #[.bool ng2, .slice A2 ln2 cp2, .int .i64 tw2, .int .i64 fv2] 32) = V1 := ⟨_, rfl⟩
    have sV1 : V1.heap.size = w.heap.size + 1 := by rw [← hV1]; exact Array.size_push _
    have B1 : Ob V1 w.heap.size 32 #[.bool ng2, .slice A2 ln2 cp2, .int .i64 tw2, .int .i64 fv2] := by rw [← hV1]; exact Ob.mk_ _ _ _
    have uV1 : Up w V1 := by rw [← hV1]; exact (Up.refl _).alloc _
    have ltB1 : w.heap.size ≤ w.heap.size := U.size
    have ltB2 : w.heap.size ≤ w.heap.size + 1 := Nat.le_succ_of_le U.size
    rw [hV1]
    clear hV1
    obtain ⟨V2, hV2⟩ : ∃ V2, V1.alloc (.cells #[.bool ng3, .slice A3 ln3 cp3, .int .i64 tw3, .int .i64 fv3] 32) = V2 := ⟨_, rfl⟩
    have B2 : Ob V2 (w.heap.size + 1) 32 #[.bool ng3, .slice A3 ln3 cp3, .int .i64 tw3, .int .i64 fv3] := by rw [← sV1, ← hV2]; exact Ob.mk_ _ _ _
    have uV2 : Up V1 V2 := by rw [← hV2]; exact (Up.refl _).alloc _
    rw [hV2]
    clear hV2 sV1
    replace B1 := B1.up uV2
    replace uV2 := uV1.trans uV2
    clear uV1
    replace U := U.trans uV2
    clear uV2
    refine (shown8_any _ (Lib.hid (TT.out.up U)) (Lib.hid (TF.out.up U))).mono ?_
    rintro _ w3 ⟨rfl, h3⟩
    replace U := U.trans h3
    replace B1 := B1.up h3
    replace B2 := B2.up h3
    clear h3
    have B10 := B1.get 0
    have B11 := B1.get 1
    have B12 := B1.get 2
    have B13 := B1.get 3
    have B1f0 := B1.fr 0
    have B1f1 := B1.fr 1
    have B1f2 := B1.fr 2
    have B1f3 := B1.fr 3
    have B1l := B1.lt
    simp only [List.getElem?_toArray, List.getElem?_cons_zero, List.getElem?_cons_succ] at B10 B11 B12 B13
    go_wp2_with fail
    clear B10 B1f0 B11 B1f1 B12 B1f2 B13 B1f3 B1l
    refine (CS2.out _ U).mono ?_
    rintro _ w4 ⟨rfl, h4⟩
    replace U := U.trans h4
    replace B1 := B1.up h4
    replace B2 := B2.up h4
    clear h4
    have B20 := B2.get 0
    have B21 := B2.get 1
    have B22 := B2.get 2
    have B23 := B2.get 3
    have B2f0 := B2.fr 0
    have B2f1 := B2.fr 1
    have B2f2 := B2.fr 2
    have B2f3 := B2.fr 3
    have B2l := B2.lt
    simp only [List.getElem?_toArray, List.getElem?_cons_zero, List.getElem?_cons_succ] at B20 B21 B22 B23
    go_upto_region 3 with (refine store_ob2 rfl 32 (.tmp 6) (.tmp 19) rfl _ #[.bool ng2, .slice A2 ln2 cp2, .int .i64 tw2, .int .i64 fv2] #[.bool ng2, .slice A2 mm2 cp2, .int .i64 t, .int .i64 g] rfl rfl 4 (by kernel_rfl) rfl rfl (by simp [Value.oneCell']) w U ltB1 32 B1 ?_; clear U; intro VA Z9 U ho; replace B2 := Ob.oth B2 ho (by omega); clear ho B1; have B1 := Z9; clear Z9)
    clear B20 B2f0 B21 B2f1 B22 B2f2 B23 B2f3 B2l
    have B20 := B2.get 0
    have B21 := B2.get 1
    have B22 := B2.get 2
    have B23 := B2.get 3
    have B2f0 := B2.fr 0
    have B2f1 := B2.fr 1
    have B2f2 := B2.fr 2
    have B2f3 := B2.fr 3
    have B2l := B2.lt
    simp only [List.getElem?_toArray, List.getElem?_cons_zero, List.getElem?_cons_succ] at B20 B21 B22 B23
    go_wp2_with fail
    clear B20 B2f0 B21 B2f1 B22 B2f2 B23 B2f3 B2l
    refine (CS3.out _ U).mono ?_
    rintro _ w5 ⟨rfl, h5⟩
    replace U := U.trans h5
    replace B1 := B1.up h5
    replace B2 := B2.up h5
    clear h5
    go_upto_region 4 with (refine store_ob2 rfl 32 (.tmp 7) (.tmp 21) rfl _ #[.bool ng3, .slice A3 ln3 cp3, .int .i64 tw3, .int .i64 fv3] #[.bool ng3, .slice A3 mm3 cp3, .int .i64 t3, .int .i64 g3] rfl rfl 4 (by kernel_rfl) rfl rfl (by simp [Value.oneCell']) w U ltB2 32 B2 ?_; clear U; intro VB Z9 U ho; replace B1 := Ob.oth B1 ho (by omega); clear ho B2; have B2 := Z9; clear Z9)
    have B10 := B1.get 0
    have B11 := B1.get 1
    have B12 := B1.get 2
    have B13 := B1.get 3
    have B1f0 := B1.fr 0
    have B1f1 := B1.fr 1
    have B1f2 := B1.fr 2
    have B1f3 := B1.fr 3
    have B1l := B1.lt
    simp only [List.getElem?_toArray, List.getElem?_cons_zero, List.getElem?_cons_succ] at B10 B11 B12 B13
    go_wp2_with fail
    clear B10 B1f0 B11 B1f1 B12 B1f2 B13 B1f3 B1l
    refine (C1.out _ (TT.out.up U) (TF.out.up U) U).mono ?_
    rintro _ w6 ⟨rfl, h6⟩
    replace U := U.trans h6
    replace B1 := B1.up h6
    replace B2 := B2.up h6
    clear h6
    have B20 := B2.get 0
    have B21 := B2.get 1
    have B22 := B2.get 2
    have B23 := B2.get 3
    have B2f0 := B2.fr 0
    have B2f1 := B2.fr 1
    have B2f2 := B2.fr 2
    have B2f3 := B2.fr 3
    have B2l := B2.lt
    simp only [List.getElem?_toArray, List.getElem?_cons_zero, List.getElem?_cons_succ] at B20 B21 B22 B23
    go_wp2_with fail
    clear B20 B2f0 B21 B2f1 B22 B2f2 B23 B2f3 B2l
    refine (C2.out _ (TT.out.up U) (TF.out.up U) U).mono ?_
    rintro _ w7 ⟨rfl, h7⟩
    replace U := U.trans h7
    replace B1 := B1.up h7
    replace B2 := B2.up h7
    clear h7
    go_wp2_with fail
    first | go_ret | refine bodyPost_ret (v := .bool true) (by simp [results, Tryd.results4, go_sem]) rfl ?_
    exact ⟨by first | rfl | simp, by first | exact U | exact U.alloc _ | exact U.drewN _ | exact U.drew⟩
  ·
    cases o
    ·
      clear ho
      have U := Up.refl w
      go_enter Tryd.func4, Tryd.ntmps4
      go_wp2_with fail
      obtain ⟨V1, hV1⟩ : ∃ V1, w.alloc (.cells #[.bool ng2, .slice A2 ln2 cp2, .int .i64 tw2, .int .i64 fv2] 32) = V1 := ⟨_, rfl⟩
      have sV1 : V1.heap.size = w.heap.size + 1 := by rw [← hV1]; exact Array.size_push _
      have B1 : Ob V1 w.heap.size 32 #[.bool ng2, .slice A2 ln2 cp2, .int .i64 tw2, .int .i64 fv2] := by rw [← hV1]; exact Ob.mk_ _ _ _
      have uV1 : Up w V1 := by rw [← hV1]; exact (Up.refl _).alloc _
      have ltB1 : w.heap.size ≤ w.heap.size := U.size
      have ltB2 : w.heap.size ≤ w.heap.size + 1 := Nat.le_succ_of_le U.size
      rw [hV1]
      clear hV1
      obtain ⟨V2, hV2⟩ : ∃ V2, V1.alloc (.cells #[.bool ng3, .slice A3 ln3 cp3, .int .i64 tw3, .int .i64 fv3] 32) = V2 := ⟨_, rfl⟩
      have B2 : Ob V2 (w.heap.size + 1) 32 #[.bool ng3, .slice A3 ln3 cp3, .int .i64 tw3, .int .i64 fv3] := by rw [← sV1, ← hV2]; exact Ob.mk_ _ _ _
      have uV2 : Up V1 V2 := by rw [← hV2]; exact (Up.refl _).alloc _
      rw [hV2]
      clear hV2 sV1
      replace B1 := B1.up uV2
      replace uV2 := uV1.trans uV2
      clear uV1
      replace U := U.trans uV2
      clear uV2
      refine (shown8_any _ (Lib.hid (TT.out.up U)) (Lib.hid (TF.out.up U))).mono ?_
      rintro _ w3 ⟨rfl, h3⟩
      replace U := U.trans h3
      replace B1 := B1.up h3
      replace B2 := B2.up h3
      clear h3
      have B10 := B1.get 0
      have B11 := B1.get 1
      have B12 := B1.get 2
      have B13 := B1.get 3
      have B1f0 := B1.fr 0
      have B1f1 := B1.fr 1
      have B1f2 := B1.fr 2
      have B1f3 := B1.fr 3
      have B1l := B1.lt
      simp only [List.getElem?_toArray, List.getElem?_cons_zero, List.getElem?_cons_succ] at B10 B11 B12 B13
      go_wp2_with fail
      clear B10 B1f0 B11 B1f1 B12 B1f2 B13 B1f3 B1l
      refine (CS2.out _ U).mono ?_
      rintro _ w4 ⟨rfl, h4⟩
      replace U := U.trans h4
      replace B1 := B1.up h4
      replace B2 := B2.up h4
      clear h4
      have B20 := B2.get 0
      have B21 := B2.get 1
      have B22 := B2.get 2
      have B23 := B2.get 3
      have B2f0 := B2.fr 0
      have B2f1 := B2.fr 1
      have B2f2 := B2.fr 2
      have B2f3 := B2.fr 3
      have B2l := B2.lt
      simp only [List.getElem?_toArray, List.getElem?_cons_zero, List.getElem?_cons_succ] at B20 B21 B22 B23
      go_upto_region 3 with (refine store_ob2 rfl 32 (.tmp 6) (.tmp 19) rfl _ #[.bool ng2, .slice A2 ln2 cp2, .int .i64 tw2, .int .i64 fv2] #[.bool ng2, .slice A2 mm2 cp2, .int .i64 t, .int .i64 g] rfl rfl 4 (by kernel_rfl) rfl rfl (by simp [Value.oneCell']) w U ltB1 32 B1 ?_; clear U; intro VA Z9 U ho; replace B2 := Ob.oth B2 ho (by omega); clear ho B1; have B1 := Z9; clear Z9)
      clear B20 B2f0 B21 B2f1 B22 B2f2 B23 B2f3 B2l
      have B20 := B2.get 0
      have B21 := B2.get 1
      have B22 := B2.get 2
      have B23 := B2.get 3
      have B2f0 := B2.fr 0
      have B2f1 := B2.fr 1
      have B2f2 := B2.fr 2
      have B2f3 := B2.fr 3
      have B2l := B2.lt
      simp only [List.getElem?_toArray, List.getElem?_cons_zero, List.getElem?_cons_succ] at B20 B21 B22 B23
      go_wp2_with fail
      clear B20 B2f0 B21 B2f1 B22 B2f2 B23 B2f3 B2l
      refine (CS3.out _ U).mono ?_
      rintro _ w5 ⟨rfl, h5⟩
      replace U := U.trans h5
      replace B1 := B1.up h5
      replace B2 := B2.up h5
      clear h5
      go_upto_region 4 with (refine store_ob2 rfl 32 (.tmp 7) (.tmp 21) rfl _ #[.bool ng3, .slice A3 ln3 cp3, .int .i64 tw3, .int .i64 fv3] #[.bool ng3, .slice A3 mm3 cp3, .int .i64 t3, .int .i64 g3] rfl rfl 4 (by kernel_rfl) rfl rfl (by simp [Value.oneCell']) w U ltB2 32 B2 ?_; clear U; intro VB Z9 U ho; replace B1 := Ob.oth B1 ho (by omega); clear ho B2; have B2 := Z9; clear Z9)
      have B10 := B1.get 0
      have B11 := B1.get 1
      have B12 := B1.get 2
      have B13 := B1.get 3
      have B1f0 := B1.fr 0
      have B1f1 := B1.fr 1
      have B1f2 := B1.fr 2
      have B1f3 := B1.fr 3
      have B1l := B1.lt
      simp only [List.getElem?_toArray, List.getElem?_cons_zero, List.getElem?_cons_succ] at B10 B11 B12 B13
      go_wp2_with fail
      clear B10 B1f0 B11 B1f1 B12 B1f2 B13 B1f3 B1l
      refine (C1.out _ (TT.out.up U) (TF.out.up U) U).mono ?_
      rintro _ w6 ⟨rfl, h6⟩
      replace U := U.trans h6
      replace B1 := B1.up h6
      replace B2 := B2.up h6
      clear h6
      have B20 := B2.get 0
      have B21 := B2.get 1
      have B22 := B2.get 2
      have B23 := B2.get 3
      have B2f0 := B2.fr 0
      have B2f1 := B2.fr 1
      have B2f2 := B2.fr 2
      have B2f3 := B2.fr 3
      have B2l := B2.lt
      simp only [List.getElem?_toArray, List.getElem?_cons_zero, List.getElem?_cons_succ] at B20 B21 B22 B23
      go_wp2_with fail
      clear B20 B2f0 B21 B2f1 B22 B2f2 B23 B2f3 B2l
      refine (C2.out _ (TT.out.up U) (TF.out.up U) U).mono ?_
      rintro _ w7 ⟨rfl, h7⟩
      replace U := U.trans h7
      replace B1 := B1.up h7
      replace B2 := B2.up h7
      clear h7
      have B10 := B1.get 0
      have B11 := B1.get 1
      have B12 := B1.get 2
      have B13 := B1.get 3
      have B1f0 := B1.fr 0
      have B1f1 := B1.fr 1
      have B1f2 := B1.fr 2
      have B1f3 := B1.fr 3
      have B1l := B1.lt
      simp only [List.getElem?_toArray, List.getElem?_cons_zero, List.getElem?_cons_succ] at B10 B11 B12 B13
      have B20 := B2.get 0
      have B21 := B2.get 1
      have B22 := B2.get 2
      have B23 := B2.get 3
      have B2f0 := B2.fr 0
      have B2f1 := B2.fr 1
      have B2f2 := B2.fr 2
      have B2f3 := B2.fr 3
      have B2l := B2.lt
      simp only [List.getElem?_toArray, List.getElem?_cons_zero, List.getElem?_cons_succ] at B20 B21 B22 B23
      go_wp2_with fail
      clear B10 B1f0 B11 B1f1 B12 B1f2 B13 B1f3 B1l
      clear B20 B2f0 B21 B2f1 B22 B2f2 B23 B2f3 B2l
      refine (CC.out _ U).mono ?_
      rintro _ w8 ⟨rfl, h8⟩
      replace U := U.trans h8
      replace B1 := B1.up h8
      replace B2 := B2.up h8
      clear h8
      go_wp2_with fail
      first | go_ret | refine bodyPost_ret (v := .bool true) (by simp [results, Tryd.results4, go_sem]) rfl ?_
      exact ⟨by first | rfl | simp, by first | exact U | exact U.alloc _ | exact U.drewN _ | exact U.drew⟩
    ·
      obtain rfl : o' = true := ho rfl
      clear ho
      have U := Up.refl w
      go_enter Tryd.func4, Tryd.ntmps4
      go_wp2_with fail
      obtain ⟨V1, hV1⟩ : ∃ V1, w.alloc (.cells #[.bool ng2, .slice A2 ln2 cp2, .int .i64 tw2, .int .i64 fv2] 32) = V1 := ⟨_, rfl⟩
      have sV1 : V1.heap.size = w.heap.size + 1 := by rw [← hV1]; exact Array.size_push _
      have B1 : Ob V1 w.heap.size 32 #[.bool ng2, .slice A2 ln2 cp2, .int .i64 tw2, .int .i64 fv2] := by rw [← hV1]; exact Ob.mk_ _ _ _
      have uV1 : Up w V1 := by rw [← hV1]; exact (Up.refl _).alloc _
      have ltB1 : w.heap.size ≤ w.heap.size := U.size
      have ltB2 : w.heap.size ≤ w.heap.size + 1 := Nat.le_succ_of_le U.size
      rw [hV1]
      clear hV1
      obtain ⟨V2, hV2⟩ : ∃ V2, V1.alloc (.cells #[.bool ng3, .slice A3 ln3 cp3, .int .i64 tw3, .int .i64 fv3] 32) = V2 := ⟨_, rfl⟩
      have B2 : Ob V2 (w.heap.size + 1) 32 #[.bool ng3, .slice A3 ln3 cp3, .int .i64 tw3, .int .i64 fv3] := by rw [← sV1, ← hV2]; exact Ob.mk_ _ _ _
      have uV2 : Up V1 V2 := by rw [← hV2]; exact (Up.refl _).alloc _
      rw [hV2]
      clear hV2 sV1
      replace B1 := B1.up uV2
      replace uV2 := uV1.trans uV2
      clear uV1
      replace U := U.trans uV2
      clear uV2
      refine (shown8_any _ (Lib.hid (TT.out.up U)) (Lib.hid (TF.out.up U))).mono ?_
      rintro _ w3 ⟨rfl, h3⟩
      replace U := U.trans h3
      replace B1 := B1.up h3
      replace B2 := B2.up h3
      clear h3
      have B10 := B1.get 0
      have B11 := B1.get 1
      have B12 := B1.get 2
      have B13 := B1.get 3
      have B1f0 := B1.fr 0
      have B1f1 := B1.fr 1
      have B1f2 := B1.fr 2
      have B1f3 := B1.fr 3
      have B1l := B1.lt
      simp only [List.getElem?_toArray, List.getElem?_cons_zero, List.getElem?_cons_succ] at B10 B11 B12 B13
      go_wp2_with fail
      clear B10 B1f0 B11 B1f1 B12 B1f2 B13 B1f3 B1l
      refine (CS2.out _ U).mono ?_
      rintro _ w4 ⟨rfl, h4⟩
      replace U := U.trans h4
      replace B1 := B1.up h4
      replace B2 := B2.up h4
      clear h4
      have B20 := B2.get 0
      have B21 := B2.get 1
      have B22 := B2.get 2
      have B23 := B2.get 3
      have B2f0 := B2.fr 0
      have B2f1 := B2.fr 1
      have B2f2 := B2.fr 2
      have B2f3 := B2.fr 3
      have B2l := B2.lt
      simp only [List.getElem?_toArray, List.getElem?_cons_zero, List.getElem?_cons_succ] at B20 B21 B22 B23
      go_upto_region 3 with (refine store_ob2 rfl 32 (.tmp 6) (.tmp 19) rfl _ #[.bool ng2, .slice A2 ln2 cp2, .int .i64 tw2, .int .i64 fv2] #[.bool ng2, .slice A2 mm2 cp2, .int .i64 t, .int .i64 g] rfl rfl 4 (by kernel_rfl) rfl rfl (by simp [Value.oneCell']) w U ltB1 32 B1 ?_; clear U; intro VA Z9 U ho; replace B2 := Ob.oth B2 ho (by omega); clear ho B1; have B1 := Z9; clear Z9)
      clear B20 B2f0 B21 B2f1 B22 B2f2 B23 B2f3 B2l
      have B20 := B2.get 0
      have B21 := B2.get 1
      have B22 := B2.get 2
      have B23 := B2.get 3
      have B2f0 := B2.fr 0
      have B2f1 := B2.fr 1
      have B2f2 := B2.fr 2
      have B2f3 := B2.fr 3
      have B2l := B2.lt
      simp only [List.getElem?_toArray, List.getElem?_cons_zero, List.getElem?_cons_succ] at B20 B21 B22 B23
      go_wp2_with fail
      clear B20 B2f0 B21 B2f1 B22 B2f2 B23 B2f3 B2l
      refine (CS3.out _ U).mono ?_
      rintro _ w5 ⟨rfl, h5⟩
      replace U := U.trans h5
      replace B1 := B1.up h5
      replace B2 := B2.up h5
      clear h5
      go_upto_region 4 with (refine store_ob2 rfl 32 (.tmp 7) (.tmp 21) rfl _ #[.bool ng3, .slice A3 ln3 cp3, .int .i64 tw3, .int .i64 fv3] #[.bool ng3, .slice A3 mm3 cp3, .int .i64 t3, .int .i64 g3] rfl rfl 4 (by kernel_rfl) rfl rfl (by simp [Value.oneCell']) w U ltB2 32 B2 ?_; clear U; intro VB Z9 U ho; replace B1 := Ob.oth B1 ho (by omega); clear ho B2; have B2 := Z9; clear Z9)
      have B10 := B1.get 0
      have B11 := B1.get 1
      have B12 := B1.get 2
      have B13 := B1.get 3
      have B1f0 := B1.fr 0
      have B1f1 := B1.fr 1
      have B1f2 := B1.fr 2
      have B1f3 := B1.fr 3
      have B1l := B1.lt
      simp only [List.getElem?_toArray, List.getElem?_cons_zero, List.getElem?_cons_succ] at B10 B11 B12 B13
      go_wp2_with fail
      clear B10 B1f0 B11 B1f1 B12 B1f2 B13 B1f3 B1l
      refine (C1.out _ (TT.out.up U) (TF.out.up U) U).mono ?_
      rintro _ w6 ⟨rfl, h6⟩
      replace U := U.trans h6
      replace B1 := B1.up h6
      replace B2 := B2.up h6
      clear h6
      have B20 := B2.get 0
      have B21 := B2.get 1
      have B22 := B2.get 2
      have B23 := B2.get 3
      have B2f0 := B2.fr 0
      have B2f1 := B2.fr 1
      have B2f2 := B2.fr 2
      have B2f3 := B2.fr 3
      have B2l := B2.lt
      simp only [List.getElem?_toArray, List.getElem?_cons_zero, List.getElem?_cons_succ] at B20 B21 B22 B23
      go_wp2_with fail
      clear B20 B2f0 B21 B2f1 B22 B2f2 B23 B2f3 B2l
      refine (C2.out _ (TT.out.up U) (TF.out.up U) U).mono ?_
      rintro _ w7 ⟨rfl, h7⟩
      replace U := U.trans h7
      replace B1 := B1.up h7
      replace B2 := B2.up h7
      clear h7
      have B10 := B1.get 0
      have B11 := B1.get 1
      have B12 := B1.get 2
      have B13 := B1.get 3
      have B1f0 := B1.fr 0
      have B1f1 := B1.fr 1
      have B1f2 := B1.fr 2
      have B1f3 := B1.fr 3
      have B1l := B1.lt
      simp only [List.getElem?_toArray, List.getElem?_cons_zero, List.getElem?_cons_succ] at B10 B11 B12 B13
      have B20 := B2.get 0
      have B21 := B2.get 1
      have B22 := B2.get 2
      have B23 := B2.get 3
      have B2f0 := B2.fr 0
      have B2f1 := B2.fr 1
      have B2f2 := B2.fr 2
      have B2f3 := B2.fr 3
      have B2l := B2.lt
      simp only [List.getElem?_toArray, List.getElem?_cons_zero, List.getElem?_cons_succ] at B20 B21 B22 B23
      go_wp2_with fail
      clear B10 B1f0 B11 B1f1 B12 B1f2 B13 B1f3 B1l
      clear B20 B2f0 B21 B2f1 B22 B2f2 B23 B2f3 B2l
      refine (CC.out _ U).mono ?_
      rintro _ w8 ⟨rfl, h8⟩
      replace U := U.trans h8
      replace B1 := B1.up h8
      replace B2 := B2.up h8
      clear h8
      go_wp2_with fail
      first | go_ret | refine bodyPost_ret (v := .bool true) (by simp [results, Tryd.results4, go_sem]) rfl ?_
      exact ⟨by first | rfl | simp, by first | exact U | exact U.alloc _ | exact U.drewN _ | exact U.drew⟩
  ·
    cases o
    ·
      obtain rfl : o' = false := by
        cases o'
        · rfl
        · exact absurd (ho rfl) (by decide)
      clear ho
      have U := Up.refl w
      go_enter Tryd.func4, Tryd.ntmps4
      go_wp2_with fail
      obtain ⟨V1, hV1⟩ : ∃ V1, w.alloc (.cells #[.bool ng2, .slice A2 ln2 cp2, .int .i64 tw2, .int .i64 fv2] 32) = V1 := ⟨_, rfl⟩
      have sV1 : V1.heap.size = w.heap.size + 1 := by rw [← hV1]; exact Array.size_push _
      have B1 : Ob V1 w.heap.size 32 #[.bool ng2, .slice A2 ln2 cp2, .int .i64 tw2, .int .i64 fv2] := by rw [← hV1]; exact Ob.mk_ _ _ _
      have uV1 : Up w V1 := by rw [← hV1]; exact (Up.refl _).alloc _
      have ltB1 : w.heap.size ≤ w.heap.size := U.size
      have ltB2 : w.heap.size ≤ w.heap.size + 1 := Nat.le_succ_of_le U.size
      rw [hV1]
      clear hV1
      obtain ⟨V2, hV2⟩ : ∃ V2, V1.alloc (.cells #[.bool ng3, .slice A3 ln3 cp3, .int .i64 tw3, .int .i64 fv3] 32) = V2 := ⟨_, rfl⟩
      have B2 : Ob V2 (w.heap.size + 1) 32 #[.bool ng3, .slice A3 ln3 cp3, .int .i64 tw3, .int .i64 fv3] := by rw [← sV1, ← hV2]; exact Ob.mk_ _ _ _
      have uV2 : Up V1 V2 := by rw [← hV2]; exact (Up.refl _).alloc _
      rw [hV2]
      clear hV2 sV1
      replace B1 := B1.up uV2
      replace uV2 := uV1.trans uV2
      clear uV1
      replace U := U.trans uV2
      clear uV2
      refine (shown8_any _ (Lib.hid (TT.out.up U)) (Lib.hid (TF.out.up U))).mono ?_
      rintro _ w3 ⟨rfl, h3⟩
      replace U := U.trans h3
      replace B1 := B1.up h3
      replace B2 := B2.up h3
      clear h3
      have B10 := B1.get 0
      have B11 := B1.get 1
      have B12 := B1.get 2
      have B13 := B1.get 3
      have B1f0 := B1.fr 0
      have B1f1 := B1.fr 1
      have B1f2 := B1.fr 2
      have B1f3 := B1.fr 3
      have B1l := B1.lt
      simp only [List.getElem?_toArray, List.getElem?_cons_zero, List.getElem?_cons_succ] at B10 B11 B12 B13
      go_wp2_with fail
      clear B10 B1f0 B11 B1f1 B12 B1f2 B13 B1f3 B1l
      refine (CS2.out _ U).mono ?_
      rintro _ w4 ⟨rfl, h4⟩
      replace U := U.trans h4
      replace B1 := B1.up h4
      replace B2 := B2.up h4
      clear h4
      have B20 := B2.get 0
      have B21 := B2.get 1
      have B22 := B2.get 2
      have B23 := B2.get 3
      have B2f0 := B2.fr 0
      have B2f1 := B2.fr 1
      have B2f2 := B2.fr 2
      have B2f3 := B2.fr 3
      have B2l := B2.lt
      simp only [List.getElem?_toArray, List.getElem?_cons_zero, List.getElem?_cons_succ] at B20 B21 B22 B23
      go_upto_region 3 with (refine store_ob2 rfl 32 (.tmp 6) (.tmp 19) rfl _ #[.bool ng2, .slice A2 ln2 cp2, .int .i64 tw2, .int .i64 fv2] #[.bool ng2, .slice A2 mm2 cp2, .int .i64 t, .int .i64 g] rfl rfl 4 (by kernel_rfl) rfl rfl (by simp [Value.oneCell']) w U ltB1 32 B1 ?_; clear U; intro VA Z9 U ho; replace B2 := Ob.oth B2 ho (by omega); clear ho B1; have B1 := Z9; clear Z9)
      clear B20 B2f0 B21 B2f1 B22 B2f2 B23 B2f3 B2l
      have B20 := B2.get 0
      have B21 := B2.get 1
      have B22 := B2.get 2
      have B23 := B2.get 3
      have B2f0 := B2.fr 0
      have B2f1 := B2.fr 1
      have B2f2 := B2.fr 2
      have B2f3 := B2.fr 3
      have B2l := B2.lt
      simp only [List.getElem?_toArray, List.getElem?_cons_zero, List.getElem?_cons_succ] at B20 B21 B22 B23
      go_wp2_with fail
      clear B20 B2f0 B21 B2f1 B22 B2f2 B23 B2f3 B2l
      refine (CS3.out _ U).mono ?_
      rintro _ w5 ⟨rfl, h5⟩
      replace U := U.trans h5
      replace B1 := B1.up h5
      replace B2 := B2.up h5
      clear h5
      go_upto_region 4 with (refine store_ob2 rfl 32 (.tmp 7) (.tmp 21) rfl _ #[.bool ng3, .slice A3 ln3 cp3, .int .i64 tw3, .int .i64 fv3] #[.bool ng3, .slice A3 mm3 cp3, .int .i64 t3, .int .i64 g3] rfl rfl 4 (by kernel_rfl) rfl rfl (by simp [Value.oneCell']) w U ltB2 32 B2 ?_; clear U; intro VB Z9 U ho; replace B1 := Ob.oth B1 ho (by omega); clear ho B2; have B2 := Z9; clear Z9)
      have B10 := B1.get 0
      have B11 := B1.get 1
      have B12 := B1.get 2
      have B13 := B1.get 3
      have B1f0 := B1.fr 0
      have B1f1 := B1.fr 1
      have B1f2 := B1.fr 2
      have B1f3 := B1.fr 3
      have B1l := B1.lt
      simp only [List.getElem?_toArray, List.getElem?_cons_zero, List.getElem?_cons_succ] at B10 B11 B12 B13
      go_wp2_with fail
      clear B10 B1f0 B11 B1f1 B12 B1f2 B13 B1f3 B1l
      refine (C1.out _ (TT.out.up U) (TF.out.up U) U).mono ?_
      rintro _ w6 ⟨rfl, h6⟩
      replace U := U.trans h6
      replace B1 := B1.up h6
      replace B2 := B2.up h6
      clear h6
      have B20 := B2.get 0
      have B21 := B2.get 1
      have B22 := B2.get 2
      have B23 := B2.get 3
      have B2f0 := B2.fr 0
      have B2f1 := B2.fr 1
      have B2f2 := B2.fr 2
      have B2f3 := B2.fr 3
      have B2l := B2.lt
      simp only [List.getElem?_toArray, List.getElem?_cons_zero, List.getElem?_cons_succ] at B20 B21 B22 B23
      go_wp2_with fail
      clear B20 B2f0 B21 B2f1 B22 B2f2 B23 B2f3 B2l
      refine (C2.out _ (TT.out.up U) (TF.out.up U) U).mono ?_
      rintro _ w7 ⟨rfl, h7⟩
      replace U := U.trans h7
      replace B1 := B1.up h7
      replace B2 := B2.up h7
      clear h7
      have B10 := B1.get 0
      have B11 := B1.get 1
      have B12 := B1.get 2
      have B13 := B1.get 3
      have B1f0 := B1.fr 0
      have B1f1 := B1.fr 1
      have B1f2 := B1.fr 2
      have B1f3 := B1.fr 3
      have B1l := B1.lt
      simp only [List.getElem?_toArray, List.getElem?_cons_zero, List.getElem?_cons_succ] at B10 B11 B12 B13
      have B20 := B2.get 0
      have B21 := B2.get 1
      have B22 := B2.get 2
      have B23 := B2.get 3
      have B2f0 := B2.fr 0
      have B2f1 := B2.fr 1
      have B2f2 := B2.fr 2
      have B2f3 := B2.fr 3
      have B2l := B2.lt
      simp only [List.getElem?_toArray, List.getElem?_cons_zero, List.getElem?_cons_succ] at B20 B21 B22 B23
      go_wp2_with fail
      clear B10 B1f0 B11 B1f1 B12 B1f2 B13 B1f3 B1l
      clear B20 B2f0 B21 B2f1 B22 B2f2 B23 B2f3 B2l
      refine (CC.out _ U).mono ?_
      rintro _ w8 ⟨rfl, h8⟩
      replace U := U.trans h8
      replace B1 := B1.up h8
      replace B2 := B2.up h8
      clear h8
      go_wp2_with fail
      first | go_ret | refine bodyPost_ret (v := .bool true) (by simp [results, Tryd.results4, go_sem]) rfl ?_
      exact ⟨by first | rfl | simp, by first | exact U | exact U.alloc _ | exact U.drewN _ | exact U.drew⟩
    ·
      clear ho
      have U := Up.refl w
      go_enter Tryd.func4, Tryd.ntmps4
      go_wp2_with fail
      obtain ⟨V1, hV1⟩ : ∃ V1, w.alloc (.cells #[.bool ng2, .slice A2 ln2 cp2, .int .i64 tw2, .int .i64 fv2] 32) = V1 := ⟨_, rfl⟩
      have sV1 : V1.heap.size = w.heap.size + 1 := by rw [← hV1]; exact Array.size_push _
      have B1 : Ob V1 w.heap.size 32 #[.bool ng2, .slice A2 ln2 cp2, .int .i64 tw2, .int .i64 fv2] := by rw [← hV1]; exact Ob.mk_ _ _ _
      have uV1 : Up w V1 := by rw [← hV1]; exact (Up.refl _).alloc _
      have ltB1 : w.heap.size ≤ w.heap.size := U.size
      have ltB2 : w.heap.size ≤ w.heap.size + 1 := Nat.le_succ_of_le U.size
      rw [hV1]
      clear hV1
      obtain ⟨V2, hV2⟩ : ∃ V2, V1.alloc (.cells #[.bool ng3, .slice A3 ln3 cp3, .int .i64 tw3, .int .i64 fv3] 32) = V2 := ⟨_, rfl⟩
      have B2 : Ob V2 (w.heap.size + 1) 32 #[.bool ng3, .slice A3 ln3 cp3, .int .i64 tw3, .int .i64 fv3] := by rw [← sV1, ← hV2]; exact Ob.mk_ _ _ _
      have uV2 : Up V1 V2 := by rw [← hV2]; exact (Up.refl _).alloc _
      rw [hV2]
      clear hV2 sV1
      replace B1 := B1.up uV2
      replace uV2 := uV1.trans uV2
      clear uV1
      replace U := U.trans uV2
      clear uV2
      refine (shown8_any _ (Lib.hid (TT.out.up U)) (Lib.hid (TF.out.up U))).mono ?_
      rintro _ w3 ⟨rfl, h3⟩
      replace U := U.trans h3
      replace B1 := B1.up h3
      replace B2 := B2.up h3
      clear h3
      have B10 := B1.get 0
      have B11 := B1.get 1
      have B12 := B1.get 2
      have B13 := B1.get 3
      have B1f0 := B1.fr 0
      have B1f1 := B1.fr 1
      have B1f2 := B1.fr 2
      have B1f3 := B1.fr 3
      have B1l := B1.lt
      simp only [List.getElem?_toArray, List.getElem?_cons_zero, List.getElem?_cons_succ] at B10 B11 B12 B13
      go_wp2_with fail
      clear B10 B1f0 B11 B1f1 B12 B1f2 B13 B1f3 B1l
      refine (CS2.out _ U).mono ?_
      rintro _ w4 ⟨rfl, h4⟩
      replace U := U.trans h4
      replace B1 := B1.up h4
      replace B2 := B2.up h4
      clear h4
      have B20 := B2.get 0
      have B21 := B2.get 1
      have B22 := B2.get 2
      have B23 := B2.get 3
      have B2f0 := B2.fr 0
      have B2f1 := B2.fr 1
      have B2f2 := B2.fr 2
      have B2f3 := B2.fr 3
      have B2l := B2.lt
      simp only [List.getElem?_toArray, List.getElem?_cons_zero, List.getElem?_cons_succ] at B20 B21 B22 B23
      go_upto_region 3 with (refine store_ob2 rfl 32 (.tmp 6) (.tmp 19) rfl _ #[.bool ng2, .slice A2 ln2 cp2, .int .i64 tw2, .int .i64 fv2] #[.bool ng2, .slice A2 mm2 cp2, .int .i64 t, .int .i64 g] rfl rfl 4 (by kernel_rfl) rfl rfl (by simp [Value.oneCell']) w U ltB1 32 B1 ?_; clear U; intro VA Z9 U ho; replace B2 := Ob.oth B2 ho (by omega); clear ho B1; have B1 := Z9; clear Z9)
      clear B20 B2f0 B21 B2f1 B22 B2f2 B23 B2f3 B2l
      have B20 := B2.get 0
      have B21 := B2.get 1
      have B22 := B2.get 2
      have B23 := B2.get 3
      have B2f0 := B2.fr 0
      have B2f1 := B2.fr 1
      have B2f2 := B2.fr 2
      have B2f3 := B2.fr 3
      have B2l := B2.lt
      simp only [List.getElem?_toArray, List.getElem?_cons_zero, List.getElem?_cons_succ] at B20 B21 B22 B23
      go_wp2_with fail
      clear B20 B2f0 B21 B2f1 B22 B2f2 B23 B2f3 B2l
      refine (CS3.out _ U).mono ?_
      rintro _ w5 ⟨rfl, h5⟩
      replace U := U.trans h5
      replace B1 := B1.up h5
      replace B2 := B2.up h5
      clear h5
      go_upto_region 4 with (refine store_ob2 rfl 32 (.tmp 7) (.tmp 21) rfl _ #[.bool ng3, .slice A3 ln3 cp3, .int .i64 tw3, .int .i64 fv3] #[.bool ng3, .slice A3 mm3 cp3, .int .i64 t3, .int .i64 g3] rfl rfl 4 (by kernel_rfl) rfl rfl (by simp [Value.oneCell']) w U ltB2 32 B2 ?_; clear U; intro VB Z9 U ho; replace B1 := Ob.oth B1 ho (by omega); clear ho B2; have B2 := Z9; clear Z9)
      have B10 := B1.get 0
      have B11 := B1.get 1
      have B12 := B1.get 2
      have B13 := B1.get 3
      have B1f0 := B1.fr 0
      have B1f1 := B1.fr 1
      have B1f2 := B1.fr 2
      have B1f3 := B1.fr 3
      have B1l := B1.lt
      simp only [List.getElem?_toArray, List.getElem?_cons_zero, List.getElem?_cons_succ] at B10 B11 B12 B13
      go_wp2_with fail
      clear B10 B1f0 B11 B1f1 B12 B1f2 B13 B1f3 B1l
      refine (C1.out _ (TT.out.up U) (TF.out.up U) U).mono ?_
      rintro _ w6 ⟨rfl, h6⟩
      replace U := U.trans h6
      replace B1 := B1.up h6
      replace B2 := B2.up h6
      clear h6
      have B20 := B2.get 0
      have B21 := B2.get 1
      have B22 := B2.get 2
      have B23 := B2.get 3
      have B2f0 := B2.fr 0
      have B2f1 := B2.fr 1
      have B2f2 := B2.fr 2
      have B2f3 := B2.fr 3
      have B2l := B2.lt
      simp only [List.getElem?_toArray, List.getElem?_cons_zero, List.getElem?_cons_succ] at B20 B21 B22 B23
      go_wp2_with fail
      clear B20 B2f0 B21 B2f1 B22 B2f2 B23 B2f3 B2l
      refine (C2.out _ (TT.out.up U) (TF.out.up U) U).mono ?_
      rintro _ w7 ⟨rfl, h7⟩
      replace U := U.trans h7
      replace B1 := B1.up h7
      replace B2 := B2.up h7
      clear h7
      have B10 := B1.get 0
      have B11 := B1.get 1
      have B12 := B1.get 2
      have B13 := B1.get 3
      have B1f0 := B1.fr 0
      have B1f1 := B1.fr 1
      have B1f2 := B1.fr 2
      have B1f3 := B1.fr 3
      have B1l := B1.lt
      simp only [List.getElem?_toArray, List.getElem?_cons_zero, List.getElem?_cons_succ] at B10 B11 B12 B13
      have B20 := B2.get 0
      have B21 := B2.get 1
      have B22 := B2.get 2
      have B23 := B2.get 3
      have B2f0 := B2.fr 0
      have B2f1 := B2.fr 1
      have B2f2 := B2.fr 2
      have B2f3 := B2.fr 3
      have B2l := B2.lt
      simp only [List.getElem?_toArray, List.getElem?_cons_zero, List.getElem?_cons_succ] at B20 B21 B22 B23
      go_wp2_with fail
      clear B10 B1f0 B11 B1f1 B12 B1f2 B13 B1f3 B1l
      clear B20 B2f0 B21 B2f1 B22 B2f2 B23 B2f3 B2l
      refine (CC.out _ U).mono ?_
      rintro _ w8 ⟨rfl, h8⟩
      replace U := U.trans h8
      replace B1 := B1.up h8
      replace B2 := B2.up h8
      clear h8
      go_wp2_with fail
      first | go_ret | refine bodyPost_ret (v := .bool true) (by simp [results, Tryd.results4, go_sem]) rfl ?_
      exact ⟨by first | rfl | simp, by first | exact U | exact U.alloc _ | exact U.drewN _ | exact U.drew⟩
  ·
    cases o
    ·
      have U := Up.refl w
      go_enter Tryd.func4, Tryd.ntmps4
      go_wp2_with fail
      obtain ⟨V1, hV1⟩ : ∃ V1, w.alloc (.cells #[.bool ng2, .slice A2 ln2 cp2, .int .i64 tw2, .int .i64 fv2] 32) = V1 := ⟨_, rfl⟩
      have sV1 : V1.heap.size = w.heap.size + 1 := by rw [← hV1]; exact Array.size_push _
      have B1 : Ob V1 w.heap.size 32 #[.bool ng2, .slice A2 ln2 cp2, .int .i64 tw2, .int .i64 fv2] := by rw [← hV1]; exact Ob.mk_ _ _ _
      have uV1 : Up w V1 := by rw [← hV1]; exact (Up.refl _).alloc _
      have ltB1 : w.heap.size ≤ w.heap.size := U.size
      have ltB2 : w.heap.size ≤ w.heap.size + 1 := Nat.le_succ_of_le U.size
      rw [hV1]
      clear hV1
      obtain ⟨V2, hV2⟩ : ∃ V2, V1.alloc (.cells #[.bool ng3, .slice A3 ln3 cp3, .int .i64 tw3, .int .i64 fv3] 32) = V2 := ⟨_, rfl⟩
      have B2 : Ob V2 (w.heap.size + 1) 32 #[.bool ng3, .slice A3 ln3 cp3, .int .i64 tw3, .int .i64 fv3] := by rw [← sV1, ← hV2]; exact Ob.mk_ _ _ _
      have uV2 : Up V1 V2 := by rw [← hV2]; exact (Up.refl _).alloc _
      rw [hV2]
      clear hV2 sV1
      replace B1 := B1.up uV2
      replace uV2 := uV1.trans uV2
      clear uV1
      replace U := U.trans uV2
      clear uV2
      refine (shown8_any _ (Lib.hid (TT.out.up U)) (Lib.hid (TF.out.up U))).mono ?_
      rintro _ w3 ⟨rfl, h3⟩
      replace U := U.trans h3
      replace B1 := B1.up h3
      replace B2 := B2.up h3
      clear h3
      have B10 := B1.get 0
      have B11 := B1.get 1
      have B12 := B1.get 2
      have B13 := B1.get 3
      have B1f0 := B1.fr 0
      have B1f1 := B1.fr 1
      have B1f2 := B1.fr 2
      have B1f3 := B1.fr 3
      have B1l := B1.lt
      simp only [List.getElem?_toArray, List.getElem?_cons_zero, List.getElem?_cons_succ] at B10 B11 B12 B13
      go_wp2_with fail
      clear B10 B1f0 B11 B1f1 B12 B1f2 B13 B1f3 B1l
      refine (CS2.out _ U).mono ?_
      rintro _ w4 ⟨rfl, h4⟩
      replace U := U.trans h4
      replace B1 := B1.up h4
      replace B2 := B2.up h4
      clear h4
      have B20 := B2.get 0
      have B21 := B2.get 1
      have B22 := B2.get 2
      have B23 := B2.get 3
      have B2f0 := B2.fr 0
      have B2f1 := B2.fr 1
      have B2f2 := B2.fr 2
      have B2f3 := B2.fr 3
      have B2l := B2.lt
      simp only [List.getElem?_toArray, List.getElem?_cons_zero, List.getElem?_cons_succ] at B20 B21 B22 B23
      go_upto_region 3 with (refine store_ob2 rfl 32 (.tmp 6) (.tmp 19) rfl _ #[.bool ng2, .slice A2 ln2 cp2, .int .i64 tw2, .int .i64 fv2] #[.bool ng2, .slice A2 mm2 cp2, .int .i64 t, .int .i64 g] rfl rfl 4 (by kernel_rfl) rfl rfl (by simp [Value.oneCell']) w U ltB1 32 B1 ?_; clear U; intro VA Z9 U ho; replace B2 := Ob.oth B2 ho (by omega); clear ho B1; have B1 := Z9; clear Z9)
      clear B20 B2f0 B21 B2f1 B22 B2f2 B23 B2f3 B2l
      have B20 := B2.get 0
      have B21 := B2.get 1
      have B22 := B2.get 2
      have B23 := B2.get 3
      have B2f0 := B2.fr 0
      have B2f1 := B2.fr 1
      have B2f2 := B2.fr 2
      have B2f3 := B2.fr 3
      have B2l := B2.lt
      simp only [List.getElem?_toArray, List.getElem?_cons_zero, List.getElem?_cons_succ] at B20 B21 B22 B23
      go_wp2_with fail
      clear B20 B2f0 B21 B2f1 B22 B2f2 B23 B2f3 B2l
      refine (CS3.out _ U).mono ?_
      rintro _ w5 ⟨rfl, h5⟩
      replace U := U.trans h5
      replace B1 := B1.up h5
      replace B2 := B2.up h5
      clear h5
      go_upto_region 4 with (refine store_ob2 rfl 32 (.tmp 7) (.tmp 21) rfl _ #[.bool ng3, .slice A3 ln3 cp3, .int .i64 tw3, .int .i64 fv3] #[.bool ng3, .slice A3 mm3 cp3, .int .i64 t3, .int .i64 g3] rfl rfl 4 (by kernel_rfl) rfl rfl (by simp [Value.oneCell']) w U ltB2 32 B2 ?_; clear U; intro VB Z9 U ho; replace B1 := Ob.oth B1 ho (by omega); clear ho B2; have B2 := Z9; clear Z9)
      have B10 := B1.get 0
      have B11 := B1.get 1
      have B12 := B1.get 2
      have B13 := B1.get 3
      have B1f0 := B1.fr 0
      have B1f1 := B1.fr 1
      have B1f2 := B1.fr 2
      have B1f3 := B1.fr 3
      have B1l := B1.lt
      simp only [List.getElem?_toArray, List.getElem?_cons_zero, List.getElem?_cons_succ] at B10 B11 B12 B13
      go_wp2_with fail
      clear B10 B1f0 B11 B1f1 B12 B1f2 B13 B1f3 B1l
      refine (C1.out _ (TT.out.up U) (TF.out.up U) U).mono ?_
      rintro _ w6 ⟨rfl, h6⟩
      replace U := U.trans h6
      replace B1 := B1.up h6
      replace B2 := B2.up h6
      clear h6
      have B20 := B2.get 0
      have B21 := B2.get 1
      have B22 := B2.get 2
      have B23 := B2.get 3
      have B2f0 := B2.fr 0
      have B2f1 := B2.fr 1
      have B2f2 := B2.fr 2
      have B2f3 := B2.fr 3
      have B2l := B2.lt
      simp only [List.getElem?_toArray, List.getElem?_cons_zero, List.getElem?_cons_succ] at B20 B21 B22 B23
      go_wp2_with fail
      clear B20 B2f0 B21 B2f1 B22 B2f2 B23 B2f3 B2l
      refine (C2.out _ (TT.out.up U) (TF.out.up U) U).mono ?_
      rintro _ w7 ⟨rfl, h7⟩
      replace U := U.trans h7
      replace B1 := B1.up h7
      replace B2 := B2.up h7
      clear h7
      have B10 := B1.get 0
      have B11 := B1.get 1
      have B12 := B1.get 2
      have B13 := B1.get 3
      have B1f0 := B1.fr 0
      have B1f1 := B1.fr 1
      have B1f2 := B1.fr 2
      have B1f3 := B1.fr 3
      have B1l := B1.lt
      simp only [List.getElem?_toArray, List.getElem?_cons_zero, List.getElem?_cons_succ] at B10 B11 B12 B13
      have B20 := B2.get 0
      have B21 := B2.get 1
      have B22 := B2.get 2
      have B23 := B2.get 3
      have B2f0 := B2.fr 0
      have B2f1 := B2.fr 1
      have B2f2 := B2.fr 2
      have B2f3 := B2.fr 3
      have B2l := B2.lt
      simp only [List.getElem?_toArray, List.getElem?_cons_zero, List.getElem?_cons_succ] at B20 B21 B22 B23
      go_wp2_with fail
      clear B10 B1f0 B11 B1f1 B12 B1f2 B13 B1f3 B1l
      clear B20 B2f0 B21 B2f1 B22 B2f2 B23 B2f3 B2l
      refine (CC.out _ U).mono ?_
      rintro _ w8 ⟨rfl, h8⟩
      replace U := U.trans h8
      replace B1 := B1.up h8
      replace B2 := B2.up h8
      clear h8
      go_wp2_with fail
      first | go_ret | refine bodyPost_ret (v := .bool true) (by simp [results, Tryd.results4, go_sem]) rfl ?_
      exact ⟨by first | rfl | simp, by first | exact U | exact U.alloc _ | exact U.drewN _ | exact U.drew⟩
    ·
      have U := Up.refl w
      go_enter Tryd.func4, Tryd.ntmps4
      go_wp2_with fail
      obtain ⟨V1, hV1⟩ : ∃ V1, w.alloc (.cells #[.bool ng2, .slice A2 ln2 cp2, .int .i64 tw2, .int .i64 fv2] 32) = V1 := ⟨_, rfl⟩
      have sV1 : V1.heap.size = w.heap.size + 1 := by rw [← hV1]; exact Array.size_push _
      have B1 : Ob V1 w.heap.size 32 #[.bool ng2, .slice A2 ln2 cp2, .int .i64 tw2, .int .i64 fv2] := by rw [← hV1]; exact Ob.mk_ _ _ _
      have uV1 : Up w V1 := by rw [← hV1]; exact (Up.refl _).alloc _
      have ltB1 : w.heap.size ≤ w.heap.size := U.size
      have ltB2 : w.heap.size ≤ w.heap.size + 1 := Nat.le_succ_of_le U.size
      rw [hV1]
      clear hV1
      obtain ⟨V2, hV2⟩ : ∃ V2, V1.alloc (.cells #[.bool ng3, .slice A3 ln3 cp3, .int .i64 tw3, .int .i64 fv3] 32) = V2 := ⟨_, rfl⟩
      have B2 : Ob V2 (w.heap.size + 1) 32 #[.bool ng3, .slice A3 ln3 cp3, .int .i64 tw3, .int .i64 fv3] := by rw [← sV1, ← hV2]; exact Ob.mk_ _ _ _
      have uV2 : Up V1 V2 := by rw [← hV2]; exact (Up.refl _).alloc _
      rw [hV2]
      clear hV2 sV1
      replace B1 := B1.up uV2
      replace uV2 := uV1.trans uV2
      clear uV1
      replace U := U.trans uV2
      clear uV2
      refine (shown8_any _ (Lib.hid (TT.out.up U)) (Lib.hid (TF.out.up U))).mono ?_
      rintro _ w3 ⟨rfl, h3⟩
      replace U := U.trans h3
      replace B1 := B1.up h3
      replace B2 := B2.up h3
      clear h3
      have B10 := B1.get 0
      have B11 := B1.get 1
      have B12 := B1.get 2
      have B13 := B1.get 3
      have B1f0 := B1.fr 0
      have B1f1 := B1.fr 1
      have B1f2 := B1.fr 2
      have B1f3 := B1.fr 3
      have B1l := B1.lt
      simp only [List.getElem?_toArray, List.getElem?_cons_zero, List.getElem?_cons_succ] at B10 B11 B12 B13
      go_wp2_with fail
      clear B10 B1f0 B11 B1f1 B12 B1f2 B13 B1f3 B1l
      refine (CS2.out _ U).mono ?_
      rintro _ w4 ⟨rfl, h4⟩
      replace U := U.trans h4
      replace B1 := B1.up h4
      replace B2 := B2.up h4
      clear h4
      have B20 := B2.get 0
      have B21 := B2.get 1
      have B22 := B2.get 2
      have B23 := B2.get 3
      have B2f0 := B2.fr 0
      have B2f1 := B2.fr 1
      have B2f2 := B2.fr 2
      have B2f3 := B2.fr 3
      have B2l := B2.lt
      simp only [List.getElem?_toArray, List.getElem?_cons_zero, List.getElem?_cons_succ] at B20 B21 B22 B23
      go_upto_region 3 with (refine store_ob2 rfl 32 (.tmp 6) (.tmp 19) rfl _ #[.bool ng2, .slice A2 ln2 cp2, .int .i64 tw2, .int .i64 fv2] #[.bool ng2, .slice A2 mm2 cp2, .int .i64 t, .int .i64 g] rfl rfl 4 (by kernel_rfl) rfl rfl (by simp [Value.oneCell']) w U ltB1 32 B1 ?_; clear U; intro VA Z9 U ho; replace B2 := Ob.oth B2 ho (by omega); clear ho B1; have B1 := Z9; clear Z9)
      clear B20 B2f0 B21 B2f1 B22 B2f2 B23 B2f3 B2l
      have B20 := B2.get 0
      have B21 := B2.get 1
      have B22 := B2.get 2
      have B23 := B2.get 3
      have B2f0 := B2.fr 0
      have B2f1 := B2.fr 1
      have B2f2 := B2.fr 2
      have B2f3 := B2.fr 3
      have B2l := B2.lt
      simp only [List.getElem?_toArray, List.getElem?_cons_zero, List.getElem?_cons_succ] at B20 B21 B22 B23
      go_wp2_with fail
      clear B20 B2f0 B21 B2f1 B22 B2f2 B23 B2f3 B2l
      refine (CS3.out _ U).mono ?_
      rintro _ w5 ⟨rfl, h5⟩
      replace U := U.trans h5
      replace B1 := B1.up h5
      replace B2 := B2.up h5
      clear h5
      go_upto_region 4 with (refine store_ob2 rfl 32 (.tmp 7) (.tmp 21) rfl _ #[.bool ng3, .slice A3 ln3 cp3, .int .i64 tw3, .int .i64 fv3] #[.bool ng3, .slice A3 mm3 cp3, .int .i64 t3, .int .i64 g3] rfl rfl 4 (by kernel_rfl) rfl rfl (by simp [Value.oneCell']) w U ltB2 32 B2 ?_; clear U; intro VB Z9 U ho; replace B1 := Ob.oth B1 ho (by omega); clear ho B2; have B2 := Z9; clear Z9)
      have B10 := B1.get 0
      have B11 := B1.get 1
      have B12 := B1.get 2
      have B13 := B1.get 3
      have B1f0 := B1.fr 0
      have B1f1 := B1.fr 1
      have B1f2 := B1.fr 2
      have B1f3 := B1.fr 3
      have B1l := B1.lt
      simp only [List.getElem?_toArray, List.getElem?_cons_zero, List.getElem?_cons_succ] at B10 B11 B12 B13
      go_wp2_with fail
      clear B10 B1f0 B11 B1f1 B12 B1f2 B13 B1f3 B1l
      refine (C1.out _ (TT.out.up U) (TF.out.up U) U).mono ?_
      rintro _ w6 ⟨rfl, h6⟩
      replace U := U.trans h6
      replace B1 := B1.up h6
      replace B2 := B2.up h6
      clear h6
      have B20 := B2.get 0
      have B21 := B2.get 1
      have B22 := B2.get 2
      have B23 := B2.get 3
      have B2f0 := B2.fr 0
      have B2f1 := B2.fr 1
      have B2f2 := B2.fr 2
      have B2f3 := B2.fr 3
      have B2l := B2.lt
      simp only [List.getElem?_toArray, List.getElem?_cons_zero, List.getElem?_cons_succ] at B20 B21 B22 B23
      go_wp2_with fail
      clear B20 B2f0 B21 B2f1 B22 B2f2 B23 B2f3 B2l
      refine (C2.out _ (TT.out.up U) (TF.out.up U) U).mono ?_
      rintro _ w7 ⟨rfl, h7⟩
      replace U := U.trans h7
      replace B1 := B1.up h7
      replace B2 := B2.up h7
      clear h7
      have B10 := B1.get 0
      have B11 := B1.get 1
      have B12 := B1.get 2
      have B13 := B1.get 3
      have B1f0 := B1.fr 0
      have B1f1 := B1.fr 1
      have B1f2 := B1.fr 2
      have B1f3 := B1.fr 3
      have B1l := B1.lt
      simp only [List.getElem?_toArray, List.getElem?_cons_zero, List.getElem?_cons_succ] at B10 B11 B12 B13
      have B20 := B2.get 0
      have B21 := B2.get 1
      have B22 := B2.get 2
      have B23 := B2.get 3
      have B2f0 := B2.fr 0
      have B2f1 := B2.fr 1
      have B2f2 := B2.fr 2
      have B2f3 := B2.fr 3
      have B2l := B2.lt
      simp only [List.getElem?_toArray, List.getElem?_cons_zero, List.getElem?_cons_succ] at B20 B21 B22 B23
      go_wp2_with fail
      clear B10 B1f0 B11 B1f1 B12 B1f2 B13 B1f3 B1l
      clear B20 B2f0 B21 B2f1 B22 B2f2 B23 B2f3 B2l
      refine (CC.out _ U).mono ?_
      rintro _ w8 ⟨rfl, h8⟩
      replace U := U.trans h8
      replace B1 := B1.up h8
      replace B2 := B2.up h8
      clear h8
      go_wp2_with fail
      first | go_ret | refine bodyPost_ret (v := .bool true) (by simp [results, Tryd.results4, go_sem]) rfl ?_
      exact ⟨by first | rfl | simp, by first | exact U | exact U.alloc _ | exact U.drewN _ | exact U.drew⟩
end Go.Proofs.YtlogglhonlannaaDoor
