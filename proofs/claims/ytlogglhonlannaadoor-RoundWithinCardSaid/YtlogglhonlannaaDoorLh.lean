/-
  RoundWithin.
-/
import Derived.Test.YtlogglhonlannaaDoorLb
namespace Go.Proofs.YtlogglhonlannaaDoor
open Go.RowKit
set_option linter.unusedSimpArgs false
set_option linter.unusedVariables false

theorem ob_next (w : World) (ty : TypeId) (c1 c2 : Array Value) : Ob ((w.alloc (.cells c1 ty)).alloc (.cells c2 ty)) (w.heap.size + 1) ty c2 := by
  have h := Ob.mk_ (w.alloc (.cells c1 ty)) ty c2
  rwa [show (w.alloc (.cells c1 ty)).heap.size = w.heap.size + 1 from Array.size_push _] at h
set_option maxHeartbeats 4000000 in
set_option maxRecDepth 100000 in
theorem rwithin_walk (w : World) (TT : Hid (Tz w)) (TF : Hid (TabF w)) (x0 : Int) (_wx0 : (Lit.int .i64 x0).wf = true) (ng1 : Bool) (A1 : Option Addr) (ln1 cp1 : Nat) (xs1 : List Nat) (sr1 : Src w A1 ln1 cp1 xs1) (fz1 : Fz w A1 ln1) (_mx1 : cp1 ≤ maxLen) (tw1 : Int) (_wt1 : (Lit.int .i64 tw1).wf = true) (fv1 : Int) (_wv1 : (Lit.int .i64 fv1).wf = true) : Calls Tryd.prog 5 #[.int .i64 x0, xv ng1 (.slice A1 ln1 cp1) tw1 fv1] w (True8 w) := by
  obtain ⟨t, ht⟩ : ∃ z, max (min tw1 1000) (-1000) = z := ⟨_, rfl⟩
  obtain ⟨g, hg⟩ : ∃ z, max (min fv1 1000) (-1000) = z := ⟨_, rfl⟩
  obtain ⟨mm1, a1, N1, CS1⟩ := small8_ex w ng1 A1 ln1 cp1 xs1 tw1 fv1 sr1 fz1 t g ht hg
  have bt : -5000 ≤ t ∧ t ≤ 5000 := by omega
  have bg : -5000 ≤ g ∧ g ≤ 5000 := by omega
  have h1281 := N1.lt128 (by decide)
  clear ht hg sr1 fz1
  obtain ⟨X, hX⟩ : ∃ X, M.sz a1 t g = X := ⟨_, rfl⟩
  have CR := Lib.hid (fun W (T : Tz W) (F : TabF W) (U : Up w W) (p e : Int) (hr : M.Rc x0 2 ng1 X p e) => rnd_round W (Lib.hid T) (Lib.hid F) x0 2 0 40 ng1 (.slice A1 mm1 cp1) t g a1 (N1.up U) (by decide) bt bg h1281 p e (by rw [hX]; exact hr))
  have CC := Lib.hid (fun W (U : Up w W) (lo : Nat) (v : Value) (m : Nat) (z c : Int) (zb : -3000 ≤ z ∧ z ≤ 3000) (N : Nt W lo 1 v m) (hc : M.cmp X (M.sz m z 0) = c) => xcmp_ov (-5000) (by omega) W 0 lo 40 1 ng1 false (.slice A1 mm1 cp1) v t g z 0 a1 m (N1.up U).nw N.nw (by decide) (by decide) ⟨by omega, by omega⟩ ⟨by omega, by omega⟩ ⟨by omega, by omega⟩ ⟨by omega, by omega⟩ c (by rw [M.sz_ov, M.sz_ov, hX]; exact hc))
  clear hX N1 h1281 bt bg
  rcases M.in_or_out x0 with ho | ⟨i, rfl, i1, i2⟩
  ·
    have CR1 := Lib.hid (fun W T F U => CR.out W T F U 0 3 (.inl ⟨ho, rfl, rfl⟩))
    have CD := Lib.hid (fun W (T : Tz W) (F : TabF W) => show Calls Tryd.prog 10 #[.int .i64 x0, .int .u64 0] W (Vd 0 false 0 0 3 W) from vdecode_any W (Lib.hid T) (Lib.hid F) x0 0 (by decide) 0 false 0 0 3 (.inl ⟨ho, rfl, rfl, rfl, rfl, rfl⟩))
    clear CR CC ho
    have U := Up.refl w
    go_enter Tryd.func5, Tryd.ntmps5
    go_wp2_with fail
    obtain ⟨V1, hV1⟩ : ∃ V1, w.alloc (.cells #[.bool ng1, .slice A1 ln1 cp1, .int .i64 tw1, .int .i64 fv1] 32) = V1 := ⟨_, rfl⟩
    have B : Ob V1 w.heap.size 32 #[.bool ng1, .slice A1 ln1 cp1, .int .i64 tw1, .int .i64 fv1] := by rw [← hV1]; exact Ob.mk_ _ _ _
    have uV1 : Up w V1 := by rw [← hV1]; exact (Up.refl _).alloc _
    have ltB : w.heap.size ≤ w.heap.size := U.size
    rw [hV1]
    clear hV1
    replace U := U.trans uV1
    clear uV1
    refine (shown8_any _ (Lib.hid (TT.out.up U)) (Lib.hid (TF.out.up U))).mono ?_
    rintro _ w2 ⟨rfl, h2⟩
    replace U := U.trans h2
    replace B := B.up h2
    clear h2
    have B0 := B.get 0
    have B1 := B.get 1
    have B2 := B.get 2
    have B3 := B.get 3
    have Bf0 := B.fr 0
    have Bf1 := B.fr 1
    have Bf2 := B.fr 2
    have Bf3 := B.fr 3
    have Bl := B.lt
    simp only [List.getElem?_toArray, List.getElem?_cons_zero, List.getElem?_cons_succ] at B0 B1 B2 B3
    go_wp2_with fail
    clear B0 Bf0 B1 Bf1 B2 Bf2 B3 Bf3 Bl
    refine (CS1.out _ U).mono ?_
    rintro _ w3 ⟨rfl, h3⟩
    replace U := U.trans h3
    replace B := B.up h3
    clear h3
    go_upto_region 3 with (refine store_ob2 rfl 32 (.tmp 3) (.tmp 18) rfl _ #[.bool ng1, .slice A1 ln1 cp1, .int .i64 tw1, .int .i64 fv1] #[.bool ng1, .slice A1 mm1 cp1, .int .i64 t, .int .i64 g] rfl rfl 4 (by kernel_rfl) rfl rfl (by simp [Value.oneCell']) w U ltB 32 B ?_; clear U; intro V9 Z9 U ho; clear ho B; have B := Z9; clear Z9)
    have B0 := B.get 0
    have B1 := B.get 1
    have B2 := B.get 2
    have B3 := B.get 3
    have Bf0 := B.fr 0
    have Bf1 := B.fr 1
    have Bf2 := B.fr 2
    have Bf3 := B.fr 3
    have Bl := B.lt
    simp only [List.getElem?_toArray, List.getElem?_cons_zero, List.getElem?_cons_succ] at B0 B1 B2 B3
    go_wp2_with fail
    clear B0 Bf0 B1 Bf1 B2 Bf2 B3 Bf3 Bl
    refine (CR1.out _ (TT.out.up U) (TF.out.up U) U).mono ?_
    rintro _ w4 ⟨rfl, h4⟩
    replace U := U.trans h4
    replace B := B.up h4
    clear h4
    go_wp2_with fail
    refine (CD.out _ (TT.out.up U) (TF.out.up U)).mono ?_
    rintro _ w5 ⟨rfl, h5⟩
    replace U := U.trans h5
    replace B := B.up h5
    clear h5
    go_wp2_with fail
    first | go_ret | refine bodyPost_ret (v := .bool true) (by simp [results, Tryd.results5, go_sem]) rfl ?_
    exact ⟨by first | rfl | simp, by first | exact U | exact U.alloc _ | exact U.drewN _ | exact U.drew⟩
  ·
    have ok := M.ok i i1 i2
    have ok2 := M.ok2 i i1 i2
    have ok3 := M.ok3 i i1 i2
    obtain ⟨p, hp⟩ := M.rv_ex ok ok2 ok3 2 ng1 X
    obtain ⟨p0, pm, hc⟩ := M.rv_class ok ok2 ok3 hp
    obtain ⟨p, rfl⟩ := Int.eq_ofNat_of_zero_le p0
    have CR1 := Lib.hid (fun W T F U => CR.out W T F U p 0 (.inr ⟨i, rfl, i1, i2, .inr ⟨.inr rfl, hp, rfl⟩⟩))
    have pb : p < 18446744073709551616 := by have := ok.hm; omega
    obtain ⟨c, gg, m, z, hd⟩ := M.dv_ex ok ok2 (p := (p : Int)) p0 pm
    have CD := Lib.hid (fun W (T : Tz W) (F : TabF W) => vdecode_any W (Lib.hid T) (Lib.hid F) (i : Int) p pb c gg m z 0 (.inr ⟨i, rfl, i1, i2, .inr ⟨pm, hd, rfl⟩⟩))
    have hcl : M.cls (M.tb i) p = c ∧ (c = 2 → gg = M.ngs (M.tb i) p) := by
      rcases hd with ⟨h, rfl, _⟩ | ⟨h, rfl, _⟩ | ⟨h, rfl, _⟩ | ⟨h, rfl, h2, _⟩
      · exact ⟨h, fun e => by omega⟩
      · exact ⟨h, fun e => by omega⟩
      · exact ⟨h, fun e => by omega⟩
      · exact ⟨h, fun _ => h2⟩
    clear CR
    by_cases c2 : c = 2
    ·
      subst c2
      have hc2 : ∃ q k o, M.mst (M.tb i) ng1 = (q : Nat) ∧ M.Nr (M.tb i) q X k o ∧ ¬ (o = true ∧ ¬ M.st (M.tb i) 2) ∧ k ≤ q ∧ (q : Int) ≤ M.tp (M.tb i) ∧ M.kyf (M.tb i) p = k ∧ M.ngs (M.tb i) p = ng1 := by
        rcases hc with ⟨h1, _⟩ | ⟨h1, q, k, o, hq, hn, ho, hpp, kq, qt⟩
        · have := hcl.1
          omega
        · have h4 : ¬ ((M.tb i).k = 4 ∧ ng1 = true) := fun e => h1 ⟨e.1, .inl e.2⟩
          obtain ⟨_, _, r3, r4⟩ := M.pat_key ok ok2 ok3 h4 (k := k) (by omega)
          rw [← hpp] at r3 r4
          have k0 : k ≠ 0 ∨ (M.tb i).k = 4 := by
            rcases Nat.eq_zero_or_pos k with e | e
            · rcases (show (M.tb i).k = 4 ∨ (M.tb i).k ≠ 4 by omega) with e2 | e2
              · exact .inr e2
              · have := r4 ⟨e, e2⟩
                have := hcl.1
                omega
            · exact .inl (by omega)
          exact ⟨q, k, o, hq, hn, ho, kq, qt, (r3 k0).2.1, (r3 k0).2.2⟩
      obtain ⟨q, k, o, hq, hn, ho, kq, qt, hky, hng⟩ := hc2
      obtain rfl : ng1 = gg := ((hcl.2 rfl).trans hng).symm
      obtain ⟨m1, z1, m2, z2, hl⟩ := M.lm_ex ok ok2 ok3 ng1 (k := k) (by omega)
      obtain ⟨ev, hev⟩ : ∃ ev, decide (k % 2 = 0) = ev := ⟨_, rfl⟩
      have CL := Lib.hid (fun W (T : Tz W) (F : TabF W) => rnd_limits W (Lib.hid T) (Lib.hid F) (i : Int) p pb m1 z1 m2 z2 ev 0 ⟨ng1, k, .inr ⟨i, rfl, i1, i2, .inr ⟨pm, .inr ⟨hcl.1, hng.symm, hky, rfl⟩⟩⟩, .inr ⟨rfl, fun j hj => by
        obtain rfl : i = j := by omega
        exact hl, hev.symm⟩⟩)
      obtain ⟨w1, w2, w3, mb1, mb2, zb1, zb2, zb3, zb4⟩ := M.within ok ok2 ok3 hq kq qt hn ho hl
      obtain ⟨c1, hc1⟩ : ∃ c, M.cmp X (M.sz m1 z1 0) = c := ⟨_, rfl⟩
      obtain ⟨c2, hc2⟩ : ∃ c, M.cmp X (M.sz m2 z2 0) = c := ⟨_, rfl⟩
      have C1 := Lib.hid (fun W U lo v N => CC.out W U lo v m1 z1 c1 ⟨zb1, zb2⟩ N hc1)
      have C2 := Lib.hid (fun W U lo v N => CC.out W U lo v m2 z2 c2 ⟨zb3, zb4⟩ N hc2)
      have F1 : (c1 = 0 ∧ ev = true) ∨ c1 = 1 := by
        rcases Nat.lt_trichotomy X (M.sz m1 z1 0) with h | h | h
        · omega
        · refine .inl ⟨by rw [← hc1]; exact M.cmp_eq h, ?_⟩
          rw [← hev]
          refine decide_eq_true ?_
          have : ¬ (k % 2 = 1) := fun e => by have := w2 e; omega
          omega
        · exact .inr (by rw [← hc1]; exact M.cmp_gt h)
      have F2 : m2 = 0 ∨ (m2 ≠ 0 ∧ ((c2 = 0 ∧ ev = true) ∨ c2 = -1)) := by
        rcases w3 with h0 | ⟨h0, h1, h2⟩
        · exact .inl h0
        · refine .inr ⟨h0, ?_⟩
          rcases Nat.lt_trichotomy X (M.sz m2 z2 0) with h | h | h
          · exact .inr (by rw [← hc2]; exact M.cmp_lt h)
          · refine .inl ⟨by rw [← hc2]; exact M.cmp_eq h, ?_⟩
            rw [← hev]
            refine decide_eq_true ?_
            have : ¬ (k % 2 = 1) := fun e => by have := h2 e; omega
            omega
          · omega
      clear CC hp hc hd hcl ok ok2 ok3 pm p0 hq hn ho kq qt hky hng hl hev w1 w2 w3 mb1 mb2 zb1 zb2 zb3 zb4 hc1 hc2
      rcases F2 with rfl | ⟨m20, F3⟩
      ·
        clear C2
        rcases F1 with ⟨rfl, rfl⟩ | rfl
        ·
          have U := Up.refl w
          go_enter Tryd.func5, Tryd.ntmps5
          go_wp2_with fail
          obtain ⟨V1, hV1⟩ : ∃ V1, w.alloc (.cells #[.bool ng1, .slice A1 ln1 cp1, .int .i64 tw1, .int .i64 fv1] 32) = V1 := ⟨_, rfl⟩
          have B : Ob V1 w.heap.size 32 #[.bool ng1, .slice A1 ln1 cp1, .int .i64 tw1, .int .i64 fv1] := by rw [← hV1]; exact Ob.mk_ _ _ _
          have uV1 : Up w V1 := by rw [← hV1]; exact (Up.refl _).alloc _
          have ltB : w.heap.size ≤ w.heap.size := U.size
          rw [hV1]
          clear hV1
          replace U := U.trans uV1
          clear uV1
          refine (shown8_any _ (Lib.hid (TT.out.up U)) (Lib.hid (TF.out.up U))).mono ?_
          rintro _ w2 ⟨rfl, h2⟩
          replace U := U.trans h2
          replace B := B.up h2
          clear h2
          have B0 := B.get 0
          have B1 := B.get 1
          have B2 := B.get 2
          have B3 := B.get 3
          have Bf0 := B.fr 0
          have Bf1 := B.fr 1
          have Bf2 := B.fr 2
          have Bf3 := B.fr 3
          have Bl := B.lt
          simp only [List.getElem?_toArray, List.getElem?_cons_zero, List.getElem?_cons_succ] at B0 B1 B2 B3
          go_wp2_with fail
          clear B0 Bf0 B1 Bf1 B2 Bf2 B3 Bf3 Bl
          refine (CS1.out _ U).mono ?_
          rintro _ w3 ⟨rfl, h3⟩
          replace U := U.trans h3
          replace B := B.up h3
          clear h3
          go_upto_region 3 with (refine store_ob2 rfl 32 (.tmp 3) (.tmp 18) rfl _ #[.bool ng1, .slice A1 ln1 cp1, .int .i64 tw1, .int .i64 fv1] #[.bool ng1, .slice A1 mm1 cp1, .int .i64 t, .int .i64 g] rfl rfl 4 (by kernel_rfl) rfl rfl (by simp [Value.oneCell']) w U ltB 32 B ?_; clear U; intro V9 Z9 U ho; clear ho B; have B := Z9; clear Z9)
          have B0 := B.get 0
          have B1 := B.get 1
          have B2 := B.get 2
          have B3 := B.get 3
          have Bf0 := B.fr 0
          have Bf1 := B.fr 1
          have Bf2 := B.fr 2
          have Bf3 := B.fr 3
          have Bl := B.lt
          simp only [List.getElem?_toArray, List.getElem?_cons_zero, List.getElem?_cons_succ] at B0 B1 B2 B3
          go_wp2_with fail
          clear B0 Bf0 B1 Bf1 B2 Bf2 B3 Bf3 Bl
          refine (CR1.out _ (TT.out.up U) (TF.out.up U) U).mono ?_
          rintro _ w4 ⟨rfl, h4⟩
          replace U := U.trans h4
          replace B := B.up h4
          clear h4
          go_wp2_with fail
          refine (CD.out _ (TT.out.up U) (TF.out.up U)).mono ?_
          rintro _ w5 ⟨rfl, h5⟩
          replace U := U.trans h5
          replace B := B.up h5
          clear h5
          go_wp2_with fail
          obtain ⟨V6, hV6⟩ : ∃ V6, w5.alloc (.cells #[.int .i64 2, .bool ng1, .int .u64 (m : Int), .int .i64 z] 25) = V6 := ⟨_, rfl⟩
          have Y : Ob V6 w5.heap.size 25 #[.int .i64 2, .bool ng1, .int .u64 (m : Int), .int .i64 z] := by rw [← hV6]; exact Ob.mk_ _ _ _
          have uV6 : Up w5 V6 := by rw [← hV6]; exact (Up.refl _).alloc _
          have ltY : w.heap.size ≤ w5.heap.size := U.size
          rw [hV6]
          clear hV6
          replace U := U.trans uV6
          replace B := B.up uV6
          clear uV6
          refine (CL.out _ (TT.out.up U) (TF.out.up U)).mono ?_
          rintro _ w7 ⟨_, _, rfl, ⟨A2, n2, k2, ys2, rfl, N2⟩, ⟨A3, n3, k3, ys3, rfl, N3⟩, h⟩
          replace N2 : Nt w7 _ 1 (.slice A2 n2 k2) m1 := ⟨_, _, _, _, rfl, N2⟩
          replace N3 : Nt w7 _ 1 (.slice A3 n3 k3) 0 := ⟨_, _, _, _, rfl, N3⟩
          replace U := U.trans h
          replace B := B.up h
          replace Y := Y.up h
          clear h
          have nil3 := N3.nil_iff
          obtain rfl : n3 = 0 := by omega
          clear nil3
          go_upto_region 8 with (first | (refine store_ob2 rfl 32 (.tmp 10) (.tmp 47) rfl _ #[.bool false, .slice none 0 0, .int .i64 0, .int .i64 0] #[.bool false, .slice A2 n2 k2, .int .i64 z1, .int .i64 0] rfl rfl 4 (by kernel_rfl) rfl rfl (by simp [Value.oneCell']) w7 (((Up.refl _).alloc _).alloc _) (Nat.le_refl _) 32 ((Ob.mk_ _ _ _).up ((Up.refl _).alloc _)) ?_; intro VA A uA ho; have E := ob_next w7 32 #[.bool false, .slice none 0 0, .int .i64 0, .int .i64 0] #[.bool false, .slice none 0 0, .int .i64 0, .int .i64 0]; replace E := Ob.oth E ho (by omega); clear ho) | (refine store_ob2 rfl 32 (.tmp 11) (.tmp 48) rfl _ #[.bool false, .slice none 0 0, .int .i64 0, .int .i64 0] #[.bool false, .slice A3 0 k3, .int .i64 z2, .int .i64 0] rfl rfl 4 (by kernel_rfl) rfl rfl (by simp [Value.oneCell']) w7 uA (Nat.le_succ _) 32 E ?_; clear E; intro VB E uB ho; replace A := Ob.oth A ho (by omega); clear ho uA))
          replace U := U.trans uB
          replace B := B.up uB
          replace Y := Y.up uB
          replace N2 := N2.up uB
          replace N3 := N3.up uB
          clear uB
          have B0 := B.get 0
          have B1 := B.get 1
          have B2 := B.get 2
          have B3 := B.get 3
          have Bf0 := B.fr 0
          have Bf1 := B.fr 1
          have Bf2 := B.fr 2
          have Bf3 := B.fr 3
          have Bl := B.lt
          simp only [List.getElem?_toArray, List.getElem?_cons_zero, List.getElem?_cons_succ] at B0 B1 B2 B3
          have A0 := A.get 0
          have A1 := A.get 1
          have A2 := A.get 2
          have A3 := A.get 3
          have Af0 := A.fr 0
          have Af1 := A.fr 1
          have Af2 := A.fr 2
          have Af3 := A.fr 3
          have Al := A.lt
          simp only [List.getElem?_toArray, List.getElem?_cons_zero, List.getElem?_cons_succ] at A0 A1 A2 A3
          go_wp2_with fail
          clear B0 Bf0 B1 Bf1 B2 Bf2 B3 Bf3 Bl
          clear A0 Af0 A1 Af1 A2 Af2 A3 Af3 Al
          refine (C1.out _ U _ _ N2).mono ?_
          rintro _ w8 ⟨rfl, h8⟩
          replace U := U.trans h8
          replace B := B.up h8
          replace Y := Y.up h8
          replace A := A.up h8
          replace E := E.up h8
          replace N2 := N2.up h8
          replace N3 := N3.up h8
          clear h8
          have B0 := B.get 0
          have B1 := B.get 1
          have B2 := B.get 2
          have B3 := B.get 3
          have Bf0 := B.fr 0
          have Bf1 := B.fr 1
          have Bf2 := B.fr 2
          have Bf3 := B.fr 3
          have Bl := B.lt
          simp only [List.getElem?_toArray, List.getElem?_cons_zero, List.getElem?_cons_succ] at B0 B1 B2 B3
          have E0 := E.get 0
          have E1 := E.get 1
          have E2 := E.get 2
          have E3 := E.get 3
          have Ef0 := E.fr 0
          have Ef1 := E.fr 1
          have Ef2 := E.fr 2
          have Ef3 := E.fr 3
          have El := E.lt
          simp only [List.getElem?_toArray, List.getElem?_cons_zero, List.getElem?_cons_succ] at E0 E1 E2 E3
          have Y0 := Y.get 0
          have Y1 := Y.get 1
          have Y2 := Y.get 2
          have Y3 := Y.get 3
          have Yf0 := Y.fr 0
          have Yf1 := Y.fr 1
          have Yf2 := Y.fr 2
          have Yf3 := Y.fr 3
          have Yl := Y.lt
          simp only [List.getElem?_toArray, List.getElem?_cons_zero, List.getElem?_cons_succ] at Y0 Y1 Y2 Y3
          go_wp2_with fail
          clear B0 Bf0 B1 Bf1 B2 Bf2 B3 Bf3 Bl
          clear E0 Ef0 E1 Ef1 E2 Ef2 E3 Ef3 El
          clear Y0 Yf0 Y1 Yf1 Y2 Yf2 Y3 Yf3 Yl
          first | go_ret | refine bodyPost_ret (v := .bool true) (by simp [results, Tryd.results5, go_sem]) rfl ?_
          exact ⟨by first | rfl | simp, by first | exact U | exact U.alloc _ | exact U.drewN _ | exact U.drew⟩
        ·
          cases ev
          ·
            have U := Up.refl w
            go_enter Tryd.func5, Tryd.ntmps5
            go_wp2_with fail
            obtain ⟨V1, hV1⟩ : ∃ V1, w.alloc (.cells #[.bool ng1, .slice A1 ln1 cp1, .int .i64 tw1, .int .i64 fv1] 32) = V1 := ⟨_, rfl⟩
            have B : Ob V1 w.heap.size 32 #[.bool ng1, .slice A1 ln1 cp1, .int .i64 tw1, .int .i64 fv1] := by rw [← hV1]; exact Ob.mk_ _ _ _
            have uV1 : Up w V1 := by rw [← hV1]; exact (Up.refl _).alloc _
            have ltB : w.heap.size ≤ w.heap.size := U.size
            rw [hV1]
            clear hV1
            replace U := U.trans uV1
            clear uV1
            refine (shown8_any _ (Lib.hid (TT.out.up U)) (Lib.hid (TF.out.up U))).mono ?_
            rintro _ w2 ⟨rfl, h2⟩
            replace U := U.trans h2
            replace B := B.up h2
            clear h2
            have B0 := B.get 0
            have B1 := B.get 1
            have B2 := B.get 2
            have B3 := B.get 3
            have Bf0 := B.fr 0
            have Bf1 := B.fr 1
            have Bf2 := B.fr 2
            have Bf3 := B.fr 3
            have Bl := B.lt
            simp only [List.getElem?_toArray, List.getElem?_cons_zero, List.getElem?_cons_succ] at B0 B1 B2 B3
            go_wp2_with fail
            clear B0 Bf0 B1 Bf1 B2 Bf2 B3 Bf3 Bl
            refine (CS1.out _ U).mono ?_
            rintro _ w3 ⟨rfl, h3⟩
            replace U := U.trans h3
            replace B := B.up h3
            clear h3
            go_upto_region 3 with (refine store_ob2 rfl 32 (.tmp 3) (.tmp 18) rfl _ #[.bool ng1, .slice A1 ln1 cp1, .int .i64 tw1, .int .i64 fv1] #[.bool ng1, .slice A1 mm1 cp1, .int .i64 t, .int .i64 g] rfl rfl 4 (by kernel_rfl) rfl rfl (by simp [Value.oneCell']) w U ltB 32 B ?_; clear U; intro V9 Z9 U ho; clear ho B; have B := Z9; clear Z9)
            have B0 := B.get 0
            have B1 := B.get 1
            have B2 := B.get 2
            have B3 := B.get 3
            have Bf0 := B.fr 0
            have Bf1 := B.fr 1
            have Bf2 := B.fr 2
            have Bf3 := B.fr 3
            have Bl := B.lt
            simp only [List.getElem?_toArray, List.getElem?_cons_zero, List.getElem?_cons_succ] at B0 B1 B2 B3
            go_wp2_with fail
            clear B0 Bf0 B1 Bf1 B2 Bf2 B3 Bf3 Bl
            refine (CR1.out _ (TT.out.up U) (TF.out.up U) U).mono ?_
            rintro _ w4 ⟨rfl, h4⟩
            replace U := U.trans h4
            replace B := B.up h4
            clear h4
            go_wp2_with fail
            refine (CD.out _ (TT.out.up U) (TF.out.up U)).mono ?_
            rintro _ w5 ⟨rfl, h5⟩
            replace U := U.trans h5
            replace B := B.up h5
            clear h5
            go_wp2_with fail
            obtain ⟨V6, hV6⟩ : ∃ V6, w5.alloc (.cells #[.int .i64 2, .bool ng1, .int .u64 (m : Int), .int .i64 z] 25) = V6 := ⟨_, rfl⟩
            have Y : Ob V6 w5.heap.size 25 #[.int .i64 2, .bool ng1, .int .u64 (m : Int), .int .i64 z] := by rw [← hV6]; exact Ob.mk_ _ _ _
            have uV6 : Up w5 V6 := by rw [← hV6]; exact (Up.refl _).alloc _
            have ltY : w.heap.size ≤ w5.heap.size := U.size
            rw [hV6]
            clear hV6
            replace U := U.trans uV6
            replace B := B.up uV6
            clear uV6
            refine (CL.out _ (TT.out.up U) (TF.out.up U)).mono ?_
            rintro _ w7 ⟨_, _, rfl, ⟨A2, n2, k2, ys2, rfl, N2⟩, ⟨A3, n3, k3, ys3, rfl, N3⟩, h⟩
            replace N2 : Nt w7 _ 1 (.slice A2 n2 k2) m1 := ⟨_, _, _, _, rfl, N2⟩
            replace N3 : Nt w7 _ 1 (.slice A3 n3 k3) 0 := ⟨_, _, _, _, rfl, N3⟩
            replace U := U.trans h
            replace B := B.up h
            replace Y := Y.up h
            clear h
            have nil3 := N3.nil_iff
            obtain rfl : n3 = 0 := by omega
            clear nil3
            go_upto_region 8 with (first | (refine store_ob2 rfl 32 (.tmp 10) (.tmp 47) rfl _ #[.bool false, .slice none 0 0, .int .i64 0, .int .i64 0] #[.bool false, .slice A2 n2 k2, .int .i64 z1, .int .i64 0] rfl rfl 4 (by kernel_rfl) rfl rfl (by simp [Value.oneCell']) w7 (((Up.refl _).alloc _).alloc _) (Nat.le_refl _) 32 ((Ob.mk_ _ _ _).up ((Up.refl _).alloc _)) ?_; intro VA A uA ho; have E := ob_next w7 32 #[.bool false, .slice none 0 0, .int .i64 0, .int .i64 0] #[.bool false, .slice none 0 0, .int .i64 0, .int .i64 0]; replace E := Ob.oth E ho (by omega); clear ho) | (refine store_ob2 rfl 32 (.tmp 11) (.tmp 48) rfl _ #[.bool false, .slice none 0 0, .int .i64 0, .int .i64 0] #[.bool false, .slice A3 0 k3, .int .i64 z2, .int .i64 0] rfl rfl 4 (by kernel_rfl) rfl rfl (by simp [Value.oneCell']) w7 uA (Nat.le_succ _) 32 E ?_; clear E; intro VB E uB ho; replace A := Ob.oth A ho (by omega); clear ho uA))
            replace U := U.trans uB
            replace B := B.up uB
            replace Y := Y.up uB
            replace N2 := N2.up uB
            replace N3 := N3.up uB
            clear uB
            have B0 := B.get 0
            have B1 := B.get 1
            have B2 := B.get 2
            have B3 := B.get 3
            have Bf0 := B.fr 0
            have Bf1 := B.fr 1
            have Bf2 := B.fr 2
            have Bf3 := B.fr 3
            have Bl := B.lt
            simp only [List.getElem?_toArray, List.getElem?_cons_zero, List.getElem?_cons_succ] at B0 B1 B2 B3
            have A0 := A.get 0
            have A1 := A.get 1
            have A2 := A.get 2
            have A3 := A.get 3
            have Af0 := A.fr 0
            have Af1 := A.fr 1
            have Af2 := A.fr 2
            have Af3 := A.fr 3
            have Al := A.lt
            simp only [List.getElem?_toArray, List.getElem?_cons_zero, List.getElem?_cons_succ] at A0 A1 A2 A3
            go_wp2_with fail
            clear B0 Bf0 B1 Bf1 B2 Bf2 B3 Bf3 Bl
            clear A0 Af0 A1 Af1 A2 Af2 A3 Af3 Al
            refine (C1.out _ U _ _ N2).mono ?_
            rintro _ w8 ⟨rfl, h8⟩
            replace U := U.trans h8
            replace B := B.up h8
            replace Y := Y.up h8
            replace A := A.up h8
            replace E := E.up h8
            replace N2 := N2.up h8
            replace N3 := N3.up h8
            clear h8
            have B0 := B.get 0
            have B1 := B.get 1
            have B2 := B.get 2
            have B3 := B.get 3
            have Bf0 := B.fr 0
            have Bf1 := B.fr 1
            have Bf2 := B.fr 2
            have Bf3 := B.fr 3
            have Bl := B.lt
            simp only [List.getElem?_toArray, List.getElem?_cons_zero, List.getElem?_cons_succ] at B0 B1 B2 B3
            have E0 := E.get 0
            have E1 := E.get 1
            have E2 := E.get 2
            have E3 := E.get 3
            have Ef0 := E.fr 0
            have Ef1 := E.fr 1
            have Ef2 := E.fr 2
            have Ef3 := E.fr 3
            have El := E.lt
            simp only [List.getElem?_toArray, List.getElem?_cons_zero, List.getElem?_cons_succ] at E0 E1 E2 E3
            have Y0 := Y.get 0
            have Y1 := Y.get 1
            have Y2 := Y.get 2
            have Y3 := Y.get 3
            have Yf0 := Y.fr 0
            have Yf1 := Y.fr 1
            have Yf2 := Y.fr 2
            have Yf3 := Y.fr 3
            have Yl := Y.lt
            simp only [List.getElem?_toArray, List.getElem?_cons_zero, List.getElem?_cons_succ] at Y0 Y1 Y2 Y3
            go_wp2_with fail
            clear B0 Bf0 B1 Bf1 B2 Bf2 B3 Bf3 Bl
            clear E0 Ef0 E1 Ef1 E2 Ef2 E3 Ef3 El
            clear Y0 Yf0 Y1 Yf1 Y2 Yf2 Y3 Yf3 Yl
            first | go_ret | refine bodyPost_ret (v := .bool true) (by simp [results, Tryd.results5, go_sem]) rfl ?_
            exact ⟨by first | rfl | simp, by first | exact U | exact U.alloc _ | exact U.drewN _ | exact U.drew⟩
          ·
            have U := Up.refl w
            go_enter Tryd.func5, Tryd.ntmps5
            go_wp2_with fail
            obtain ⟨V1, hV1⟩ : ∃ V1, w.alloc (.cells #[.bool ng1, .slice A1 ln1 cp1, .int .i64 tw1, .int .i64 fv1] 32) = V1 := ⟨_, rfl⟩
            have B : Ob V1 w.heap.size 32 #[.bool ng1, .slice A1 ln1 cp1, .int .i64 tw1, .int .i64 fv1] := by rw [← hV1]; exact Ob.mk_ _ _ _
            have uV1 : Up w V1 := by rw [← hV1]; exact (Up.refl _).alloc _
            have ltB : w.heap.size ≤ w.heap.size := U.size
            rw [hV1]
            clear hV1
            replace U := U.trans uV1
            clear uV1
            refine (shown8_any _ (Lib.hid (TT.out.up U)) (Lib.hid (TF.out.up U))).mono ?_
            rintro _ w2 ⟨rfl, h2⟩
            replace U := U.trans h2
            replace B := B.up h2
            clear h2
            have B0 := B.get 0
            have B1 := B.get 1
            have B2 := B.get 2
            have B3 := B.get 3
            have Bf0 := B.fr 0
            have Bf1 := B.fr 1
            have Bf2 := B.fr 2
            have Bf3 := B.fr 3
            have Bl := B.lt
            simp only [List.getElem?_toArray, List.getElem?_cons_zero, List.getElem?_cons_succ] at B0 B1 B2 B3
            go_wp2_with fail
            clear B0 Bf0 B1 Bf1 B2 Bf2 B3 Bf3 Bl
            refine (CS1.out _ U).mono ?_
            rintro _ w3 ⟨rfl, h3⟩
            replace U := U.trans h3
            replace B := B.up h3
            clear h3
            go_upto_region 3 with (refine store_ob2 rfl 32 (.tmp 3) (.tmp 18) rfl _ #[.bool ng1, .slice A1 ln1 cp1, .int .i64 tw1, .int .i64 fv1] #[.bool ng1, .slice A1 mm1 cp1, .int .i64 t, .int .i64 g] rfl rfl 4 (by kernel_rfl) rfl rfl (by simp [Value.oneCell']) w U ltB 32 B ?_; clear U; intro V9 Z9 U ho; clear ho B; have B := Z9; clear Z9)
            have B0 := B.get 0
            have B1 := B.get 1
            have B2 := B.get 2
            have B3 := B.get 3
            have Bf0 := B.fr 0
            have Bf1 := B.fr 1
            have Bf2 := B.fr 2
            have Bf3 := B.fr 3
            have Bl := B.lt
            simp only [List.getElem?_toArray, List.getElem?_cons_zero, List.getElem?_cons_succ] at B0 B1 B2 B3
            go_wp2_with fail
            clear B0 Bf0 B1 Bf1 B2 Bf2 B3 Bf3 Bl
            refine (CR1.out _ (TT.out.up U) (TF.out.up U) U).mono ?_
            rintro _ w4 ⟨rfl, h4⟩
            replace U := U.trans h4
            replace B := B.up h4
            clear h4
            go_wp2_with fail
            refine (CD.out _ (TT.out.up U) (TF.out.up U)).mono ?_
            rintro _ w5 ⟨rfl, h5⟩
            replace U := U.trans h5
            replace B := B.up h5
            clear h5
            go_wp2_with fail
            obtain ⟨V6, hV6⟩ : ∃ V6, w5.alloc (.cells #[.int .i64 2, .bool ng1, .int .u64 (m : Int), .int .i64 z] 25) = V6 := ⟨_, rfl⟩
            have Y : Ob V6 w5.heap.size 25 #[.int .i64 2, .bool ng1, .int .u64 (m : Int), .int .i64 z] := by rw [← hV6]; exact Ob.mk_ _ _ _
            have uV6 : Up w5 V6 := by rw [← hV6]; exact (Up.refl _).alloc _
            have ltY : w.heap.size ≤ w5.heap.size := U.size
            rw [hV6]
            clear hV6
            replace U := U.trans uV6
            replace B := B.up uV6
            clear uV6
            refine (CL.out _ (TT.out.up U) (TF.out.up U)).mono ?_
            rintro _ w7 ⟨_, _, rfl, ⟨A2, n2, k2, ys2, rfl, N2⟩, ⟨A3, n3, k3, ys3, rfl, N3⟩, h⟩
            replace N2 : Nt w7 _ 1 (.slice A2 n2 k2) m1 := ⟨_, _, _, _, rfl, N2⟩
            replace N3 : Nt w7 _ 1 (.slice A3 n3 k3) 0 := ⟨_, _, _, _, rfl, N3⟩
            replace U := U.trans h
            replace B := B.up h
            replace Y := Y.up h
            clear h
            have nil3 := N3.nil_iff
            obtain rfl : n3 = 0 := by omega
            clear nil3
            go_upto_region 8 with (first | (refine store_ob2 rfl 32 (.tmp 10) (.tmp 47) rfl _ #[.bool false, .slice none 0 0, .int .i64 0, .int .i64 0] #[.bool false, .slice A2 n2 k2, .int .i64 z1, .int .i64 0] rfl rfl 4 (by kernel_rfl) rfl rfl (by simp [Value.oneCell']) w7 (((Up.refl _).alloc _).alloc _) (Nat.le_refl _) 32 ((Ob.mk_ _ _ _).up ((Up.refl _).alloc _)) ?_; intro VA A uA ho; have E := ob_next w7 32 #[.bool false, .slice none 0 0, .int .i64 0, .int .i64 0] #[.bool false, .slice none 0 0, .int .i64 0, .int .i64 0]; replace E := Ob.oth E ho (by omega); clear ho) | (refine store_ob2 rfl 32 (.tmp 11) (.tmp 48) rfl _ #[.bool false, .slice none 0 0, .int .i64 0, .int .i64 0] #[.bool false, .slice A3 0 k3, .int .i64 z2, .int .i64 0] rfl rfl 4 (by kernel_rfl) rfl rfl (by simp [Value.oneCell']) w7 uA (Nat.le_succ _) 32 E ?_; clear E; intro VB E uB ho; replace A := Ob.oth A ho (by omega); clear ho uA))
            replace U := U.trans uB
            replace B := B.up uB
            replace Y := Y.up uB
            replace N2 := N2.up uB
            replace N3 := N3.up uB
            clear uB
            have B0 := B.get 0
            have B1 := B.get 1
            have B2 := B.get 2
            have B3 := B.get 3
            have Bf0 := B.fr 0
            have Bf1 := B.fr 1
            have Bf2 := B.fr 2
            have Bf3 := B.fr 3
            have Bl := B.lt
            simp only [List.getElem?_toArray, List.getElem?_cons_zero, List.getElem?_cons_succ] at B0 B1 B2 B3
            have A0 := A.get 0
            have A1 := A.get 1
            have A2 := A.get 2
            have A3 := A.get 3
            have Af0 := A.fr 0
            have Af1 := A.fr 1
            have Af2 := A.fr 2
            have Af3 := A.fr 3
            have Al := A.lt
            simp only [List.getElem?_toArray, List.getElem?_cons_zero, List.getElem?_cons_succ] at A0 A1 A2 A3
            go_wp2_with fail
            clear B0 Bf0 B1 Bf1 B2 Bf2 B3 Bf3 Bl
            clear A0 Af0 A1 Af1 A2 Af2 A3 Af3 Al
            refine (C1.out _ U _ _ N2).mono ?_
            rintro _ w8 ⟨rfl, h8⟩
            replace U := U.trans h8
            replace B := B.up h8
            replace Y := Y.up h8
            replace A := A.up h8
            replace E := E.up h8
            replace N2 := N2.up h8
            replace N3 := N3.up h8
            clear h8
            have B0 := B.get 0
            have B1 := B.get 1
            have B2 := B.get 2
            have B3 := B.get 3
            have Bf0 := B.fr 0
            have Bf1 := B.fr 1
            have Bf2 := B.fr 2
            have Bf3 := B.fr 3
            have Bl := B.lt
            simp only [List.getElem?_toArray, List.getElem?_cons_zero, List.getElem?_cons_succ] at B0 B1 B2 B3
            have E0 := E.get 0
            have E1 := E.get 1
            have E2 := E.get 2
            have E3 := E.get 3
            have Ef0 := E.fr 0
            have Ef1 := E.fr 1
            have Ef2 := E.fr 2
            have Ef3 := E.fr 3
            have El := E.lt
            simp only [List.getElem?_toArray, List.getElem?_cons_zero, List.getElem?_cons_succ] at E0 E1 E2 E3
            have Y0 := Y.get 0
            have Y1 := Y.get 1
            have Y2 := Y.get 2
            have Y3 := Y.get 3
            have Yf0 := Y.fr 0
            have Yf1 := Y.fr 1
            have Yf2 := Y.fr 2
            have Yf3 := Y.fr 3
            have Yl := Y.lt
            simp only [List.getElem?_toArray, List.getElem?_cons_zero, List.getElem?_cons_succ] at Y0 Y1 Y2 Y3
            go_wp2_with fail
            clear B0 Bf0 B1 Bf1 B2 Bf2 B3 Bf3 Bl
            clear E0 Ef0 E1 Ef1 E2 Ef2 E3 Ef3 El
            clear Y0 Yf0 Y1 Yf1 Y2 Yf2 Y3 Yf3 Yl
            first | go_ret | refine bodyPost_ret (v := .bool true) (by simp [results, Tryd.results5, go_sem]) rfl ?_
            exact ⟨by first | rfl | simp, by first | exact U | exact U.alloc _ | exact U.drewN _ | exact U.drew⟩
      ·
        rcases F1 with ⟨rfl, rfl⟩ | rfl
        ·
          rcases F3 with ⟨rfl, _⟩ | rfl
          ·
            have U := Up.refl w
            go_enter Tryd.func5, Tryd.ntmps5
            go_wp2_with fail
            obtain ⟨V1, hV1⟩ : ∃ V1, w.alloc (.cells #[.bool ng1, .slice A1 ln1 cp1, .int .i64 tw1, .int .i64 fv1] 32) = V1 := ⟨_, rfl⟩
            have B : Ob V1 w.heap.size 32 #[.bool ng1, .slice A1 ln1 cp1, .int .i64 tw1, .int .i64 fv1] := by rw [← hV1]; exact Ob.mk_ _ _ _
            have uV1 : Up w V1 := by rw [← hV1]; exact (Up.refl _).alloc _
            have ltB : w.heap.size ≤ w.heap.size := U.size
            rw [hV1]
            clear hV1
            replace U := U.trans uV1
            clear uV1
            refine (shown8_any _ (Lib.hid (TT.out.up U)) (Lib.hid (TF.out.up U))).mono ?_
            rintro _ w2 ⟨rfl, h2⟩
            replace U := U.trans h2
            replace B := B.up h2
            clear h2
            have B0 := B.get 0
            have B1 := B.get 1
            have B2 := B.get 2
            have B3 := B.get 3
            have Bf0 := B.fr 0
            have Bf1 := B.fr 1
            have Bf2 := B.fr 2
            have Bf3 := B.fr 3
            have Bl := B.lt
            simp only [List.getElem?_toArray, List.getElem?_cons_zero, List.getElem?_cons_succ] at B0 B1 B2 B3
            go_wp2_with fail
            clear B0 Bf0 B1 Bf1 B2 Bf2 B3 Bf3 Bl
            refine (CS1.out _ U).mono ?_
            rintro _ w3 ⟨rfl, h3⟩
            replace U := U.trans h3
            replace B := B.up h3
            clear h3
            go_upto_region 3 with (refine store_ob2 rfl 32 (.tmp 3) (.tmp 18) rfl _ #[.bool ng1, .slice A1 ln1 cp1, .int .i64 tw1, .int .i64 fv1] #[.bool ng1, .slice A1 mm1 cp1, .int .i64 t, .int .i64 g] rfl rfl 4 (by kernel_rfl) rfl rfl (by simp [Value.oneCell']) w U ltB 32 B ?_; clear U; intro V9 Z9 U ho; clear ho B; have B := Z9; clear Z9)
            have B0 := B.get 0
            have B1 := B.get 1
            have B2 := B.get 2
            have B3 := B.get 3
            have Bf0 := B.fr 0
            have Bf1 := B.fr 1
            have Bf2 := B.fr 2
            have Bf3 := B.fr 3
            have Bl := B.lt
            simp only [List.getElem?_toArray, List.getElem?_cons_zero, List.getElem?_cons_succ] at B0 B1 B2 B3
            go_wp2_with fail
            clear B0 Bf0 B1 Bf1 B2 Bf2 B3 Bf3 Bl
            refine (CR1.out _ (TT.out.up U) (TF.out.up U) U).mono ?_
            rintro _ w4 ⟨rfl, h4⟩
            replace U := U.trans h4
            replace B := B.up h4
            clear h4
            go_wp2_with fail
            refine (CD.out _ (TT.out.up U) (TF.out.up U)).mono ?_
            rintro _ w5 ⟨rfl, h5⟩
            replace U := U.trans h5
            replace B := B.up h5
            clear h5
            go_wp2_with fail
            obtain ⟨V6, hV6⟩ : ∃ V6, w5.alloc (.cells #[.int .i64 2, .bool ng1, .int .u64 (m : Int), .int .i64 z] 25) = V6 := ⟨_, rfl⟩
            have Y : Ob V6 w5.heap.size 25 #[.int .i64 2, .bool ng1, .int .u64 (m : Int), .int .i64 z] := by rw [← hV6]; exact Ob.mk_ _ _ _
            have uV6 : Up w5 V6 := by rw [← hV6]; exact (Up.refl _).alloc _
            have ltY : w.heap.size ≤ w5.heap.size := U.size
            rw [hV6]
            clear hV6
            replace U := U.trans uV6
            replace B := B.up uV6
            clear uV6
            refine (CL.out _ (TT.out.up U) (TF.out.up U)).mono ?_
            rintro _ w7 ⟨_, _, rfl, ⟨A2, n2, k2, ys2, rfl, N2⟩, ⟨A3, n3, k3, ys3, rfl, N3⟩, h⟩
            replace N2 : Nt w7 _ 1 (.slice A2 n2 k2) m1 := ⟨_, _, _, _, rfl, N2⟩
            replace N3 : Nt w7 _ 1 (.slice A3 n3 k3) m2 := ⟨_, _, _, _, rfl, N3⟩
            replace U := U.trans h
            replace B := B.up h
            replace Y := Y.up h
            clear h
            have nil3 := N3.nil_iff
            have n3p : 0 < n3 := by omega
            clear nil3
            go_upto_region 8 with (first | (refine store_ob2 rfl 32 (.tmp 10) (.tmp 47) rfl _ #[.bool false, .slice none 0 0, .int .i64 0, .int .i64 0] #[.bool false, .slice A2 n2 k2, .int .i64 z1, .int .i64 0] rfl rfl 4 (by kernel_rfl) rfl rfl (by simp [Value.oneCell']) w7 (((Up.refl _).alloc _).alloc _) (Nat.le_refl _) 32 ((Ob.mk_ _ _ _).up ((Up.refl _).alloc _)) ?_; intro VA A uA ho; have E := ob_next w7 32 #[.bool false, .slice none 0 0, .int .i64 0, .int .i64 0] #[.bool false, .slice none 0 0, .int .i64 0, .int .i64 0]; replace E := Ob.oth E ho (by omega); clear ho) | (refine store_ob2 rfl 32 (.tmp 11) (.tmp 48) rfl _ #[.bool false, .slice none 0 0, .int .i64 0, .int .i64 0] #[.bool false, .slice A3 n3 k3, .int .i64 z2, .int .i64 0] rfl rfl 4 (by kernel_rfl) rfl rfl (by simp [Value.oneCell']) w7 uA (Nat.le_succ _) 32 E ?_; clear E; intro VB E uB ho; replace A := Ob.oth A ho (by omega); clear ho uA))
            replace U := U.trans uB
            replace B := B.up uB
            replace Y := Y.up uB
            replace N2 := N2.up uB
            replace N3 := N3.up uB
            clear uB
            have B0 := B.get 0
            have B1 := B.get 1
            have B2 := B.get 2
            have B3 := B.get 3
            have Bf0 := B.fr 0
            have Bf1 := B.fr 1
            have Bf2 := B.fr 2
            have Bf3 := B.fr 3
            have Bl := B.lt
            simp only [List.getElem?_toArray, List.getElem?_cons_zero, List.getElem?_cons_succ] at B0 B1 B2 B3
            have A0 := A.get 0
            have A1 := A.get 1
            have A2 := A.get 2
            have A3 := A.get 3
            have Af0 := A.fr 0
            have Af1 := A.fr 1
            have Af2 := A.fr 2
            have Af3 := A.fr 3
            have Al := A.lt
            simp only [List.getElem?_toArray, List.getElem?_cons_zero, List.getElem?_cons_succ] at A0 A1 A2 A3
            go_wp2_with fail
            clear B0 Bf0 B1 Bf1 B2 Bf2 B3 Bf3 Bl
            clear A0 Af0 A1 Af1 A2 Af2 A3 Af3 Al
            refine (C1.out _ U _ _ N2).mono ?_
            rintro _ w8 ⟨rfl, h8⟩
            replace U := U.trans h8
            replace B := B.up h8
            replace Y := Y.up h8
            replace A := A.up h8
            replace E := E.up h8
            replace N2 := N2.up h8
            replace N3 := N3.up h8
            clear h8
            have B0 := B.get 0
            have B1 := B.get 1
            have B2 := B.get 2
            have B3 := B.get 3
            have Bf0 := B.fr 0
            have Bf1 := B.fr 1
            have Bf2 := B.fr 2
            have Bf3 := B.fr 3
            have Bl := B.lt
            simp only [List.getElem?_toArray, List.getElem?_cons_zero, List.getElem?_cons_succ] at B0 B1 B2 B3
            have E0 := E.get 0
            have E1 := E.get 1
            have E2 := E.get 2
            have E3 := E.get 3
            have Ef0 := E.fr 0
            have Ef1 := E.fr 1
            have Ef2 := E.fr 2
            have Ef3 := E.fr 3
            have El := E.lt
            simp only [List.getElem?_toArray, List.getElem?_cons_zero, List.getElem?_cons_succ] at E0 E1 E2 E3
            have Y0 := Y.get 0
            have Y1 := Y.get 1
            have Y2 := Y.get 2
            have Y3 := Y.get 3
            have Yf0 := Y.fr 0
            have Yf1 := Y.fr 1
            have Yf2 := Y.fr 2
            have Yf3 := Y.fr 3
            have Yl := Y.lt
            simp only [List.getElem?_toArray, List.getElem?_cons_zero, List.getElem?_cons_succ] at Y0 Y1 Y2 Y3
            go_wp2_with fail
            clear B0 Bf0 B1 Bf1 B2 Bf2 B3 Bf3 Bl
            clear E0 Ef0 E1 Ef1 E2 Ef2 E3 Ef3 El
            clear Y0 Yf0 Y1 Yf1 Y2 Yf2 Y3 Yf3 Yl
            refine (C2.out _ U _ _ N3).mono ?_
            rintro _ w9 ⟨rfl, h9⟩
            replace U := U.trans h9
            replace B := B.up h9
            replace Y := Y.up h9
            replace A := A.up h9
            replace E := E.up h9
            replace N2 := N2.up h9
            replace N3 := N3.up h9
            clear h9
            have B0 := B.get 0
            have B1 := B.get 1
            have B2 := B.get 2
            have B3 := B.get 3
            have Bf0 := B.fr 0
            have Bf1 := B.fr 1
            have Bf2 := B.fr 2
            have Bf3 := B.fr 3
            have Bl := B.lt
            simp only [List.getElem?_toArray, List.getElem?_cons_zero, List.getElem?_cons_succ] at B0 B1 B2 B3
            have Y0 := Y.get 0
            have Y1 := Y.get 1
            have Y2 := Y.get 2
            have Y3 := Y.get 3
            have Yf0 := Y.fr 0
            have Yf1 := Y.fr 1
            have Yf2 := Y.fr 2
            have Yf3 := Y.fr 3
            have Yl := Y.lt
            simp only [List.getElem?_toArray, List.getElem?_cons_zero, List.getElem?_cons_succ] at Y0 Y1 Y2 Y3
            go_wp2_with fail
            clear B0 Bf0 B1 Bf1 B2 Bf2 B3 Bf3 Bl
            clear Y0 Yf0 Y1 Yf1 Y2 Yf2 Y3 Yf3 Yl
            first | go_ret | refine bodyPost_ret (v := .bool true) (by simp [results, Tryd.results5, go_sem]) rfl ?_
            exact ⟨by first | rfl | simp, by first | exact U | exact U.alloc _ | exact U.drewN _ | exact U.drew⟩
          ·
            have U := Up.refl w
            go_enter Tryd.func5, Tryd.ntmps5
            go_wp2_with fail
            obtain ⟨V1, hV1⟩ : ∃ V1, w.alloc (.cells #[.bool ng1, .slice A1 ln1 cp1, .int .i64 tw1, .int .i64 fv1] 32) = V1 := ⟨_, rfl⟩
            have B : Ob V1 w.heap.size 32 #[.bool ng1, .slice A1 ln1 cp1, .int .i64 tw1, .int .i64 fv1] := by rw [← hV1]; exact Ob.mk_ _ _ _
            have uV1 : Up w V1 := by rw [← hV1]; exact (Up.refl _).alloc _
            have ltB : w.heap.size ≤ w.heap.size := U.size
            rw [hV1]
            clear hV1
            replace U := U.trans uV1
            clear uV1
            refine (shown8_any _ (Lib.hid (TT.out.up U)) (Lib.hid (TF.out.up U))).mono ?_
            rintro _ w2 ⟨rfl, h2⟩
            replace U := U.trans h2
            replace B := B.up h2
            clear h2
            have B0 := B.get 0
            have B1 := B.get 1
            have B2 := B.get 2
            have B3 := B.get 3
            have Bf0 := B.fr 0
            have Bf1 := B.fr 1
            have Bf2 := B.fr 2
            have Bf3 := B.fr 3
            have Bl := B.lt
            simp only [List.getElem?_toArray, List.getElem?_cons_zero, List.getElem?_cons_succ] at B0 B1 B2 B3
            go_wp2_with fail
            clear B0 Bf0 B1 Bf1 B2 Bf2 B3 Bf3 Bl
            refine (CS1.out _ U).mono ?_
            rintro _ w3 ⟨rfl, h3⟩
            replace U := U.trans h3
            replace B := B.up h3
            clear h3
            go_upto_region 3 with (refine store_ob2 rfl 32 (.tmp 3) (.tmp 18) rfl _ #[.bool ng1, .slice A1 ln1 cp1, .int .i64 tw1, .int .i64 fv1] #[.bool ng1, .slice A1 mm1 cp1, .int .i64 t, .int .i64 g] rfl rfl 4 (by kernel_rfl) rfl rfl (by simp [Value.oneCell']) w U ltB 32 B ?_; clear U; intro V9 Z9 U ho; clear ho B; have B := Z9; clear Z9)
            have B0 := B.get 0
            have B1 := B.get 1
            have B2 := B.get 2
            have B3 := B.get 3
            have Bf0 := B.fr 0
            have Bf1 := B.fr 1
            have Bf2 := B.fr 2
            have Bf3 := B.fr 3
            have Bl := B.lt
            simp only [List.getElem?_toArray, List.getElem?_cons_zero, List.getElem?_cons_succ] at B0 B1 B2 B3
            go_wp2_with fail
            clear B0 Bf0 B1 Bf1 B2 Bf2 B3 Bf3 Bl
            refine (CR1.out _ (TT.out.up U) (TF.out.up U) U).mono ?_
            rintro _ w4 ⟨rfl, h4⟩
            replace U := U.trans h4
            replace B := B.up h4
            clear h4
            go_wp2_with fail
            refine (CD.out _ (TT.out.up U) (TF.out.up U)).mono ?_
            rintro _ w5 ⟨rfl, h5⟩
            replace U := U.trans h5
            replace B := B.up h5
            clear h5
            go_wp2_with fail
            obtain ⟨V6, hV6⟩ : ∃ V6, w5.alloc (.cells #[.int .i64 2, .bool ng1, .int .u64 (m : Int), .int .i64 z] 25) = V6 := ⟨_, rfl⟩
            have Y : Ob V6 w5.heap.size 25 #[.int .i64 2, .bool ng1, .int .u64 (m : Int), .int .i64 z] := by rw [← hV6]; exact Ob.mk_ _ _ _
            have uV6 : Up w5 V6 := by rw [← hV6]; exact (Up.refl _).alloc _
            have ltY : w.heap.size ≤ w5.heap.size := U.size
            rw [hV6]
            clear hV6
            replace U := U.trans uV6
            replace B := B.up uV6
            clear uV6
            refine (CL.out _ (TT.out.up U) (TF.out.up U)).mono ?_
            rintro _ w7 ⟨_, _, rfl, ⟨A2, n2, k2, ys2, rfl, N2⟩, ⟨A3, n3, k3, ys3, rfl, N3⟩, h⟩
            replace N2 : Nt w7 _ 1 (.slice A2 n2 k2) m1 := ⟨_, _, _, _, rfl, N2⟩
            replace N3 : Nt w7 _ 1 (.slice A3 n3 k3) m2 := ⟨_, _, _, _, rfl, N3⟩
            replace U := U.trans h
            replace B := B.up h
            replace Y := Y.up h
            clear h
            have nil3 := N3.nil_iff
            have n3p : 0 < n3 := by omega
            clear nil3
            go_upto_region 8 with (first | (refine store_ob2 rfl 32 (.tmp 10) (.tmp 47) rfl _ #[.bool false, .slice none 0 0, .int .i64 0, .int .i64 0] #[.bool false, .slice A2 n2 k2, .int .i64 z1, .int .i64 0] rfl rfl 4 (by kernel_rfl) rfl rfl (by simp [Value.oneCell']) w7 (((Up.refl _).alloc _).alloc _) (Nat.le_refl _) 32 ((Ob.mk_ _ _ _).up ((Up.refl _).alloc _)) ?_; intro VA A uA ho; have E := ob_next w7 32 #[.bool false, .slice none 0 0, .int .i64 0, .int .i64 0] #[.bool false, .slice none 0 0, .int .i64 0, .int .i64 0]; replace E := Ob.oth E ho (by omega); clear ho) | (refine store_ob2 rfl 32 (.tmp 11) (.tmp 48) rfl _ #[.bool false, .slice none 0 0, .int .i64 0, .int .i64 0] #[.bool false, .slice A3 n3 k3, .int .i64 z2, .int .i64 0] rfl rfl 4 (by kernel_rfl) rfl rfl (by simp [Value.oneCell']) w7 uA (Nat.le_succ _) 32 E ?_; clear E; intro VB E uB ho; replace A := Ob.oth A ho (by omega); clear ho uA))
            replace U := U.trans uB
            replace B := B.up uB
            replace Y := Y.up uB
            replace N2 := N2.up uB
            replace N3 := N3.up uB
            clear uB
            have B0 := B.get 0
            have B1 := B.get 1
            have B2 := B.get 2
            have B3 := B.get 3
            have Bf0 := B.fr 0
            have Bf1 := B.fr 1
            have Bf2 := B.fr 2
            have Bf3 := B.fr 3
            have Bl := B.lt
            simp only [List.getElem?_toArray, List.getElem?_cons_zero, List.getElem?_cons_succ] at B0 B1 B2 B3
            have A0 := A.get 0
            have A1 := A.get 1
            have A2 := A.get 2
            have A3 := A.get 3
            have Af0 := A.fr 0
            have Af1 := A.fr 1
            have Af2 := A.fr 2
            have Af3 := A.fr 3
            have Al := A.lt
            simp only [List.getElem?_toArray, List.getElem?_cons_zero, List.getElem?_cons_succ] at A0 A1 A2 A3
            go_wp2_with fail
            clear B0 Bf0 B1 Bf1 B2 Bf2 B3 Bf3 Bl
            clear A0 Af0 A1 Af1 A2 Af2 A3 Af3 Al
            refine (C1.out _ U _ _ N2).mono ?_
            rintro _ w8 ⟨rfl, h8⟩
            replace U := U.trans h8
            replace B := B.up h8
            replace Y := Y.up h8
            replace A := A.up h8
            replace E := E.up h8
            replace N2 := N2.up h8
            replace N3 := N3.up h8
            clear h8
            have B0 := B.get 0
            have B1 := B.get 1
            have B2 := B.get 2
            have B3 := B.get 3
            have Bf0 := B.fr 0
            have Bf1 := B.fr 1
            have Bf2 := B.fr 2
            have Bf3 := B.fr 3
            have Bl := B.lt
            simp only [List.getElem?_toArray, List.getElem?_cons_zero, List.getElem?_cons_succ] at B0 B1 B2 B3
            have E0 := E.get 0
            have E1 := E.get 1
            have E2 := E.get 2
            have E3 := E.get 3
            have Ef0 := E.fr 0
            have Ef1 := E.fr 1
            have Ef2 := E.fr 2
            have Ef3 := E.fr 3
            have El := E.lt
            simp only [List.getElem?_toArray, List.getElem?_cons_zero, List.getElem?_cons_succ] at E0 E1 E2 E3
            have Y0 := Y.get 0
            have Y1 := Y.get 1
            have Y2 := Y.get 2
            have Y3 := Y.get 3
            have Yf0 := Y.fr 0
            have Yf1 := Y.fr 1
            have Yf2 := Y.fr 2
            have Yf3 := Y.fr 3
            have Yl := Y.lt
            simp only [List.getElem?_toArray, List.getElem?_cons_zero, List.getElem?_cons_succ] at Y0 Y1 Y2 Y3
            go_wp2_with fail
            clear B0 Bf0 B1 Bf1 B2 Bf2 B3 Bf3 Bl
            clear E0 Ef0 E1 Ef1 E2 Ef2 E3 Ef3 El
            clear Y0 Yf0 Y1 Yf1 Y2 Yf2 Y3 Yf3 Yl
            refine (C2.out _ U _ _ N3).mono ?_
            rintro _ w9 ⟨rfl, h9⟩
            replace U := U.trans h9
            replace B := B.up h9
            replace Y := Y.up h9
            replace A := A.up h9
            replace E := E.up h9
            replace N2 := N2.up h9
            replace N3 := N3.up h9
            clear h9
            have B0 := B.get 0
            have B1 := B.get 1
            have B2 := B.get 2
            have B3 := B.get 3
            have Bf0 := B.fr 0
            have Bf1 := B.fr 1
            have Bf2 := B.fr 2
            have Bf3 := B.fr 3
            have Bl := B.lt
            simp only [List.getElem?_toArray, List.getElem?_cons_zero, List.getElem?_cons_succ] at B0 B1 B2 B3
            have Y0 := Y.get 0
            have Y1 := Y.get 1
            have Y2 := Y.get 2
            have Y3 := Y.get 3
            have Yf0 := Y.fr 0
            have Yf1 := Y.fr 1
            have Yf2 := Y.fr 2
            have Yf3 := Y.fr 3
            have Yl := Y.lt
            simp only [List.getElem?_toArray, List.getElem?_cons_zero, List.getElem?_cons_succ] at Y0 Y1 Y2 Y3
            go_wp2_with fail
            clear B0 Bf0 B1 Bf1 B2 Bf2 B3 Bf3 Bl
            clear Y0 Yf0 Y1 Yf1 Y2 Yf2 Y3 Yf3 Yl
            first | go_ret | refine bodyPost_ret (v := .bool true) (by simp [results, Tryd.results5, go_sem]) rfl ?_
            exact ⟨by first | rfl | simp, by first | exact U | exact U.alloc _ | exact U.drewN _ | exact U.drew⟩
        ·
          rcases F3 with ⟨rfl, rfl⟩ | rfl
          ·
            have U := Up.refl w
            go_enter Tryd.func5, Tryd.ntmps5
            go_wp2_with fail
            obtain ⟨V1, hV1⟩ : ∃ V1, w.alloc (.cells #[.bool ng1, .slice A1 ln1 cp1, .int .i64 tw1, .int .i64 fv1] 32) = V1 := ⟨_, rfl⟩
            have B : Ob V1 w.heap.size 32 #[.bool ng1, .slice A1 ln1 cp1, .int .i64 tw1, .int .i64 fv1] := by rw [← hV1]; exact Ob.mk_ _ _ _
            have uV1 : Up w V1 := by rw [← hV1]; exact (Up.refl _).alloc _
            have ltB : w.heap.size ≤ w.heap.size := U.size
            rw [hV1]
            clear hV1
            replace U := U.trans uV1
            clear uV1
            refine (shown8_any _ (Lib.hid (TT.out.up U)) (Lib.hid (TF.out.up U))).mono ?_
            rintro _ w2 ⟨rfl, h2⟩
            replace U := U.trans h2
            replace B := B.up h2
            clear h2
            have B0 := B.get 0
            have B1 := B.get 1
            have B2 := B.get 2
            have B3 := B.get 3
            have Bf0 := B.fr 0
            have Bf1 := B.fr 1
            have Bf2 := B.fr 2
            have Bf3 := B.fr 3
            have Bl := B.lt
            simp only [List.getElem?_toArray, List.getElem?_cons_zero, List.getElem?_cons_succ] at B0 B1 B2 B3
            go_wp2_with fail
            clear B0 Bf0 B1 Bf1 B2 Bf2 B3 Bf3 Bl
            refine (CS1.out _ U).mono ?_
            rintro _ w3 ⟨rfl, h3⟩
            replace U := U.trans h3
            replace B := B.up h3
            clear h3
            go_upto_region 3 with (refine store_ob2 rfl 32 (.tmp 3) (.tmp 18) rfl _ #[.bool ng1, .slice A1 ln1 cp1, .int .i64 tw1, .int .i64 fv1] #[.bool ng1, .slice A1 mm1 cp1, .int .i64 t, .int .i64 g] rfl rfl 4 (by kernel_rfl) rfl rfl (by simp [Value.oneCell']) w U ltB 32 B ?_; clear U; intro V9 Z9 U ho; clear ho B; have B := Z9; clear Z9)
            have B0 := B.get 0
            have B1 := B.get 1
            have B2 := B.get 2
            have B3 := B.get 3
            have Bf0 := B.fr 0
            have Bf1 := B.fr 1
            have Bf2 := B.fr 2
            have Bf3 := B.fr 3
            have Bl := B.lt
            simp only [List.getElem?_toArray, List.getElem?_cons_zero, List.getElem?_cons_succ] at B0 B1 B2 B3
            go_wp2_with fail
            clear B0 Bf0 B1 Bf1 B2 Bf2 B3 Bf3 Bl
            refine (CR1.out _ (TT.out.up U) (TF.out.up U) U).mono ?_
            rintro _ w4 ⟨rfl, h4⟩
            replace U := U.trans h4
            replace B := B.up h4
            clear h4
            go_wp2_with fail
            refine (CD.out _ (TT.out.up U) (TF.out.up U)).mono ?_
            rintro _ w5 ⟨rfl, h5⟩
            replace U := U.trans h5
            replace B := B.up h5
            clear h5
            go_wp2_with fail
            obtain ⟨V6, hV6⟩ : ∃ V6, w5.alloc (.cells #[.int .i64 2, .bool ng1, .int .u64 (m : Int), .int .i64 z] 25) = V6 := ⟨_, rfl⟩
            have Y : Ob V6 w5.heap.size 25 #[.int .i64 2, .bool ng1, .int .u64 (m : Int), .int .i64 z] := by rw [← hV6]; exact Ob.mk_ _ _ _
            have uV6 : Up w5 V6 := by rw [← hV6]; exact (Up.refl _).alloc _
            have ltY : w.heap.size ≤ w5.heap.size := U.size
            rw [hV6]
            clear hV6
            replace U := U.trans uV6
            replace B := B.up uV6
            clear uV6
            refine (CL.out _ (TT.out.up U) (TF.out.up U)).mono ?_
            rintro _ w7 ⟨_, _, rfl, ⟨A2, n2, k2, ys2, rfl, N2⟩, ⟨A3, n3, k3, ys3, rfl, N3⟩, h⟩
            replace N2 : Nt w7 _ 1 (.slice A2 n2 k2) m1 := ⟨_, _, _, _, rfl, N2⟩
            replace N3 : Nt w7 _ 1 (.slice A3 n3 k3) m2 := ⟨_, _, _, _, rfl, N3⟩
            replace U := U.trans h
            replace B := B.up h
            replace Y := Y.up h
            clear h
            have nil3 := N3.nil_iff
            have n3p : 0 < n3 := by omega
            clear nil3
            go_upto_region 8 with (first | (refine store_ob2 rfl 32 (.tmp 10) (.tmp 47) rfl _ #[.bool false, .slice none 0 0, .int .i64 0, .int .i64 0] #[.bool false, .slice A2 n2 k2, .int .i64 z1, .int .i64 0] rfl rfl 4 (by kernel_rfl) rfl rfl (by simp [Value.oneCell']) w7 (((Up.refl _).alloc _).alloc _) (Nat.le_refl _) 32 ((Ob.mk_ _ _ _).up ((Up.refl _).alloc _)) ?_; intro VA A uA ho; have E := ob_next w7 32 #[.bool false, .slice none 0 0, .int .i64 0, .int .i64 0] #[.bool false, .slice none 0 0, .int .i64 0, .int .i64 0]; replace E := Ob.oth E ho (by omega); clear ho) | (refine store_ob2 rfl 32 (.tmp 11) (.tmp 48) rfl _ #[.bool false, .slice none 0 0, .int .i64 0, .int .i64 0] #[.bool false, .slice A3 n3 k3, .int .i64 z2, .int .i64 0] rfl rfl 4 (by kernel_rfl) rfl rfl (by simp [Value.oneCell']) w7 uA (Nat.le_succ _) 32 E ?_; clear E; intro VB E uB ho; replace A := Ob.oth A ho (by omega); clear ho uA))
            replace U := U.trans uB
            replace B := B.up uB
            replace Y := Y.up uB
            replace N2 := N2.up uB
            replace N3 := N3.up uB
            clear uB
            have B0 := B.get 0
            have B1 := B.get 1
            have B2 := B.get 2
            have B3 := B.get 3
            have Bf0 := B.fr 0
            have Bf1 := B.fr 1
            have Bf2 := B.fr 2
            have Bf3 := B.fr 3
            have Bl := B.lt
            simp only [List.getElem?_toArray, List.getElem?_cons_zero, List.getElem?_cons_succ] at B0 B1 B2 B3
            have A0 := A.get 0
            have A1 := A.get 1
            have A2 := A.get 2
            have A3 := A.get 3
            have Af0 := A.fr 0
            have Af1 := A.fr 1
            have Af2 := A.fr 2
            have Af3 := A.fr 3
            have Al := A.lt
            simp only [List.getElem?_toArray, List.getElem?_cons_zero, List.getElem?_cons_succ] at A0 A1 A2 A3
            go_wp2_with fail
            clear B0 Bf0 B1 Bf1 B2 Bf2 B3 Bf3 Bl
            clear A0 Af0 A1 Af1 A2 Af2 A3 Af3 Al
            refine (C1.out _ U _ _ N2).mono ?_
            rintro _ w8 ⟨rfl, h8⟩
            replace U := U.trans h8
            replace B := B.up h8
            replace Y := Y.up h8
            replace A := A.up h8
            replace E := E.up h8
            replace N2 := N2.up h8
            replace N3 := N3.up h8
            clear h8
            have B0 := B.get 0
            have B1 := B.get 1
            have B2 := B.get 2
            have B3 := B.get 3
            have Bf0 := B.fr 0
            have Bf1 := B.fr 1
            have Bf2 := B.fr 2
            have Bf3 := B.fr 3
            have Bl := B.lt
            simp only [List.getElem?_toArray, List.getElem?_cons_zero, List.getElem?_cons_succ] at B0 B1 B2 B3
            have E0 := E.get 0
            have E1 := E.get 1
            have E2 := E.get 2
            have E3 := E.get 3
            have Ef0 := E.fr 0
            have Ef1 := E.fr 1
            have Ef2 := E.fr 2
            have Ef3 := E.fr 3
            have El := E.lt
            simp only [List.getElem?_toArray, List.getElem?_cons_zero, List.getElem?_cons_succ] at E0 E1 E2 E3
            have Y0 := Y.get 0
            have Y1 := Y.get 1
            have Y2 := Y.get 2
            have Y3 := Y.get 3
            have Yf0 := Y.fr 0
            have Yf1 := Y.fr 1
            have Yf2 := Y.fr 2
            have Yf3 := Y.fr 3
            have Yl := Y.lt
            simp only [List.getElem?_toArray, List.getElem?_cons_zero, List.getElem?_cons_succ] at Y0 Y1 Y2 Y3
            go_wp2_with fail
            clear B0 Bf0 B1 Bf1 B2 Bf2 B3 Bf3 Bl
            clear E0 Ef0 E1 Ef1 E2 Ef2 E3 Ef3 El
            clear Y0 Yf0 Y1 Yf1 Y2 Yf2 Y3 Yf3 Yl
            refine (C2.out _ U _ _ N3).mono ?_
            rintro _ w9 ⟨rfl, h9⟩
            replace U := U.trans h9
            replace B := B.up h9
            replace Y := Y.up h9
            replace A := A.up h9
            replace E := E.up h9
            replace N2 := N2.up h9
            replace N3 := N3.up h9
            clear h9
            have B0 := B.get 0
            have B1 := B.get 1
            have B2 := B.get 2
            have B3 := B.get 3
            have Bf0 := B.fr 0
            have Bf1 := B.fr 1
            have Bf2 := B.fr 2
            have Bf3 := B.fr 3
            have Bl := B.lt
            simp only [List.getElem?_toArray, List.getElem?_cons_zero, List.getElem?_cons_succ] at B0 B1 B2 B3
            have Y0 := Y.get 0
            have Y1 := Y.get 1
            have Y2 := Y.get 2
            have Y3 := Y.get 3
            have Yf0 := Y.fr 0
            have Yf1 := Y.fr 1
            have Yf2 := Y.fr 2
            have Yf3 := Y.fr 3
            have Yl := Y.lt
            simp only [List.getElem?_toArray, List.getElem?_cons_zero, List.getElem?_cons_succ] at Y0 Y1 Y2 Y3
            go_wp2_with fail
            clear B0 Bf0 B1 Bf1 B2 Bf2 B3 Bf3 Bl
            clear Y0 Yf0 Y1 Yf1 Y2 Yf2 Y3 Yf3 Yl
            first | go_ret | refine bodyPost_ret (v := .bool true) (by simp [results, Tryd.results5, go_sem]) rfl ?_
            exact ⟨by first | rfl | simp, by first | exact U | exact U.alloc _ | exact U.drewN _ | exact U.drew⟩
          ·
            cases ev
            ·
              have U := Up.refl w
              go_enter Tryd.func5, Tryd.ntmps5
              go_wp2_with fail
              obtain ⟨V1, hV1⟩ : ∃ V1, w.alloc (.cells #[.bool ng1, .slice A1 ln1 cp1, .int .i64 tw1, .int .i64 fv1] 32) = V1 := ⟨_, rfl⟩
              have B : Ob V1 w.heap.size 32 #[.bool ng1, .slice A1 ln1 cp1, .int .i64 tw1, .int .i64 fv1] := by rw [← hV1]; exact Ob.mk_ _ _ _
              have uV1 : Up w V1 := by rw [← hV1]; exact (Up.refl _).alloc _
              have ltB : w.heap.size ≤ w.heap.size := U.size
              rw [hV1]
              clear hV1
              replace U := U.trans uV1
              clear uV1
              refine (shown8_any _ (Lib.hid (TT.out.up U)) (Lib.hid (TF.out.up U))).mono ?_
              rintro _ w2 ⟨rfl, h2⟩
              replace U := U.trans h2
              replace B := B.up h2
              clear h2
              have B0 := B.get 0
              have B1 := B.get 1
              have B2 := B.get 2
              have B3 := B.get 3
              have Bf0 := B.fr 0
              have Bf1 := B.fr 1
              have Bf2 := B.fr 2
              have Bf3 := B.fr 3
              have Bl := B.lt
              simp only [List.getElem?_toArray, List.getElem?_cons_zero, List.getElem?_cons_succ] at B0 B1 B2 B3
              go_wp2_with fail
              clear B0 Bf0 B1 Bf1 B2 Bf2 B3 Bf3 Bl
              refine (CS1.out _ U).mono ?_
              rintro _ w3 ⟨rfl, h3⟩
              replace U := U.trans h3
              replace B := B.up h3
              clear h3
              go_upto_region 3 with (refine store_ob2 rfl 32 (.tmp 3) (.tmp 18) rfl _ #[.bool ng1, .slice A1 ln1 cp1, .int .i64 tw1, .int .i64 fv1] #[.bool ng1, .slice A1 mm1 cp1, .int .i64 t, .int .i64 g] rfl rfl 4 (by kernel_rfl) rfl rfl (by simp [Value.oneCell']) w U ltB 32 B ?_; clear U; intro V9 Z9 U ho; clear ho B; have B := Z9; clear Z9)
              have B0 := B.get 0
              have B1 := B.get 1
              have B2 := B.get 2
              have B3 := B.get 3
              have Bf0 := B.fr 0
              have Bf1 := B.fr 1
              have Bf2 := B.fr 2
              have Bf3 := B.fr 3
              have Bl := B.lt
              simp only [List.getElem?_toArray, List.getElem?_cons_zero, List.getElem?_cons_succ] at B0 B1 B2 B3
              go_wp2_with fail
              clear B0 Bf0 B1 Bf1 B2 Bf2 B3 Bf3 Bl
              refine (CR1.out _ (TT.out.up U) (TF.out.up U) U).mono ?_
              rintro _ w4 ⟨rfl, h4⟩
              replace U := U.trans h4
              replace B := B.up h4
              clear h4
              go_wp2_with fail
              refine (CD.out _ (TT.out.up U) (TF.out.up U)).mono ?_
              rintro _ w5 ⟨rfl, h5⟩
              replace U := U.trans h5
              replace B := B.up h5
              clear h5
              go_wp2_with fail
              obtain ⟨V6, hV6⟩ : ∃ V6, w5.alloc (.cells #[.int .i64 2, .bool ng1, .int .u64 (m : Int), .int .i64 z] 25) = V6 := ⟨_, rfl⟩
              have Y : Ob V6 w5.heap.size 25 #[.int .i64 2, .bool ng1, .int .u64 (m : Int), .int .i64 z] := by rw [← hV6]; exact Ob.mk_ _ _ _
              have uV6 : Up w5 V6 := by rw [← hV6]; exact (Up.refl _).alloc _
              have ltY : w.heap.size ≤ w5.heap.size := U.size
              rw [hV6]
              clear hV6
              replace U := U.trans uV6
              replace B := B.up uV6
              clear uV6
              refine (CL.out _ (TT.out.up U) (TF.out.up U)).mono ?_
              rintro _ w7 ⟨_, _, rfl, ⟨A2, n2, k2, ys2, rfl, N2⟩, ⟨A3, n3, k3, ys3, rfl, N3⟩, h⟩
              replace N2 : Nt w7 _ 1 (.slice A2 n2 k2) m1 := ⟨_, _, _, _, rfl, N2⟩
              replace N3 : Nt w7 _ 1 (.slice A3 n3 k3) m2 := ⟨_, _, _, _, rfl, N3⟩
              replace U := U.trans h
              replace B := B.up h
              replace Y := Y.up h
              clear h
              have nil3 := N3.nil_iff
              have n3p : 0 < n3 := by omega
              clear nil3
              go_upto_region 8 with (first | (refine store_ob2 rfl 32 (.tmp 10) (.tmp 47) rfl _ #[.bool false, .slice none 0 0, .int .i64 0, .int .i64 0] #[.bool false, .slice A2 n2 k2, .int .i64 z1, .int .i64 0] rfl rfl 4 (by kernel_rfl) rfl rfl (by simp [Value.oneCell']) w7 (((Up.refl _).alloc _).alloc _) (Nat.le_refl _) 32 ((Ob.mk_ _ _ _).up ((Up.refl _).alloc _)) ?_; intro VA A uA ho; have E := ob_next w7 32 #[.bool false, .slice none 0 0, .int .i64 0, .int .i64 0] #[.bool false, .slice none 0 0, .int .i64 0, .int .i64 0]; replace E := Ob.oth E ho (by omega); clear ho) | (refine store_ob2 rfl 32 (.tmp 11) (.tmp 48) rfl _ #[.bool false, .slice none 0 0, .int .i64 0, .int .i64 0] #[.bool false, .slice A3 n3 k3, .int .i64 z2, .int .i64 0] rfl rfl 4 (by kernel_rfl) rfl rfl (by simp [Value.oneCell']) w7 uA (Nat.le_succ _) 32 E ?_; clear E; intro VB E uB ho; replace A := Ob.oth A ho (by omega); clear ho uA))
              replace U := U.trans uB
              replace B := B.up uB
              replace Y := Y.up uB
              replace N2 := N2.up uB
              replace N3 := N3.up uB
              clear uB
              have B0 := B.get 0
              have B1 := B.get 1
              have B2 := B.get 2
              have B3 := B.get 3
              have Bf0 := B.fr 0
              have Bf1 := B.fr 1
              have Bf2 := B.fr 2
              have Bf3 := B.fr 3
              have Bl := B.lt
              simp only [List.getElem?_toArray, List.getElem?_cons_zero, List.getElem?_cons_succ] at B0 B1 B2 B3
              have A0 := A.get 0
              have A1 := A.get 1
              have A2 := A.get 2
              have A3 := A.get 3
              have Af0 := A.fr 0
              have Af1 := A.fr 1
              have Af2 := A.fr 2
              have Af3 := A.fr 3
              have Al := A.lt
              simp only [List.getElem?_toArray, List.getElem?_cons_zero, List.getElem?_cons_succ] at A0 A1 A2 A3
              go_wp2_with fail
              clear B0 Bf0 B1 Bf1 B2 Bf2 B3 Bf3 Bl
              clear A0 Af0 A1 Af1 A2 Af2 A3 Af3 Al
              refine (C1.out _ U _ _ N2).mono ?_
              rintro _ w8 ⟨rfl, h8⟩
              replace U := U.trans h8
              replace B := B.up h8
              replace Y := Y.up h8
              replace A := A.up h8
              replace E := E.up h8
              replace N2 := N2.up h8
              replace N3 := N3.up h8
              clear h8
              have B0 := B.get 0
              have B1 := B.get 1
              have B2 := B.get 2
              have B3 := B.get 3
              have Bf0 := B.fr 0
              have Bf1 := B.fr 1
              have Bf2 := B.fr 2
              have Bf3 := B.fr 3
              have Bl := B.lt
              simp only [List.getElem?_toArray, List.getElem?_cons_zero, List.getElem?_cons_succ] at B0 B1 B2 B3
              have E0 := E.get 0
              have E1 := E.get 1
              have E2 := E.get 2
              have E3 := E.get 3
              have Ef0 := E.fr 0
              have Ef1 := E.fr 1
              have Ef2 := E.fr 2
              have Ef3 := E.fr 3
              have El := E.lt
              simp only [List.getElem?_toArray, List.getElem?_cons_zero, List.getElem?_cons_succ] at E0 E1 E2 E3
              have Y0 := Y.get 0
              have Y1 := Y.get 1
              have Y2 := Y.get 2
              have Y3 := Y.get 3
              have Yf0 := Y.fr 0
              have Yf1 := Y.fr 1
              have Yf2 := Y.fr 2
              have Yf3 := Y.fr 3
              have Yl := Y.lt
              simp only [List.getElem?_toArray, List.getElem?_cons_zero, List.getElem?_cons_succ] at Y0 Y1 Y2 Y3
              go_wp2_with fail
              clear B0 Bf0 B1 Bf1 B2 Bf2 B3 Bf3 Bl
              clear E0 Ef0 E1 Ef1 E2 Ef2 E3 Ef3 El
              clear Y0 Yf0 Y1 Yf1 Y2 Yf2 Y3 Yf3 Yl
              refine (C2.out _ U _ _ N3).mono ?_
              rintro _ w9 ⟨rfl, h9⟩
              replace U := U.trans h9
              replace B := B.up h9
              replace Y := Y.up h9
              replace A := A.up h9
              replace E := E.up h9
              replace N2 := N2.up h9
              replace N3 := N3.up h9
              clear h9
              have B0 := B.get 0
              have B1 := B.get 1
              have B2 := B.get 2
              have B3 := B.get 3
              have Bf0 := B.fr 0
              have Bf1 := B.fr 1
              have Bf2 := B.fr 2
              have Bf3 := B.fr 3
              have Bl := B.lt
              simp only [List.getElem?_toArray, List.getElem?_cons_zero, List.getElem?_cons_succ] at B0 B1 B2 B3
              have Y0 := Y.get 0
              have Y1 := Y.get 1
              have Y2 := Y.get 2
              have Y3 := Y.get 3
              have Yf0 := Y.fr 0
              have Yf1 := Y.fr 1
              have Yf2 := Y.fr 2
              have Yf3 := Y.fr 3
              have Yl := Y.lt
              simp only [List.getElem?_toArray, List.getElem?_cons_zero, List.getElem?_cons_succ] at Y0 Y1 Y2 Y3
              go_wp2_with fail
              clear B0 Bf0 B1 Bf1 B2 Bf2 B3 Bf3 Bl
              clear Y0 Yf0 Y1 Yf1 Y2 Yf2 Y3 Yf3 Yl
              first | go_ret | refine bodyPost_ret (v := .bool true) (by simp [results, Tryd.results5, go_sem]) rfl ?_
              exact ⟨by first | rfl | simp, by first | exact U | exact U.alloc _ | exact U.drewN _ | exact U.drew⟩
            ·
              have U := Up.refl w
              go_enter Tryd.func5, Tryd.ntmps5
              go_wp2_with fail
              obtain ⟨V1, hV1⟩ : ∃ V1, w.alloc (.cells #[.bool ng1, .slice A1 ln1 cp1, .int .i64 tw1, .int .i64 fv1] 32) = V1 := ⟨_, rfl⟩
              have B : Ob V1 w.heap.size 32 #[.bool ng1, .slice A1 ln1 cp1, .int .i64 tw1, .int .i64 fv1] := by rw [← hV1]; exact Ob.mk_ _ _ _
              have uV1 : Up w V1 := by rw [← hV1]; exact (Up.refl _).alloc _
              have ltB : w.heap.size ≤ w.heap.size := U.size
              rw [hV1]
              clear hV1
              replace U := U.trans uV1
              clear uV1
              refine (shown8_any _ (Lib.hid (TT.out.up U)) (Lib.hid (TF.out.up U))).mono ?_
              rintro _ w2 ⟨rfl, h2⟩
              replace U := U.trans h2
              replace B := B.up h2
              clear h2
              have B0 := B.get 0
              have B1 := B.get 1
              have B2 := B.get 2
              have B3 := B.get 3
              have Bf0 := B.fr 0
              have Bf1 := B.fr 1
              have Bf2 := B.fr 2
              have Bf3 := B.fr 3
              have Bl := B.lt
              simp only [List.getElem?_toArray, List.getElem?_cons_zero, List.getElem?_cons_succ] at B0 B1 B2 B3
              go_wp2_with fail
              clear B0 Bf0 B1 Bf1 B2 Bf2 B3 Bf3 Bl
              refine (CS1.out _ U).mono ?_
              rintro _ w3 ⟨rfl, h3⟩
              replace U := U.trans h3
              replace B := B.up h3
              clear h3
              go_upto_region 3 with (refine store_ob2 rfl 32 (.tmp 3) (.tmp 18) rfl _ #[.bool ng1, .slice A1 ln1 cp1, .int .i64 tw1, .int .i64 fv1] #[.bool ng1, .slice A1 mm1 cp1, .int .i64 t, .int .i64 g] rfl rfl 4 (by kernel_rfl) rfl rfl (by simp [Value.oneCell']) w U ltB 32 B ?_; clear U; intro V9 Z9 U ho; clear ho B; have B := Z9; clear Z9)
              have B0 := B.get 0
              have B1 := B.get 1
              have B2 := B.get 2
              have B3 := B.get 3
              have Bf0 := B.fr 0
              have Bf1 := B.fr 1
              have Bf2 := B.fr 2
              have Bf3 := B.fr 3
              have Bl := B.lt
              simp only [List.getElem?_toArray, List.getElem?_cons_zero, List.getElem?_cons_succ] at B0 B1 B2 B3
              go_wp2_with fail
              clear B0 Bf0 B1 Bf1 B2 Bf2 B3 Bf3 Bl
              refine (CR1.out _ (TT.out.up U) (TF.out.up U) U).mono ?_
              rintro _ w4 ⟨rfl, h4⟩
              replace U := U.trans h4
              replace B := B.up h4
              clear h4
              go_wp2_with fail
              refine (CD.out _ (TT.out.up U) (TF.out.up U)).mono ?_
              rintro _ w5 ⟨rfl, h5⟩
              replace U := U.trans h5
              replace B := B.up h5
              clear h5
              go_wp2_with fail
              obtain ⟨V6, hV6⟩ : ∃ V6, w5.alloc (.cells #[.int .i64 2, .bool ng1, .int .u64 (m : Int), .int .i64 z] 25) = V6 := ⟨_, rfl⟩
              have Y : Ob V6 w5.heap.size 25 #[.int .i64 2, .bool ng1, .int .u64 (m : Int), .int .i64 z] := by rw [← hV6]; exact Ob.mk_ _ _ _
              have uV6 : Up w5 V6 := by rw [← hV6]; exact (Up.refl _).alloc _
              have ltY : w.heap.size ≤ w5.heap.size := U.size
              rw [hV6]
              clear hV6
              replace U := U.trans uV6
              replace B := B.up uV6
              clear uV6
              refine (CL.out _ (TT.out.up U) (TF.out.up U)).mono ?_
              rintro _ w7 ⟨_, _, rfl, ⟨A2, n2, k2, ys2, rfl, N2⟩, ⟨A3, n3, k3, ys3, rfl, N3⟩, h⟩
              replace N2 : Nt w7 _ 1 (.slice A2 n2 k2) m1 := ⟨_, _, _, _, rfl, N2⟩
              replace N3 : Nt w7 _ 1 (.slice A3 n3 k3) m2 := ⟨_, _, _, _, rfl, N3⟩
              replace U := U.trans h
              replace B := B.up h
              replace Y := Y.up h
              clear h
              have nil3 := N3.nil_iff
              have n3p : 0 < n3 := by omega
              clear nil3
              go_upto_region 8 with (first | (refine store_ob2 rfl 32 (.tmp 10) (.tmp 47) rfl _ #[.bool false, .slice none 0 0, .int .i64 0, .int .i64 0] #[.bool false, .slice A2 n2 k2, .int .i64 z1, .int .i64 0] rfl rfl 4 (by kernel_rfl) rfl rfl (by simp [Value.oneCell']) w7 (((Up.refl _).alloc _).alloc _) (Nat.le_refl _) 32 ((Ob.mk_ _ _ _).up ((Up.refl _).alloc _)) ?_; intro VA A uA ho; have E := ob_next w7 32 #[.bool false, .slice none 0 0, .int .i64 0, .int .i64 0] #[.bool false, .slice none 0 0, .int .i64 0, .int .i64 0]; replace E := Ob.oth E ho (by omega); clear ho) | (refine store_ob2 rfl 32 (.tmp 11) (.tmp 48) rfl _ #[.bool false, .slice none 0 0, .int .i64 0, .int .i64 0] #[.bool false, .slice A3 n3 k3, .int .i64 z2, .int .i64 0] rfl rfl 4 (by kernel_rfl) rfl rfl (by simp [Value.oneCell']) w7 uA (Nat.le_succ _) 32 E ?_; clear E; intro VB E uB ho; replace A := Ob.oth A ho (by omega); clear ho uA))
              replace U := U.trans uB
              replace B := B.up uB
              replace Y := Y.up uB
              replace N2 := N2.up uB
              replace N3 := N3.up uB
              clear uB
              have B0 := B.get 0
              have B1 := B.get 1
              have B2 := B.get 2
              have B3 := B.get 3
              have Bf0 := B.fr 0
              have Bf1 := B.fr 1
              have Bf2 := B.fr 2
              have Bf3 := B.fr 3
              have Bl := B.lt
              simp only [List.getElem?_toArray, List.getElem?_cons_zero, List.getElem?_cons_succ] at B0 B1 B2 B3
              have A0 := A.get 0
              have A1 := A.get 1
              have A2 := A.get 2
              have A3 := A.get 3
              have Af0 := A.fr 0
              have Af1 := A.fr 1
              have Af2 := A.fr 2
              have Af3 := A.fr 3
              have Al := A.lt
              simp only [List.getElem?_toArray, List.getElem?_cons_zero, List.getElem?_cons_succ] at A0 A1 A2 A3
              go_wp2_with fail
              clear B0 Bf0 B1 Bf1 B2 Bf2 B3 Bf3 Bl
              clear A0 Af0 A1 Af1 A2 Af2 A3 Af3 Al
              refine (C1.out _ U _ _ N2).mono ?_
              rintro _ w8 ⟨rfl, h8⟩
              replace U := U.trans h8
              replace B := B.up h8
              replace Y := Y.up h8
              replace A := A.up h8
              replace E := E.up h8
              replace N2 := N2.up h8
              replace N3 := N3.up h8
              clear h8
              have B0 := B.get 0
              have B1 := B.get 1
              have B2 := B.get 2
              have B3 := B.get 3
              have Bf0 := B.fr 0
              have Bf1 := B.fr 1
              have Bf2 := B.fr 2
              have Bf3 := B.fr 3
              have Bl := B.lt
              simp only [List.getElem?_toArray, List.getElem?_cons_zero, List.getElem?_cons_succ] at B0 B1 B2 B3
              have E0 := E.get 0
              have E1 := E.get 1
              have E2 := E.get 2
              have E3 := E.get 3
              have Ef0 := E.fr 0
              have Ef1 := E.fr 1
              have Ef2 := E.fr 2
              have Ef3 := E.fr 3
              have El := E.lt
              simp only [List.getElem?_toArray, List.getElem?_cons_zero, List.getElem?_cons_succ] at E0 E1 E2 E3
              have Y0 := Y.get 0
              have Y1 := Y.get 1
              have Y2 := Y.get 2
              have Y3 := Y.get 3
              have Yf0 := Y.fr 0
              have Yf1 := Y.fr 1
              have Yf2 := Y.fr 2
              have Yf3 := Y.fr 3
              have Yl := Y.lt
              simp only [List.getElem?_toArray, List.getElem?_cons_zero, List.getElem?_cons_succ] at Y0 Y1 Y2 Y3
              go_wp2_with fail
              clear B0 Bf0 B1 Bf1 B2 Bf2 B3 Bf3 Bl
              clear E0 Ef0 E1 Ef1 E2 Ef2 E3 Ef3 El
              clear Y0 Yf0 Y1 Yf1 Y2 Yf2 Y3 Yf3 Yl
              refine (C2.out _ U _ _ N3).mono ?_
              rintro _ w9 ⟨rfl, h9⟩
              replace U := U.trans h9
              replace B := B.up h9
              replace Y := Y.up h9
              replace A := A.up h9
              replace E := E.up h9
              replace N2 := N2.up h9
              replace N3 := N3.up h9
              clear h9
              have B0 := B.get 0
              have B1 := B.get 1
              have B2 := B.get 2
              have B3 := B.get 3
              have Bf0 := B.fr 0
              have Bf1 := B.fr 1
              have Bf2 := B.fr 2
              have Bf3 := B.fr 3
              have Bl := B.lt
              simp only [List.getElem?_toArray, List.getElem?_cons_zero, List.getElem?_cons_succ] at B0 B1 B2 B3
              have Y0 := Y.get 0
              have Y1 := Y.get 1
              have Y2 := Y.get 2
              have Y3 := Y.get 3
              have Yf0 := Y.fr 0
              have Yf1 := Y.fr 1
              have Yf2 := Y.fr 2
              have Yf3 := Y.fr 3
              have Yl := Y.lt
              simp only [List.getElem?_toArray, List.getElem?_cons_zero, List.getElem?_cons_succ] at Y0 Y1 Y2 Y3
              go_wp2_with fail
              clear B0 Bf0 B1 Bf1 B2 Bf2 B3 Bf3 Bl
              clear Y0 Yf0 Y1 Yf1 Y2 Yf2 Y3 Yf3 Yl
              first | go_ret | refine bodyPost_ret (v := .bool true) (by simp [results, Tryd.results5, go_sem]) rfl ?_
              exact ⟨by first | rfl | simp, by first | exact U | exact U.alloc _ | exact U.drewN _ | exact U.drew⟩
    ·
      have d1 : (c != 2) = true := by simpa using c2
      clear CC hp hc hd hcl ok ok2 ok3 pm p0 c2
      have U := Up.refl w
      go_enter Tryd.func5, Tryd.ntmps5
      go_wp2_with fail
      obtain ⟨V1, hV1⟩ : ∃ V1, w.alloc (.cells #[.bool ng1, .slice A1 ln1 cp1, .int .i64 tw1, .int .i64 fv1] 32) = V1 := ⟨_, rfl⟩
      have B : Ob V1 w.heap.size 32 #[.bool ng1, .slice A1 ln1 cp1, .int .i64 tw1, .int .i64 fv1] := by rw [← hV1]; exact Ob.mk_ _ _ _
      have uV1 : Up w V1 := by rw [← hV1]; exact (Up.refl _).alloc _
      have ltB : w.heap.size ≤ w.heap.size := U.size
      rw [hV1]
      clear hV1
      replace U := U.trans uV1
      clear uV1
      refine (shown8_any _ (Lib.hid (TT.out.up U)) (Lib.hid (TF.out.up U))).mono ?_
      rintro _ w2 ⟨rfl, h2⟩
      replace U := U.trans h2
      replace B := B.up h2
      clear h2
      have B0 := B.get 0
      have B1 := B.get 1
      have B2 := B.get 2
      have B3 := B.get 3
      have Bf0 := B.fr 0
      have Bf1 := B.fr 1
      have Bf2 := B.fr 2
      have Bf3 := B.fr 3
      have Bl := B.lt
      simp only [List.getElem?_toArray, List.getElem?_cons_zero, List.getElem?_cons_succ] at B0 B1 B2 B3
      go_wp2_with fail
      clear B0 Bf0 B1 Bf1 B2 Bf2 B3 Bf3 Bl
      refine (CS1.out _ U).mono ?_
      rintro _ w3 ⟨rfl, h3⟩
      replace U := U.trans h3
      replace B := B.up h3
      clear h3
      go_upto_region 3 with (refine store_ob2 rfl 32 (.tmp 3) (.tmp 18) rfl _ #[.bool ng1, .slice A1 ln1 cp1, .int .i64 tw1, .int .i64 fv1] #[.bool ng1, .slice A1 mm1 cp1, .int .i64 t, .int .i64 g] rfl rfl 4 (by kernel_rfl) rfl rfl (by simp [Value.oneCell']) w U ltB 32 B ?_; clear U; intro V9 Z9 U ho; clear ho B; have B := Z9; clear Z9)
      have B0 := B.get 0
      have B1 := B.get 1
      have B2 := B.get 2
      have B3 := B.get 3
      have Bf0 := B.fr 0
      have Bf1 := B.fr 1
      have Bf2 := B.fr 2
      have Bf3 := B.fr 3
      have Bl := B.lt
      simp only [List.getElem?_toArray, List.getElem?_cons_zero, List.getElem?_cons_succ] at B0 B1 B2 B3
      go_wp2_with fail
      clear B0 Bf0 B1 Bf1 B2 Bf2 B3 Bf3 Bl
      refine (CR1.out _ (TT.out.up U) (TF.out.up U) U).mono ?_
      rintro _ w4 ⟨rfl, h4⟩
      replace U := U.trans h4
      replace B := B.up h4
      clear h4
      go_wp2_with fail
      refine (CD.out _ (TT.out.up U) (TF.out.up U)).mono ?_
      rintro _ w5 ⟨rfl, h5⟩
      replace U := U.trans h5
      replace B := B.up h5
      clear h5
      go_wp2_with fail
      first | go_ret | refine bodyPost_ret (v := .bool true) (by simp [results, Tryd.results5, go_sem]) rfl ?_
      exact ⟨by first | rfl | simp, by first | exact U | exact U.alloc _ | exact U.drewN _ | exact U.drew⟩
end Go.Proofs.YtlogglhonlannaaDoor
