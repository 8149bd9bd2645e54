/-
  RoundLimits.
-/
import Derived.Test.YtlogglhonlannaaGreatDoorZd
namespace Go.Proofs.YtlogglhonlannaaGreatDoor
open Go.RowKit
set_option linter.unusedSimpArgs false
set_option linter.unusedVariables false

theorem ob_next8 (w : World) (ty : TypeId) (c1 c2 : Array Value) : Ob ((w.alloc (.cells c1 ty)).alloc (.cells c2 ty)) (w.heap.size + 1) ty c2 := by
  have h := Ob.mk_ (w.alloc (.cells c1 ty)) ty c2
  rwa [show (w.alloc (.cells c1 ty)).heap.size = w.heap.size + 1 from Array.size_push _] at h
set_option maxHeartbeats 3000000 in
set_option maxRecDepth 100000 in
theorem rlimits_walk (w : World) (TT : Hid (Tz w)) (TF : Hid (TabF w)) (x0 : Int) (_wx0 : (Lit.int .i64 x0).wf = true) (x1 : Int) (wx1 : (Lit.int .u64 x1).wf = true) : Calls Tryz.prog 4 #[.int .i64 x0, .int .u64 x1] w (True8 w) := by
  obtain ⟨p, rfl, hp⟩ := wf_u64 wx1
  clear wx1
  obtain ⟨m1, z1, m2, z2, ev, x, h⟩ := M.lc_ex x0 p
  have CL := Lib.hid (fun W (T : Tz W) (F : TabF W) => rnd_limits W (Lib.hid T) (Lib.hid F) x0 p hp m1 z1 m2 z2 ev x h)
  obtain ⟨gg, k, hF, h⟩ := h
  have hx : (∃ c m z x', M.Dc x0 p c gg m z x' ∧ x' = x ∧ x ≠ 0 ∧ m1 = 0 ∧ z1 = 0 ∧ m2 = 0 ∧ z2 = 0 ∧ ev = false) ∨ (∃ c g' m z, M.Dc x0 p c g' m z 0 ∧ c ≠ 2 ∧ x = 5 ∧ m1 = 0 ∧ z1 = 0 ∧ m2 = 0 ∧ z2 = 0 ∧ ev = false) ∨
      (x = 0 ∧ ∃ (i : Nat) (m : Nat) (z : Int), x0 = i ∧ 1 ≤ i ∧ i ≤ 14 ∧ M.Dc x0 p 2 gg m z 0 ∧ M.Lm (M.tb i) gg k m1 z1 m2 z2 ∧ ev = decide (k % 2 = 0)) := by
    rcases h with ⟨hx, rfl, rfl, rfl, rfl, rfl⟩ | ⟨rfl, hl, hev⟩
    · rcases hF with ⟨h, rfl, rfl, rfl⟩ | ⟨i, rfl, a, b, ⟨h, rfl, rfl, rfl⟩ | ⟨h1, ⟨h2, rfl, rfl, rfl⟩ | ⟨_, _, _, h⟩⟩⟩
      · exact .inl ⟨0, 0, 0, 3, .inl ⟨h, rfl, rfl, rfl, rfl, rfl⟩, rfl, hx, rfl, rfl, rfl, rfl, rfl⟩
      · exact .inl ⟨0, 0, 0, 1, .inr ⟨i, rfl, a, b, .inl ⟨h, rfl, rfl, rfl, rfl, rfl⟩⟩, rfl, hx, rfl, rfl, rfl, rfl, rfl⟩
      · obtain ⟨c, g', m, z, hd⟩ := M.dv_ex (M.ok i a b) (M.ok2 i a b) (p := (p : Int)) (by omega) h1
        refine .inr (.inl ⟨c, g', m, z, .inr ⟨i, rfl, a, b, .inr ⟨h1, hd, rfl⟩⟩, ?_, rfl, rfl, rfl, rfl, rfl, rfl⟩)
        rcases hd with ⟨_, rfl, _⟩ | ⟨_, rfl, _⟩ | ⟨_, rfl, _⟩ | ⟨h, _⟩
        · decide
        · decide
        · decide
        · exact absurd h h2
      · exact absurd h hx
    · obtain ⟨i, e, a, b, h1, hc, hg, hk, _, _, _⟩ := M.fc_in hF
      subst e
      obtain ⟨c, g', m, z, hd⟩ := M.dv_ex (M.ok i a b) (M.ok2 i a b) (p := (p : Int)) (by omega) h1
      have : c = 2 ∧ g' = gg := by
        rcases hd with ⟨h, _⟩ | ⟨h, _⟩ | ⟨h, _⟩ | ⟨_, h, h3, _⟩
        · omega
        · omega
        · omega
        · exact ⟨h, h3.trans hg.symm⟩
      obtain ⟨rfl, rfl⟩ := this
      exact .inr (.inr ⟨rfl, i, m, z, rfl, a, b, .inr ⟨i, rfl, a, b, .inr ⟨h1, hd, rfl⟩⟩, hl i rfl, hev⟩)
  clear h
  rcases hx with ⟨c, m, z, x', hd, rfl, hx, rfl, rfl, rfl, rfl, rfl⟩ | ⟨c, g', m, z, hd, hc, rfl, rfl, rfl, rfl, rfl, rfl⟩ | ⟨rfl, i, m, z, rfl, i1, i2, hd, hl, rfl⟩
  ·
    have CD := Lib.hid (fun W => rdecode_any W x0 p hp c gg m z x' hd)
    have d1 : (x' == 0) = false := by simpa using hx
    have d2 : (x' != 0) = true := by simpa using hx
    have d3 : (x' == x') = true := by simp
    clear hd hF hx
    have U := Up.refl w
    go_enter Tryz.func4, Tryz.ntmps4
    go_wp2_with fail
    refine (shown8_any _ (Lib.hid (TT.out.up U)) (Lib.hid (TF.out.up U))).mono ?_
    rintro _ w1 ⟨rfl, h1⟩
    replace U := U.trans h1
    clear h1
    go_wp2_with fail
    refine (CL.out _ (TT.out.up U) (TF.out.up U)).mono ?_
    rintro _ w2 ⟨_, _, rfl, ⟨A2, n2, k2, ys2, rfl, N2⟩, ⟨A3, n3, k3, ys3, rfl, N3⟩, h⟩
    replace N2 : Nt w2 _ 1 (.slice A2 n2 k2) 0 := ⟨_, _, _, _, rfl, N2⟩
    replace N3 : Nt w2 _ 1 (.slice A3 n3 k3) 0 := ⟨_, _, _, _, rfl, N3⟩
    replace U := U.trans h
    clear h
    obtain rfl : n2 = 0 := by have := N2.nil_iff; omega
    obtain rfl : n3 = 0 := by have := N3.nil_iff; omega
    clear N2 N3
    go_upto_region 3 with (first | (refine store_ob2 rfl 25 (.tmp 6) (.tmp 20) rfl _ #[.bool false, .slice none 0 0, .int .i64 0, .int .i64 0] #[.bool false, .slice A2 0 k2, .int .i64 0, .int .i64 0] rfl rfl 4 (by kernel_rfl) rfl rfl (by simp [Value.oneCell']) w2 (((Up.refl _).alloc _).alloc _) (Nat.le_refl _) 25 ((Ob.mk_ _ _ _).up ((Up.refl _).alloc _)) ?_; intro VA A uA ho; have B := ob_next8 w2 25 #[.bool false, .slice none 0 0, .int .i64 0, .int .i64 0] #[.bool false, .slice none 0 0, .int .i64 0, .int .i64 0]; replace B := Ob.oth B ho (by omega); clear ho) | (refine store_ob2 rfl 25 (.tmp 7) (.tmp 21) rfl _ #[.bool false, .slice none 0 0, .int .i64 0, .int .i64 0] #[.bool false, .slice A3 0 k3, .int .i64 0, .int .i64 0] rfl rfl 4 (by kernel_rfl) rfl rfl (by simp [Value.oneCell']) w2 uA (Nat.le_succ _) 25 B ?_; clear B; intro VB B uB ho; replace A := Ob.oth A ho (by omega); clear ho uA))
    replace U := U.trans uB
    clear uB
    go_wp2_with fail
    refine (CD.out _).mono ?_
    rintro _ w3 ⟨rfl, h3⟩
    replace U := U.trans h3
    replace A := A.up h3
    replace B := B.up h3
    clear h3
    have A0 := A.get 0
    have A1 := A.get 1
    have A2 := A.get 2
    have A3 := A.get 3
    have Af0 := A.fr 0
    have Af1 := A.fr 1
    have Af2 := A.fr 2
    have Af3 := A.fr 3
    have Al := A.lt
    simp only [List.getElem?_toArray, List.getElem?_cons_zero, List.getElem?_cons_succ] at A0 A1 A2 A3
    have B0 := B.get 0
    have B1 := B.get 1
    have B2 := B.get 2
    have B3 := B.get 3
    have Bf0 := B.fr 0
    have Bf1 := B.fr 1
    have Bf2 := B.fr 2
    have Bf3 := B.fr 3
    have Bl := B.lt
    simp only [List.getElem?_toArray, List.getElem?_cons_zero, List.getElem?_cons_succ] at B0 B1 B2 B3
    go_wp2_with fail
    clear A0 Af0 A1 Af1 A2 Af2 A3 Af3 Al
    clear B0 Bf0 B1 Bf1 B2 Bf2 B3 Bf3 Bl
    first | go_ret | refine bodyPost_ret (v := .bool true) (by simp [results, Tryz.results4, go_sem]) rfl ?_
    exact ⟨by first | rfl | simp, by first | exact U | exact U.alloc _ | exact U.drewN _ | exact U.drew⟩
  ·
    have CD := Lib.hid (fun W => rdecode_any W x0 p hp c g' m z 0 hd)
    have d1 : (c != 2) = true := by simpa using hc
    clear hd hF hc
    have U := Up.refl w
    go_enter Tryz.func4, Tryz.ntmps4
    go_wp2_with fail
    refine (shown8_any _ (Lib.hid (TT.out.up U)) (Lib.hid (TF.out.up U))).mono ?_
    rintro _ w1 ⟨rfl, h1⟩
    replace U := U.trans h1
    clear h1
    go_wp2_with fail
    refine (CL.out _ (TT.out.up U) (TF.out.up U)).mono ?_
    rintro _ w2 ⟨_, _, rfl, ⟨A2, n2, k2, ys2, rfl, N2⟩, ⟨A3, n3, k3, ys3, rfl, N3⟩, h⟩
    replace N2 : Nt w2 _ 1 (.slice A2 n2 k2) 0 := ⟨_, _, _, _, rfl, N2⟩
    replace N3 : Nt w2 _ 1 (.slice A3 n3 k3) 0 := ⟨_, _, _, _, rfl, N3⟩
    replace U := U.trans h
    clear h
    obtain rfl : n2 = 0 := by have := N2.nil_iff; omega
    obtain rfl : n3 = 0 := by have := N3.nil_iff; omega
    clear N2 N3
    go_upto_region 3 with (first | (refine store_ob2 rfl 25 (.tmp 6) (.tmp 20) rfl _ #[.bool false, .slice none 0 0, .int .i64 0, .int .i64 0] #[.bool false, .slice A2 0 k2, .int .i64 0, .int .i64 0] rfl rfl 4 (by kernel_rfl) rfl rfl (by simp [Value.oneCell']) w2 (((Up.refl _).alloc _).alloc _) (Nat.le_refl _) 25 ((Ob.mk_ _ _ _).up ((Up.refl _).alloc _)) ?_; intro VA A uA ho; have B := ob_next8 w2 25 #[.bool false, .slice none 0 0, .int .i64 0, .int .i64 0] #[.bool false, .slice none 0 0, .int .i64 0, .int .i64 0]; replace B := Ob.oth B ho (by omega); clear ho) | (refine store_ob2 rfl 25 (.tmp 7) (.tmp 21) rfl _ #[.bool false, .slice none 0 0, .int .i64 0, .int .i64 0] #[.bool false, .slice A3 0 k3, .int .i64 0, .int .i64 0] rfl rfl 4 (by kernel_rfl) rfl rfl (by simp [Value.oneCell']) w2 uA (Nat.le_succ _) 25 B ?_; clear B; intro VB B uB ho; replace A := Ob.oth A ho (by omega); clear ho uA))
    replace U := U.trans uB
    clear uB
    go_wp2_with fail
    refine (CD.out _).mono ?_
    rintro _ w3 ⟨rfl, h3⟩
    replace U := U.trans h3
    replace A := A.up h3
    replace B := B.up h3
    clear h3
    have A0 := A.get 0
    have A1 := A.get 1
    have A2 := A.get 2
    have A3 := A.get 3
    have Af0 := A.fr 0
    have Af1 := A.fr 1
    have Af2 := A.fr 2
    have Af3 := A.fr 3
    have Al := A.lt
    simp only [List.getElem?_toArray, List.getElem?_cons_zero, List.getElem?_cons_succ] at A0 A1 A2 A3
    have B0 := B.get 0
    have B1 := B.get 1
    have B2 := B.get 2
    have B3 := B.get 3
    have Bf0 := B.fr 0
    have Bf1 := B.fr 1
    have Bf2 := B.fr 2
    have Bf3 := B.fr 3
    have Bl := B.lt
    simp only [List.getElem?_toArray, List.getElem?_cons_zero, List.getElem?_cons_succ] at B0 B1 B2 B3
    go_wp2_with fail
    clear A0 Af0 A1 Af1 A2 Af2 A3 Af3 Al
    clear B0 Bf0 B1 Bf1 B2 Bf2 B3 Bf3 Bl
    first | go_ret | refine bodyPost_ret (v := .bool true) (by simp [results, Tryz.results4, go_sem]) rfl ?_
    exact ⟨by first | rfl | simp, by first | exact U | exact U.alloc _ | exact U.drewN _ | exact U.drew⟩
  ·
    have CD := Lib.hid (fun W => rdecode_any W (i : Int) p hp 2 gg m z 0 hd)
    have CL2 := Lib.hid (fun W => rlimits8_any W i (M.tb i) (Lib.hid rfl) i1 i2 p hp gg k m1 z1 m2 z2 hF hl)
    have CS1 := Lib.hid (fun W lo lo' v v' (N : Nt W lo 1 v m1) (N' : Nt W lo' 1 v' m1) => same8_any W lo lo' v v' m1 z1 N N')
    have CS2 := Lib.hid (fun W lo lo' v v' (N : Nt W lo 1 v m2) (N' : Nt W lo' 1 v' m2) => same8_any W lo lo' v v' m2 z2 N N')
    obtain ⟨ev, hev⟩ : ∃ ev, decide (k % 2 = 0) = ev := ⟨_, rfl⟩
    rw [hev] at CL CL2
    have de : (ev == ev) = true := by simp
    clear hd hF hl hev
    have U := Up.refl w
    go_enter Tryz.func4, Tryz.ntmps4
    go_wp2_with fail
    refine (shown8_any _ (Lib.hid (TT.out.up U)) (Lib.hid (TF.out.up U))).mono ?_
    rintro _ w1 ⟨rfl, h1⟩
    replace U := U.trans h1
    clear h1
    go_wp2_with fail
    refine (CL.out _ (TT.out.up U) (TF.out.up U)).mono ?_
    rintro _ w2 ⟨_, _, rfl, ⟨A2, n2, k2, ys2, rfl, N2⟩, ⟨A3, n3, k3, ys3, rfl, N3⟩, h⟩
    replace N2 : Nt w2 _ 1 (.slice A2 n2 k2) m1 := ⟨_, _, _, _, rfl, N2⟩
    replace N3 : Nt w2 _ 1 (.slice A3 n3 k3) m2 := ⟨_, _, _, _, rfl, N3⟩
    replace U := U.trans h
    clear h
    go_upto_region 3 with (first | (refine store_ob2 rfl 25 (.tmp 6) (.tmp 20) rfl _ #[.bool false, .slice none 0 0, .int .i64 0, .int .i64 0] #[.bool false, .slice A2 n2 k2, .int .i64 z1, .int .i64 0] rfl rfl 4 (by kernel_rfl) rfl rfl (by simp [Value.oneCell']) w2 (((Up.refl _).alloc _).alloc _) (Nat.le_refl _) 25 ((Ob.mk_ _ _ _).up ((Up.refl _).alloc _)) ?_; intro VA A uA ho; have B := ob_next8 w2 25 #[.bool false, .slice none 0 0, .int .i64 0, .int .i64 0] #[.bool false, .slice none 0 0, .int .i64 0, .int .i64 0]; replace B := Ob.oth B ho (by omega); clear ho) | (refine store_ob2 rfl 25 (.tmp 7) (.tmp 21) rfl _ #[.bool false, .slice none 0 0, .int .i64 0, .int .i64 0] #[.bool false, .slice A3 n3 k3, .int .i64 z2, .int .i64 0] rfl rfl 4 (by kernel_rfl) rfl rfl (by simp [Value.oneCell']) w2 uA (Nat.le_succ _) 25 B ?_; clear B; intro VB B uB ho; replace A := Ob.oth A ho (by omega); clear ho uA))
    replace U := U.trans uB
    replace N2 := N2.up uB
    replace N3 := N3.up uB
    clear uB
    go_wp2_with fail
    refine (CD.out _).mono ?_
    rintro _ w3 ⟨rfl, h3⟩
    replace U := U.trans h3
    replace A := A.up h3
    replace B := B.up h3
    replace N2 := N2.up h3
    replace N3 := N3.up h3
    clear h3
    go_wp2_with fail
    obtain ⟨V4, hV4⟩ : ∃ V4, w3.alloc (.cells #[.int .i64 2, .bool gg, .int .u64 (m : Int), .int .i64 z] 46) = V4 := ⟨_, rfl⟩
    have Y : Ob V4 w3.heap.size 46 #[.int .i64 2, .bool gg, .int .u64 (m : Int), .int .i64 z] := by rw [← hV4]; exact Ob.mk_ _ _ _
    have uV4 : Up w3 V4 := by rw [← hV4]; exact (Up.refl _).alloc _
    have ltY : w.heap.size ≤ w3.heap.size := U.size
    rw [hV4]
    clear hV4
    replace U := U.trans uV4
    replace A := A.up uV4
    replace B := B.up uV4
    replace N2 := N2.up uV4
    replace N3 := N3.up uV4
    clear uV4
    refine (CL2.out _).mono ?_
    rintro _ w5 ⟨_, _, rfl, ⟨A4, n4, k4, ys4, rfl, M2⟩, ⟨A5, n5, k5, ys5, rfl, M3⟩, h⟩
    replace M2 : Nt w5 _ 1 (.slice A4 n4 k4) m1 := ⟨_, _, _, _, rfl, M2⟩
    replace M3 : Nt w5 _ 1 (.slice A5 n5 k5) m2 := ⟨_, _, _, _, rfl, M3⟩
    replace U := U.trans h
    replace A := A.up h
    replace B := B.up h
    replace Y := Y.up h
    replace N2 := N2.up h
    replace N3 := N3.up h
    clear h
    go_upto_region 9 with (first | (refine store_ob2 rfl 25 (.tmp 12) (.tmp 65) rfl _ #[.bool false, .slice none 0 0, .int .i64 0, .int .i64 0] #[.bool false, .slice A4 n4 k4, .int .i64 z1, .int .i64 0] rfl rfl 4 (by kernel_rfl) rfl rfl (by simp [Value.oneCell']) w5 (((Up.refl _).alloc _).alloc _) (Nat.le_refl _) 25 ((Ob.mk_ _ _ _).up ((Up.refl _).alloc _)) ?_; intro VC E uA ho; have F := ob_next8 w5 25 #[.bool false, .slice none 0 0, .int .i64 0, .int .i64 0] #[.bool false, .slice none 0 0, .int .i64 0, .int .i64 0]; replace F := Ob.oth F ho (by omega); clear ho) | (refine store_ob2 rfl 25 (.tmp 13) (.tmp 66) rfl _ #[.bool false, .slice none 0 0, .int .i64 0, .int .i64 0] #[.bool false, .slice A5 n5 k5, .int .i64 z2, .int .i64 0] rfl rfl 4 (by kernel_rfl) rfl rfl (by simp [Value.oneCell']) w5 uA (Nat.le_succ _) 25 F ?_; clear F; intro VD F uB ho; replace E := Ob.oth E ho (by omega); clear ho uA))
    replace U := U.trans uB
    replace A := A.up uB
    replace B := B.up uB
    replace Y := Y.up uB
    replace N2 := N2.up uB
    replace N3 := N3.up uB
    replace M2 := M2.up uB
    replace M3 := M3.up uB
    clear uB
    have A0 := A.get 0
    have A1 := A.get 1
    have A2 := A.get 2
    have A3 := A.get 3
    have Af0 := A.fr 0
    have Af1 := A.fr 1
    have Af2 := A.fr 2
    have Af3 := A.fr 3
    have Al := A.lt
    simp only [List.getElem?_toArray, List.getElem?_cons_zero, List.getElem?_cons_succ] at A0 A1 A2 A3
    have E0 := E.get 0
    have E1 := E.get 1
    have E2 := E.get 2
    have E3 := E.get 3
    have Ef0 := E.fr 0
    have Ef1 := E.fr 1
    have Ef2 := E.fr 2
    have Ef3 := E.fr 3
    have El := E.lt
    simp only [List.getElem?_toArray, List.getElem?_cons_zero, List.getElem?_cons_succ] at E0 E1 E2 E3
    go_wp2_with fail
    clear A0 Af0 A1 Af1 A2 Af2 A3 Af3 Al
    clear E0 Ef0 E1 Ef1 E2 Ef2 E3 Ef3 El
    refine (CS1.out _ _ _ _ _ N2 M2).mono ?_
    rintro _ w6 ⟨rfl, h6⟩
    replace U := U.trans h6
    replace A := A.up h6
    replace B := B.up h6
    replace Y := Y.up h6
    replace E := E.up h6
    replace F := F.up h6
    replace N2 := N2.up h6
    replace N3 := N3.up h6
    replace M2 := M2.up h6
    replace M3 := M3.up h6
    clear h6
    have B0 := B.get 0
    have B1 := B.get 1
    have B2 := B.get 2
    have B3 := B.get 3
    have Bf0 := B.fr 0
    have Bf1 := B.fr 1
    have Bf2 := B.fr 2
    have Bf3 := B.fr 3
    have Bl := B.lt
    simp only [List.getElem?_toArray, List.getElem?_cons_zero, List.getElem?_cons_succ] at B0 B1 B2 B3
    have F0 := F.get 0
    have F1 := F.get 1
    have F2 := F.get 2
    have F3 := F.get 3
    have Ff0 := F.fr 0
    have Ff1 := F.fr 1
    have Ff2 := F.fr 2
    have Ff3 := F.fr 3
    have Fl := F.lt
    simp only [List.getElem?_toArray, List.getElem?_cons_zero, List.getElem?_cons_succ] at F0 F1 F2 F3
    go_wp2_with fail
    clear B0 Bf0 B1 Bf1 B2 Bf2 B3 Bf3 Bl
    clear F0 Ff0 F1 Ff1 F2 Ff2 F3 Ff3 Fl
    refine (CS2.out _ _ _ _ _ N3 M3).mono ?_
    rintro _ w7 ⟨rfl, h7⟩
    replace U := U.trans h7
    replace A := A.up h7
    replace B := B.up h7
    replace Y := Y.up h7
    replace E := E.up h7
    replace F := F.up h7
    replace N2 := N2.up h7
    replace N3 := N3.up h7
    replace M2 := M2.up h7
    replace M3 := M3.up h7
    clear h7
    go_wp2_with fail
    first | go_ret | refine bodyPost_ret (v := .bool true) (by simp [results, Tryz.results4, go_sem]) rfl ?_
    exact ⟨by first | rfl | simp, by first | exact U | exact U.alloc _ | exact U.drewN _ | exact U.drew⟩
end Go.Proofs.YtlogglhonlannaaGreatDoor
