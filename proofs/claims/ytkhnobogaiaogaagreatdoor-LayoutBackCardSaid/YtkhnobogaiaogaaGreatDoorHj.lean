/-
  LayoutBack: its walk.
-/
import Derived.Test.YtkhnobogaiaogaaGreatDoorHi
namespace Go.Proofs.YtkhnobogaiaogaaGreatDoor
open Go.RowKit Go.Shelf
set_option linter.unusedVariables false
set_option linter.unusedSimpArgs false

theorem M.ly_nil {ng : Bool} {a : Nat} {k : Int} (h : M.rtn a k) : M.ly ng a k ≠ [] := M.ly_none (i := 0) h.lok rfl
/-- What Unlay tells of an empty text. -/
theorem M.Ulr.nil {ng : Bool} {a : Nat} {k er : Int} (h : M.Ulr [] ng a k er) : er = 2 ∧ ng = false ∧ a = 0 ∧ k = 0 := h.none fun _ _ _ h => M.ly_nil h

set_option maxHeartbeats 8000000 in
set_option maxRecDepth 100000 in
theorem lback_walk (w : World) (TW0 : TabW w) (EW0 : ErrB w) (F0 : Lay) (ng : Bool) (A : Option Addr) (n c : Nat) (xs : List Nat) (D : Dr w A n c xs) (k : Int) (hk : -9223372036854775808 ≤ k ∧ k ≤ 9223372036854775807) (s : ByteArray) (_ws : s.size ≤ maxLen) :
    Calls Tryz.prog 4 #[dv ng (.slice A n c) k, .string s] w (True12 w) := by
  obtain ⟨j, hj, hj1, hj2⟩ : ∃ j : Nat, min (s.size : Int) 300 = (j : Int) ∧ j ≤ s.size ∧ j ≤ 300 := ⟨min s.size 300, by omega, by omega, by omega⟩
  obtain ⟨T, hT⟩ : ∃ T, s.extract 0 j = T := ⟨_, rfl⟩
  obtain ⟨tl, htl⟩ : ∃ tl, T.data.toList = tl := ⟨_, rfl⟩
  have HT : Hid (Tx T tl) := htl
  have HTl : Hid (tl.length ≤ 300) := by
    show _ ≤ _
    rw [← HT.out.size, ← hT, ByteArray.size_extract]
    omega
  obtain ⟨r, hr⟩ : ∃ r, decide (M.rt xs k) = r := ⟨_, rfl⟩
  have F := Lib.hid F0
  have TW := Lib.hid TW0
  have EW := Lib.hid EW0
  have U := (Up.refl w).alloc (.cells #[.bool ng, .slice A n c, .int .i64 k] 25)
  have CS := Lib.hid (shown12_any F0 _ (TW0.up U) (EW0.up U))
  have C1 : Hid (∀ W, Up w W → Calls Tryz.prog 10 #[dv ng (.slice A n c) k] W (Boo r W)) := fun W u => F0.right W ng A n c xs k r (TW0.up u) (EW0.up u) (D.up u) hk (Lib.hid hr)
  have BX := Ob.mk_ w 25 #[.bool ng, .slice A n c, .int .i64 k]
  clear htl
  rcases r with _ | _
  · have hr2 : ¬ M.rt xs k := of_decide_eq_false hr
    have C3 : Hid (∀ W, Up w W → Calls Tryz.prog 12 #[dv ng (.slice A n c) k] W (Str ⟨#[]⟩ W)) := fun W u => F0.text W (TW0.up u) (EW0.up u) ng A n c xs k (D.up u) hk ⟨#[]⟩ (by rw [M.lyr, if_neg hr2]; exact Tx.lit [])
    have CU : Hid (∀ W, Up w W → Calls Tryz.prog 14 #[.string ⟨#[]⟩] W (Uly [] W)) := fun W u => F0.unlay W ⟨#[]⟩ [] (TW0.up u) (EW0.up u) (Lib.hid (Tx.lit [])) (by simp)
    clear hr D hk F0 TW0 EW0 hr2
    go_enter Tryz.func4, Tryz.ntmps4
    go_wp2_with fail
    refine CS.out.mono ?_
    rintro _ w1 ⟨rfl, u1⟩
    replace BX := BX.up u1
    replace U := U.trans u1
    clear u1 CS
    have b0 := BX.get 0
    have b1 := BX.get 1
    have b2 := BX.get 2
    simp only [List.getElem?_toArray, List.getElem?_cons_zero, List.getElem?_cons_succ] at b0 b1 b2
    go_wp2_with fail
    refine (C3.out _ U).mono ?_
    rintro _ w2 ⟨rfl, u2⟩
    replace BX := BX.up u2
    replace U := U.trans u2
    clear u2 C3 b0 b1 b2
    go_wp2_with fail
    refine (CU.out _ U).mono ?_
    rintro _ w3 ⟨ngx, Ax, nx, cx, ax, kx, ex, rfl, Rx, Nx, u3⟩
    obtain ⟨rfl, rfl, rfl, rfl⟩ := Rx.nil
    replace BX := BX.up u3
    replace U := U.trans u3
    clear u3 CU Rx Nx
    go_upto_region 5 with fail
    obtain ⟨V3, hV3⟩ : ∃ V, w3.alloc (.cells #[.bool false, .slice Ax nx cx, .int .i64 0] 25) = V := ⟨_, rfl⟩
    have uV : Up w3 V3 := by rw [← hV3]; exact (Up.refl _).alloc _
    rw [hV3]
    clear hV3
    replace U := U.trans uV
    replace BX := BX.up uV
    clear uV
    have b0 := BX.get 0
    have b1 := BX.get 1
    have b2 := BX.get 2
    simp only [List.getElem?_toArray, List.getElem?_cons_zero, List.getElem?_cons_succ] at b0 b1 b2
    go_wp2_with fail
    refine (C1.out _ U).mono ?_
    rintro _ w4 ⟨rfl, u4⟩
    replace BX := BX.up u4
    replace U := U.trans u4
    clear u4 b0 b1 b2
    have b0 := BX.get 0
    have b1 := BX.get 1
    have b2 := BX.get 2
    simp only [List.getElem?_toArray, List.getElem?_cons_zero, List.getElem?_cons_succ] at b0 b1 b2
    go_wp2_with fail
    refine (C1.out _ U).mono ?_
    rintro _ w5 ⟨rfl, u5⟩
    replace U := U.trans u5
    clear u5 b0 b1 b2 BX C1
    have CU2 := Lib.hid (F.out.unlay _ T tl (TW.out.up U) (EW.out.up U) HT (by have := HTl.out; omega))
    go_wp2_with fail
    refine CU2.out.mono ?_
    rintro _ z1 ⟨ngy, Ay, ny, cy, ay, ky, ey, rfl, Ry, Ny, uy⟩
    replace U := U.trans uy
    clear uy CU2
    rcases Ry with ⟨rfl, R1, R2⟩ | ⟨rfl, rfl, rfl, rfl, _⟩
    · obtain ⟨_, _, _, zs, ez, g1, g2, g3, g4⟩ := id Ny
      cases ez
      have HLY := Lib.hid (show M.lyr ngy zs ky = tl by rw [M.lyr_nrm g4, g2, M.lyn, if_pos R1]; exact R2)
      have HRT := Lib.hid (show decide (M.rt zs ky) = true from decide_eq_true ⟨g4, by rw [g2]; exact R1⟩)
      have HKY := Lib.hid (show -9223372036854775808 ≤ ky ∧ ky ≤ 9223372036854775807 by rcases R1 with h | h <;> omega)
      clear R1 R2 Ny g2 g4
      go_upto_region 8 with fail
      have BY := Ob.mk_ z1 25 #[.bool ngy, .slice Ay ny cy, .int .i64 ky]
      obtain ⟨V, hV⟩ : ∃ V, z1.alloc (.cells #[.bool ngy, .slice Ay ny cy, .int .i64 ky] 25) = V := ⟨_, rfl⟩
      have uV : Up z1 V := by rw [← hV]; exact (Up.refl _).alloc _
      rw [hV] at BY ⊢
      clear hV
      replace U := U.trans uV
      replace g1 := g1.up uV
      clear uV
      have y0 := BY.get 0
      have y1 := BY.get 1
      have y2 := BY.get 2
      simp only [List.getElem?_toArray, List.getElem?_cons_zero, List.getElem?_cons_succ] at y0 y1 y2
      have CR := Lib.hid (F.out.right V ngy Ay ny cy zs ky true (TW.out.up U) (EW.out.up U) (g1.dr (by omega)) HKY.out HRT.out)
      go_wp2_with fail
      refine CR.out.mono ?_
      rintro _ z2 ⟨rfl, u2⟩
      replace U := U.trans u2
      replace g1 := g1.up u2
      replace BY := BY.up u2
      clear u2 CR y0 y1 y2
      have y0 := BY.get 0
      have y1 := BY.get 1
      have y2 := BY.get 2
      simp only [List.getElem?_toArray, List.getElem?_cons_zero, List.getElem?_cons_succ] at y0 y1 y2
      have CL := Lib.hid (F.out.text z2 (TW.out.up U) (EW.out.up U) ngy Ay ny cy zs ky (g1.dr (by omega)) HKY.out T (by rw [HLY.out]; exact HT.out))
      clear g1 BY
      go_wp2_with fail
      refine CL.out.mono ?_
      rintro _ z3 ⟨rfl, u3⟩
      go_wp2_with fail
      go_ret
      exact ⟨rfl, U.trans u3⟩
    · go_upto_region 8 with fail
      have BY := Ob.mk_ z1 25 #[.bool false, .slice Ay ny cy, .int .i64 0]
      obtain ⟨V, hV⟩ : ∃ V, z1.alloc (.cells #[.bool false, .slice Ay ny cy, .int .i64 0] 25) = V := ⟨_, rfl⟩
      have uV : Up z1 V := by rw [← hV]; exact (Up.refl _).alloc _
      rw [hV] at BY ⊢
      clear hV
      replace U := U.trans uV
      replace Ny := Ny.up uV
      clear uV
      have y0 := BY.get 0
      have y1 := BY.get 1
      have y2 := BY.get 2
      simp only [List.getElem?_toArray, List.getElem?_cons_zero, List.getElem?_cons_succ] at y0 y1 y2
      have CM := Lib.hid (same12_any V _ 0 _ 1 false false _ _ 0 0 0 0 Ny.nw (Nt.nil V 0 1).nw true (Lib.hid (by simp)))
      clear Ny BY
      go_wp2_with fail
      refine CM.out.mono ?_
      rintro _ z3 ⟨rfl, u3⟩
      go_wp2_with fail
      go_ret
      exact ⟨rfl, U.trans u3⟩
  · have hr2 : M.rt xs k := of_decide_eq_true hr
    have hn : n ≤ 128 := by have := M.rt_len hr2; rw [D.num] at this; exact this
    have e1 : M.lyr ng xs k = M.ly ng (M.val xs) k := by rw [M.lyr, if_pos hr2]
    obtain ⟨SA, hSA⟩ := tx_ex (M.ly ng (M.val xs) k)
    have hll := M.ly_len (ng := ng) hr2.2
    have hnil := M.ly_nil (ng := ng) hr2.2
    have hSz : 0 < SA.size := by rw [hSA.size]; exact List.length_pos_iff.2 hnil
    have hS2 : SA.size ≤ 2100 := by rw [hSA.size]; exact hll
    have HOF := Lib.hid (fun ng' a' k' e' (h : M.Ulr (M.ly ng (M.val xs) k) ng' a' k' e') => h.of hr2.2 rfl)
    have C3 : Hid (∀ W, Up w W → Calls Tryz.prog 12 #[dv ng (.slice A n c) k] W (Str SA W)) := fun W u => F0.text W (TW0.up u) (EW0.up u) ng A n c xs k (D.up u) hk SA (by rw [e1]; exact hSA)
    have CU : Hid (∀ W, Up w W → Calls Tryz.prog 14 #[.string SA] W (Uly (M.ly ng (M.val xs) k) W)) := fun W u => F0.unlay W SA _ (TW0.up u) (EW0.up u) (Lib.hid hSA) (by omega)
    have CM : Hid (∀ W A' n' c', Up w W → Nt W 0 128 (.slice A' n' c') (M.val xs) → Calls Tryz.prog 15 #[dv ng (.slice A' n' c') k, dv ng (.slice A n c) k] W (Boo true W)) := fun W A' n' c' u N => same12_any W 0 0 128 128 ng ng _ _ k k _ _ N.nw ((D.up u).nw hn) true (Lib.hid (by simp))
    obtain ⟨a, ha⟩ : ∃ a, M.val xs = a := ⟨_, rfl⟩
    rw [ha] at HOF CU CM
    have HSA := Lib.hid hSA
    clear hr D hk F0 TW0 EW0 hr2 hn e1 hSA hll hnil ha
    go_enter Tryz.func4, Tryz.ntmps4
    go_wp2_with fail
    refine CS.out.mono ?_
    rintro _ w1 ⟨rfl, u1⟩
    replace BX := BX.up u1
    replace U := U.trans u1
    clear u1 CS
    have b0 := BX.get 0
    have b1 := BX.get 1
    have b2 := BX.get 2
    simp only [List.getElem?_toArray, List.getElem?_cons_zero, List.getElem?_cons_succ] at b0 b1 b2
    go_wp2_with fail
    refine (C3.out _ U).mono ?_
    rintro _ w2 ⟨rfl, u2⟩
    replace BX := BX.up u2
    replace U := U.trans u2
    clear u2 C3 b0 b1 b2
    go_wp2_with fail
    refine (CU.out _ U).mono ?_
    rintro _ w3 ⟨ngx, Ax, nx, cx, ax, kx, ex, rfl, Rx, Nx, u3⟩
    obtain ⟨e1, e2, e3, e4⟩ := HOF.out _ _ _ _ Rx
    replace e1 := e1.symm
    replace e2 := e2.symm
    replace e3 := e3.symm
    replace e4 := e4.symm
    subst e1 e2 e3 e4
    replace BX := BX.up u3
    replace U := U.trans u3
    clear u3 CU Rx HOF
    go_upto_region 5 with fail
    have BZ := Ob.mk_ w3 25 #[.bool ng, .slice Ax nx cx, .int .i64 k]
    obtain ⟨V3, hV3⟩ : ∃ V, w3.alloc (.cells #[.bool ng, .slice Ax nx cx, .int .i64 k] 25) = V := ⟨_, rfl⟩
    have uV : Up w3 V3 := by rw [← hV3]; exact (Up.refl _).alloc _
    rw [hV3] at BZ ⊢
    clear hV3
    replace U := U.trans uV
    replace BX := BX.up uV
    replace Nx := Nx.up uV
    clear uV
    have b0 := BX.get 0
    have b1 := BX.get 1
    have b2 := BX.get 2
    simp only [List.getElem?_toArray, List.getElem?_cons_zero, List.getElem?_cons_succ] at b0 b1 b2
    go_wp2_with fail
    refine (C1.out _ U).mono ?_
    rintro _ w4 ⟨rfl, u4⟩
    replace BX := BX.up u4
    replace BZ := BZ.up u4
    replace Nx := Nx.up u4
    replace U := U.trans u4
    clear u4 b0 b1 b2
    have b0 := BX.get 0
    have b1 := BX.get 1
    have b2 := BX.get 2
    simp only [List.getElem?_toArray, List.getElem?_cons_zero, List.getElem?_cons_succ] at b0 b1 b2
    have y0 := BZ.get 0
    have y1 := BZ.get 1
    have y2 := BZ.get 2
    simp only [List.getElem?_toArray, List.getElem?_cons_zero, List.getElem?_cons_succ] at y0 y1 y2
    have CM2 := Lib.hid (CM.out w4 Ax nx cx U Nx)
    clear CM Nx
    have dz : ((SA.size : Int) == 0) = false := by rw [beq_eq_false_iff_ne]; omega
    go_wp2_with fail
    refine CM2.out.mono ?_
    rintro _ w5 ⟨rfl, u5⟩
    replace BX := BX.up u5
    replace U := U.trans u5
    clear u5 b0 b1 b2 y0 y1 y2 BZ CM2
    have b0 := BX.get 0
    have b1 := BX.get 1
    have b2 := BX.get 2
    simp only [List.getElem?_toArray, List.getElem?_cons_zero, List.getElem?_cons_succ] at b0 b1 b2
    go_wp2_with fail
    refine (C1.out _ U).mono ?_
    rintro _ w6 ⟨rfl, u6⟩
    replace U := U.trans u6
    clear u6 b0 b1 b2 BX C1
    have CU2 := Lib.hid (F.out.unlay _ T tl (TW.out.up U) (EW.out.up U) HT (by have := HTl.out; omega))
    go_wp2_with fail
    refine CU2.out.mono ?_
    rintro _ z1 ⟨ngy, Ay, ny, cy, ay, ky, ey, rfl, Ry, Ny, uy⟩
    replace U := U.trans uy
    clear uy CU2
    rcases Ry with ⟨rfl, R1, R2⟩ | ⟨rfl, rfl, rfl, rfl, _⟩
    · obtain ⟨_, _, _, zs, ez, g1, g2, g3, g4⟩ := id Ny
      cases ez
      have HLY := Lib.hid (show M.lyr ngy zs ky = tl by rw [M.lyr_nrm g4, g2, M.lyn, if_pos R1]; exact R2)
      have HRT := Lib.hid (show decide (M.rt zs ky) = true from decide_eq_true ⟨g4, by rw [g2]; exact R1⟩)
      have HKY := Lib.hid (show -9223372036854775808 ≤ ky ∧ ky ≤ 9223372036854775807 by rcases R1 with h | h <;> omega)
      clear R1 R2 Ny g2 g4
      go_upto_region 8 with fail
      have BY := Ob.mk_ z1 25 #[.bool ngy, .slice Ay ny cy, .int .i64 ky]
      obtain ⟨V, hV⟩ : ∃ V, z1.alloc (.cells #[.bool ngy, .slice Ay ny cy, .int .i64 ky] 25) = V := ⟨_, rfl⟩
      have uV : Up z1 V := by rw [← hV]; exact (Up.refl _).alloc _
      rw [hV] at BY ⊢
      clear hV
      replace U := U.trans uV
      replace g1 := g1.up uV
      clear uV
      have y0 := BY.get 0
      have y1 := BY.get 1
      have y2 := BY.get 2
      simp only [List.getElem?_toArray, List.getElem?_cons_zero, List.getElem?_cons_succ] at y0 y1 y2
      have CR := Lib.hid (F.out.right V ngy Ay ny cy zs ky true (TW.out.up U) (EW.out.up U) (g1.dr (by omega)) HKY.out HRT.out)
      go_wp2_with fail
      refine CR.out.mono ?_
      rintro _ z2 ⟨rfl, u2⟩
      replace U := U.trans u2
      replace g1 := g1.up u2
      replace BY := BY.up u2
      clear u2 CR y0 y1 y2
      have y0 := BY.get 0
      have y1 := BY.get 1
      have y2 := BY.get 2
      simp only [List.getElem?_toArray, List.getElem?_cons_zero, List.getElem?_cons_succ] at y0 y1 y2
      have CL := Lib.hid (F.out.text z2 (TW.out.up U) (EW.out.up U) ngy Ay ny cy zs ky (g1.dr (by omega)) HKY.out T (by rw [HLY.out]; exact HT.out))
      clear g1 BY
      go_wp2_with fail
      refine CL.out.mono ?_
      rintro _ z3 ⟨rfl, u3⟩
      go_wp2_with fail
      go_ret
      exact ⟨rfl, U.trans u3⟩
    · go_upto_region 8 with fail
      have BY := Ob.mk_ z1 25 #[.bool false, .slice Ay ny cy, .int .i64 0]
      obtain ⟨V, hV⟩ : ∃ V, z1.alloc (.cells #[.bool false, .slice Ay ny cy, .int .i64 0] 25) = V := ⟨_, rfl⟩
      have uV : Up z1 V := by rw [← hV]; exact (Up.refl _).alloc _
      rw [hV] at BY ⊢
      clear hV
      replace U := U.trans uV
      replace Ny := Ny.up uV
      clear uV
      have y0 := BY.get 0
      have y1 := BY.get 1
      have y2 := BY.get 2
      simp only [List.getElem?_toArray, List.getElem?_cons_zero, List.getElem?_cons_succ] at y0 y1 y2
      have CM := Lib.hid (same12_any V _ 0 _ 1 false false _ _ 0 0 0 0 Ny.nw (Nt.nil V 0 1).nw true (Lib.hid (by simp)))
      clear Ny BY
      go_wp2_with fail
      refine CM.out.mono ?_
      rintro _ z3 ⟨rfl, u3⟩
      go_wp2_with fail
      go_ret
      exact ⟨rfl, U.trans u3⟩
end Go.Proofs.YtkhnobogaiaogaaGreatDoor
