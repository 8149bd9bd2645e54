/-
  RoundHas.
-/
import Derived.Test.YtlogglhonlannaaDoorLb
namespace Go.Proofs.YtlogglhonlannaaDoor
open Go.RowKit
set_option linter.unusedSimpArgs false
set_option linter.unusedVariables false

set_option maxHeartbeats 1000000 in
set_option maxRecDepth 100000 in
theorem rhas_walk (w : World) (TT : Hid (Tz w)) (TF : Hid (TabF w)) (x0 : Int) (_wx0 : (Lit.int .i64 x0).wf = true) (x1 : Bool) (x2 : Int) (wx2 : (Lit.int .u64 x2).wf = true) : Calls Tryd.prog 3 #[.int .i64 x0, .bool x1, .int .u64 x2] w (True8 w) := by
  obtain ⟨p, rfl, hp⟩ := wf_u64 wx2
  clear wx2
  obtain ⟨c, gg, m, z, x, h⟩ := M.dc_ex x0 p
  have CD := Lib.hid (fun W (T : Tz W) (F : TabF W) => vdecode_any W (Lib.hid T) (Lib.hid F) x0 p hp c gg m z x h)
  have hx : (x ≠ 0) ∨ (x = 0 ∧ ∃ i : Nat, x0 = i ∧ 1 ≤ i ∧ i ≤ 14 ∧ (p : Int) ≤ M.msk (M.tb i) ∧ M.Dv (M.tb i) p c gg m z) := by
    rcases h with ⟨h, rfl, rfl, rfl, rfl, rfl⟩ | ⟨i, rfl, a, b, ⟨h, rfl, rfl, rfl, rfl, rfl⟩ | ⟨h1, h, rfl⟩⟩
    · exact .inl (by decide)
    · exact .inl (by decide)
    · exact .inr ⟨rfl, i, rfl, a, b, h1, h⟩
  clear h
  rcases hx with hx | ⟨rfl, i, rfl, a, b, h1, h⟩
  ·
    have d1 : (x != 0) = true := by simpa using hx
    clear hx
    cases x1
    ·
      have U := Up.refl w
      go_enter Tryd.func3, Tryd.ntmps3
      go_wp2_with fail
      refine (shown8_any _ (Lib.hid (TT.out.up U)) (Lib.hid (TF.out.up U))).mono ?_
      rintro _ w1 ⟨rfl, h1⟩
      replace U := U.trans h1
      clear h1
      go_wp2_with fail
      refine (CD.out _ (TT.out.up U) (TF.out.up U)).mono ?_
      rintro _ w2 ⟨rfl, h2⟩
      replace U := U.trans h2
      clear h2
      go_wp2_with fail
      obtain ⟨V3, hV3⟩ : ∃ V3, w2.alloc (.cells #[.int .i64 c, .bool gg, .int .u64 (m : Int), .int .i64 z] 25) = V3 := ⟨_, rfl⟩
      have Y : Ob V3 w2.heap.size 25 #[.int .i64 c, .bool gg, .int .u64 (m : Int), .int .i64 z] := by rw [← hV3]; exact Ob.mk_ _ _ _
      have uV3 : Up w2 V3 := by rw [← hV3]; exact (Up.refl _).alloc _
      have ltY : w.heap.size ≤ w2.heap.size := U.size
      rw [hV3]
      clear hV3
      replace U := U.trans uV3
      clear uV3
      have Y0 := Y.get 0
      have Y1 := Y.get 1
      have Y2 := Y.get 2
      have Y3 := Y.get 3
      have Yf0 := Y.fr 0
      have Yf1 := Y.fr 1
      have Yf2 := Y.fr 2
      have Yf3 := Y.fr 3
      have Yl := Y.lt
      simp only [List.getElem?_toArray, List.getElem?_cons_zero, List.getElem?_cons_succ] at Y0 Y1 Y2 Y3
      go_wp2_with fail
      go_ret
      exact ⟨by first | rfl | simp, by first | exact U | exact U.drewN _ | exact U.drew⟩
    ·
      have U := Up.refl w
      go_enter Tryd.func3, Tryd.ntmps3
      go_wp2_with fail
      refine (shown8_any _ (Lib.hid (TT.out.up U)) (Lib.hid (TF.out.up U))).mono ?_
      rintro _ w1 ⟨rfl, h1⟩
      replace U := U.trans h1
      clear h1
      go_wp2_with fail
      refine (CD.out _ (TT.out.up U) (TF.out.up U)).mono ?_
      rintro _ w2 ⟨rfl, h2⟩
      replace U := U.trans h2
      clear h2
      go_wp2_with fail
      obtain ⟨V3, hV3⟩ : ∃ V3, w2.alloc (.cells #[.int .i64 c, .bool gg, .int .u64 (m : Int), .int .i64 z] 25) = V3 := ⟨_, rfl⟩
      have Y : Ob V3 w2.heap.size 25 #[.int .i64 c, .bool gg, .int .u64 (m : Int), .int .i64 z] := by rw [← hV3]; exact Ob.mk_ _ _ _
      have uV3 : Up w2 V3 := by rw [← hV3]; exact (Up.refl _).alloc _
      have ltY : w.heap.size ≤ w2.heap.size := U.size
      rw [hV3]
      clear hV3
      replace U := U.trans uV3
      clear uV3
      have Y0 := Y.get 0
      have Y1 := Y.get 1
      have Y2 := Y.get 2
      have Y3 := Y.get 3
      have Yf0 := Y.fr 0
      have Yf1 := Y.fr 1
      have Yf2 := Y.fr 2
      have Yf3 := Y.fr 3
      have Yl := Y.lt
      simp only [List.getElem?_toArray, List.getElem?_cons_zero, List.getElem?_cons_succ] at Y0 Y1 Y2 Y3
      go_wp2_with fail
      go_ret
      exact ⟨by first | rfl | simp, by first | exact U | exact U.drewN _ | exact U.drew⟩
  ·
    by_cases hc : c = 1 ∨ c = 2
    ·
      obtain ⟨RV, mb, zb⟩ : (∀ mode, M.Rv (M.tb i) mode gg (M.sz m z 0) p) ∧ m < 18446744073709551616 ∧ (-3000 ≤ z ∧ z ≤ 3000) := by
        have h2 := fun mode => M.has_rv (M.ok i a b) (M.ok2 i a b) (M.ok3 i a b) h1 h hc mode
        exact ⟨fun mode => (h2 mode).1, (h2 0).2⟩
      have CR := Lib.hid (fun W (T : Tz W) (F : TabF W) (mode : Int) (hm : mode = 1 ∨ mode = 2) (lo : Nat) (v : Value) (N : Nt W lo 1 v m) => rnd_round W (Lib.hid T) (Lib.hid F) (i : Int) mode lo 1 gg v z 0 m N (by decide) (by omega) (by decide) (lt_w128 mb) p 0 (.inr ⟨i, rfl, a, b, .inr ⟨hm, RV mode, rfl⟩⟩))
      have c1 : c = 1 → m = 0 ∧ z = 0 := fun e => by
        rcases h with ⟨_, e2, _⟩ | ⟨_, e2, _⟩ | ⟨_, _, _, e2⟩ | ⟨_, e2, _⟩
        · omega
        · omega
        · exact e2
        · omega
      clear RV h h1
      rcases hc with rfl | rfl
      ·
        obtain ⟨rfl, rfl⟩ := c1 rfl
        have CO := Lib.hid (fun W => show Calls Tryd.prog 11 #[.agg #[.int .i64 1, .bool gg, .int .u64 0, .int .i64 0]] W (Xo gg 0 0 0 0 true W) from xof_zero W gg 0 0)
        clear c1 mb zb
        cases x1
        ·
          have U := Up.refl w
          go_enter Tryd.func3, Tryd.ntmps3
          go_wp2_with fail
          refine (shown8_any _ (Lib.hid (TT.out.up U)) (Lib.hid (TF.out.up U))).mono ?_
          rintro _ w1 ⟨rfl, h1⟩
          replace U := U.trans h1
          clear h1
          go_wp2_with fail
          refine (CD.out _ (TT.out.up U) (TF.out.up U)).mono ?_
          rintro _ w2 ⟨rfl, h2⟩
          replace U := U.trans h2
          clear h2
          go_wp2_with fail
          obtain ⟨V3, hV3⟩ : ∃ V3, w2.alloc (.cells #[.int .i64 1, .bool gg, .int .u64 0, .int .i64 0] 25) = V3 := ⟨_, rfl⟩
          have Y : Ob V3 w2.heap.size 25 #[.int .i64 1, .bool gg, .int .u64 0, .int .i64 0] := by rw [← hV3]; exact Ob.mk_ _ _ _
          have uV3 : Up w2 V3 := by rw [← hV3]; exact (Up.refl _).alloc _
          have ltY : w.heap.size ≤ w2.heap.size := U.size
          rw [hV3]
          clear hV3
          replace U := U.trans uV3
          clear uV3
          have Y0 := Y.get 0
          have Y1 := Y.get 1
          have Y2 := Y.get 2
          have Y3 := Y.get 3
          have Yf0 := Y.fr 0
          have Yf1 := Y.fr 1
          have Yf2 := Y.fr 2
          have Yf3 := Y.fr 3
          have Yl := Y.lt
          simp only [List.getElem?_toArray, List.getElem?_cons_zero, List.getElem?_cons_succ] at Y0 Y1 Y2 Y3
          go_wp2_with fail
          refine (CO.out _).mono ?_
          rintro _ w4 ⟨_, rfl, ⟨A1, n1, k1, ys1, rfl, N⟩, h4⟩
          replace U := U.trans h4
          replace Y := Y.up h4
          clear h4
          replace N : Nt w4 _ 1 (.slice A1 n1 k1) 0 := (show Nt _ _ 0 _ 0 from ⟨_, _, _, _, rfl, N⟩).more (by decide)
          go_wp2_with (refine store_ob rfl 32 (.tmp 11) (.tmp 39) rfl _ #[.bool false, .slice none 0 0, .int .i64 0, .int .i64 0] #[.bool gg, .slice A1 n1 k1, .int .i64 0, .int .i64 0] rfl rfl 4 (by kernel_rfl) rfl rfl (by simp [Value.oneCell']) w4 ((Up.refl _).alloc _) (Nat.le_refl _) 32 (Ob.mk_ _ _ _) ?_; intro V5 E uV5; have ltE : w.heap.size ≤ w4.heap.size := U.size; replace U := U.trans uV5; replace Y := Y.up uV5; replace N := N.up uV5; clear uV5; have E0 := E.get 0; have E1 := E.get 1; have E2 := E.get 2; have E3 := E.get 3; simp only [List.getElem?_toArray, List.getElem?_cons_zero, List.getElem?_cons_succ] at E0 E1 E2 E3)
          refine (CR.out _ (TT.out.up U) (TF.out.up U) 1 (by decide) _ _ N).mono ?_
          rintro _ w6 ⟨rfl, h6⟩
          replace U := U.trans h6
          replace Y := Y.up h6
          replace E := E.up h6
          replace N := N.up h6
          clear h6
          go_wp2_with fail
          go_ret
          exact ⟨by first | rfl | simp, by first | exact U | exact U.drewN _ | exact U.drew⟩
        ·
          have U := Up.refl w
          go_enter Tryd.func3, Tryd.ntmps3
          go_wp2_with fail
          refine (shown8_any _ (Lib.hid (TT.out.up U)) (Lib.hid (TF.out.up U))).mono ?_
          rintro _ w1 ⟨rfl, h1⟩
          replace U := U.trans h1
          clear h1
          go_wp2_with fail
          refine (CD.out _ (TT.out.up U) (TF.out.up U)).mono ?_
          rintro _ w2 ⟨rfl, h2⟩
          replace U := U.trans h2
          clear h2
          go_wp2_with fail
          obtain ⟨V3, hV3⟩ : ∃ V3, w2.alloc (.cells #[.int .i64 1, .bool gg, .int .u64 0, .int .i64 0] 25) = V3 := ⟨_, rfl⟩
          have Y : Ob V3 w2.heap.size 25 #[.int .i64 1, .bool gg, .int .u64 0, .int .i64 0] := by rw [← hV3]; exact Ob.mk_ _ _ _
          have uV3 : Up w2 V3 := by rw [← hV3]; exact (Up.refl _).alloc _
          have ltY : w.heap.size ≤ w2.heap.size := U.size
          rw [hV3]
          clear hV3
          replace U := U.trans uV3
          clear uV3
          have Y0 := Y.get 0
          have Y1 := Y.get 1
          have Y2 := Y.get 2
          have Y3 := Y.get 3
          have Yf0 := Y.fr 0
          have Yf1 := Y.fr 1
          have Yf2 := Y.fr 2
          have Yf3 := Y.fr 3
          have Yl := Y.lt
          simp only [List.getElem?_toArray, List.getElem?_cons_zero, List.getElem?_cons_succ] at Y0 Y1 Y2 Y3
          go_wp2_with fail
          refine (CO.out _).mono ?_
          rintro _ w4 ⟨_, rfl, ⟨A1, n1, k1, ys1, rfl, N⟩, h4⟩
          replace U := U.trans h4
          replace Y := Y.up h4
          clear h4
          replace N : Nt w4 _ 1 (.slice A1 n1 k1) 0 := (show Nt _ _ 0 _ 0 from ⟨_, _, _, _, rfl, N⟩).more (by decide)
          go_wp2_with (refine store_ob rfl 32 (.tmp 11) (.tmp 39) rfl _ #[.bool false, .slice none 0 0, .int .i64 0, .int .i64 0] #[.bool gg, .slice A1 n1 k1, .int .i64 0, .int .i64 0] rfl rfl 4 (by kernel_rfl) rfl rfl (by simp [Value.oneCell']) w4 ((Up.refl _).alloc _) (Nat.le_refl _) 32 (Ob.mk_ _ _ _) ?_; intro V5 E uV5; have ltE : w.heap.size ≤ w4.heap.size := U.size; replace U := U.trans uV5; replace Y := Y.up uV5; replace N := N.up uV5; clear uV5; have E0 := E.get 0; have E1 := E.get 1; have E2 := E.get 2; have E3 := E.get 3; simp only [List.getElem?_toArray, List.getElem?_cons_zero, List.getElem?_cons_succ] at E0 E1 E2 E3)
          refine (CR.out _ (TT.out.up U) (TF.out.up U) 2 (by decide) _ _ N).mono ?_
          rintro _ w6 ⟨rfl, h6⟩
          replace U := U.trans h6
          replace Y := Y.up h6
          replace E := E.up h6
          replace N := N.up h6
          clear h6
          go_wp2_with fail
          go_ret
          exact ⟨by first | rfl | simp, by first | exact U | exact U.drewN _ | exact U.drew⟩
      ·
        have CO := Lib.hid (fun W => xof_fin W gg m z mb (M.pw_of zb))
        clear c1 mb zb
        cases x1
        ·
          have U := Up.refl w
          go_enter Tryd.func3, Tryd.ntmps3
          go_wp2_with fail
          refine (shown8_any _ (Lib.hid (TT.out.up U)) (Lib.hid (TF.out.up U))).mono ?_
          rintro _ w1 ⟨rfl, h1⟩
          replace U := U.trans h1
          clear h1
          go_wp2_with fail
          refine (CD.out _ (TT.out.up U) (TF.out.up U)).mono ?_
          rintro _ w2 ⟨rfl, h2⟩
          replace U := U.trans h2
          clear h2
          go_wp2_with fail
          obtain ⟨V3, hV3⟩ : ∃ V3, w2.alloc (.cells #[.int .i64 2, .bool gg, .int .u64 (m : Int), .int .i64 z] 25) = V3 := ⟨_, rfl⟩
          have Y : Ob V3 w2.heap.size 25 #[.int .i64 2, .bool gg, .int .u64 (m : Int), .int .i64 z] := by rw [← hV3]; exact Ob.mk_ _ _ _
          have uV3 : Up w2 V3 := by rw [← hV3]; exact (Up.refl _).alloc _
          have ltY : w.heap.size ≤ w2.heap.size := U.size
          rw [hV3]
          clear hV3
          replace U := U.trans uV3
          clear uV3
          have Y0 := Y.get 0
          have Y1 := Y.get 1
          have Y2 := Y.get 2
          have Y3 := Y.get 3
          have Yf0 := Y.fr 0
          have Yf1 := Y.fr 1
          have Yf2 := Y.fr 2
          have Yf3 := Y.fr 3
          have Yl := Y.lt
          simp only [List.getElem?_toArray, List.getElem?_cons_zero, List.getElem?_cons_succ] at Y0 Y1 Y2 Y3
          go_wp2_with fail
          refine (CO.out _).mono ?_
          rintro _ w4 ⟨_, rfl, ⟨A1, n1, k1, ys1, rfl, N⟩, h4⟩
          replace U := U.trans h4
          replace Y := Y.up h4
          clear h4
          replace N : Nt w4 _ 1 (.slice A1 n1 k1) m := ⟨_, _, _, _, rfl, N⟩
          go_wp2_with (refine store_ob rfl 32 (.tmp 11) (.tmp 39) rfl _ #[.bool false, .slice none 0 0, .int .i64 0, .int .i64 0] #[.bool gg, .slice A1 n1 k1, .int .i64 z, .int .i64 0] rfl rfl 4 (by kernel_rfl) rfl rfl (by simp [Value.oneCell']) w4 ((Up.refl _).alloc _) (Nat.le_refl _) 32 (Ob.mk_ _ _ _) ?_; intro V5 E uV5; have ltE : w.heap.size ≤ w4.heap.size := U.size; replace U := U.trans uV5; replace Y := Y.up uV5; replace N := N.up uV5; clear uV5; have E0 := E.get 0; have E1 := E.get 1; have E2 := E.get 2; have E3 := E.get 3; simp only [List.getElem?_toArray, List.getElem?_cons_zero, List.getElem?_cons_succ] at E0 E1 E2 E3)
          refine (CR.out _ (TT.out.up U) (TF.out.up U) 1 (by decide) _ _ N).mono ?_
          rintro _ w6 ⟨rfl, h6⟩
          replace U := U.trans h6
          replace Y := Y.up h6
          replace E := E.up h6
          replace N := N.up h6
          clear h6
          go_wp2_with fail
          go_ret
          exact ⟨by first | rfl | simp, by first | exact U | exact U.drewN _ | exact U.drew⟩
        ·
          have U := Up.refl w
          go_enter Tryd.func3, Tryd.ntmps3
          go_wp2_with fail
          refine (shown8_any _ (Lib.hid (TT.out.up U)) (Lib.hid (TF.out.up U))).mono ?_
          rintro _ w1 ⟨rfl, h1⟩
          replace U := U.trans h1
          clear h1
          go_wp2_with fail
          refine (CD.out _ (TT.out.up U) (TF.out.up U)).mono ?_
          rintro _ w2 ⟨rfl, h2⟩
          replace U := U.trans h2
          clear h2
          go_wp2_with fail
          obtain ⟨V3, hV3⟩ : ∃ V3, w2.alloc (.cells #[.int .i64 2, .bool gg, .int .u64 (m : Int), .int .i64 z] 25) = V3 := ⟨_, rfl⟩
          have Y : Ob V3 w2.heap.size 25 #[.int .i64 2, .bool gg, .int .u64 (m : Int), .int .i64 z] := by rw [← hV3]; exact Ob.mk_ _ _ _
          have uV3 : Up w2 V3 := by rw [← hV3]; exact (Up.refl _).alloc _
          have ltY : w.heap.size ≤ w2.heap.size := U.size
          rw [hV3]
          clear hV3
          replace U := U.trans uV3
          clear uV3
          have Y0 := Y.get 0
          have Y1 := Y.get 1
          have Y2 := Y.get 2
          have Y3 := Y.get 3
          have Yf0 := Y.fr 0
          have Yf1 := Y.fr 1
          have Yf2 := Y.fr 2
          have Yf3 := Y.fr 3
          have Yl := Y.lt
          simp only [List.getElem?_toArray, List.getElem?_cons_zero, List.getElem?_cons_succ] at Y0 Y1 Y2 Y3
          go_wp2_with fail
          refine (CO.out _).mono ?_
          rintro _ w4 ⟨_, rfl, ⟨A1, n1, k1, ys1, rfl, N⟩, h4⟩
          replace U := U.trans h4
          replace Y := Y.up h4
          clear h4
          replace N : Nt w4 _ 1 (.slice A1 n1 k1) m := ⟨_, _, _, _, rfl, N⟩
          go_wp2_with (refine store_ob rfl 32 (.tmp 11) (.tmp 39) rfl _ #[.bool false, .slice none 0 0, .int .i64 0, .int .i64 0] #[.bool gg, .slice A1 n1 k1, .int .i64 z, .int .i64 0] rfl rfl 4 (by kernel_rfl) rfl rfl (by simp [Value.oneCell']) w4 ((Up.refl _).alloc _) (Nat.le_refl _) 32 (Ob.mk_ _ _ _) ?_; intro V5 E uV5; have ltE : w.heap.size ≤ w4.heap.size := U.size; replace U := U.trans uV5; replace Y := Y.up uV5; replace N := N.up uV5; clear uV5; have E0 := E.get 0; have E1 := E.get 1; have E2 := E.get 2; have E3 := E.get 3; simp only [List.getElem?_toArray, List.getElem?_cons_zero, List.getElem?_cons_succ] at E0 E1 E2 E3)
          refine (CR.out _ (TT.out.up U) (TF.out.up U) 2 (by decide) _ _ N).mono ?_
          rintro _ w6 ⟨rfl, h6⟩
          replace U := U.trans h6
          replace Y := Y.up h6
          replace E := E.up h6
          replace N := N.up h6
          clear h6
          go_wp2_with fail
          go_ret
          exact ⟨by first | rfl | simp, by first | exact U | exact U.drewN _ | exact U.drew⟩
    ·
      have d1 : (c != 2) = true := by simpa using (show c ≠ 2 by omega)
      have d2 : (c != 1) = true := by simpa using (show c ≠ 1 by omega)
      clear hc h h1
      cases x1
      ·
        have U := Up.refl w
        go_enter Tryd.func3, Tryd.ntmps3
        go_wp2_with fail
        refine (shown8_any _ (Lib.hid (TT.out.up U)) (Lib.hid (TF.out.up U))).mono ?_
        rintro _ w1 ⟨rfl, h1⟩
        replace U := U.trans h1
        clear h1
        go_wp2_with fail
        refine (CD.out _ (TT.out.up U) (TF.out.up U)).mono ?_
        rintro _ w2 ⟨rfl, h2⟩
        replace U := U.trans h2
        clear h2
        go_wp2_with fail
        obtain ⟨V3, hV3⟩ : ∃ V3, w2.alloc (.cells #[.int .i64 c, .bool gg, .int .u64 (m : Int), .int .i64 z] 25) = V3 := ⟨_, rfl⟩
        have Y : Ob V3 w2.heap.size 25 #[.int .i64 c, .bool gg, .int .u64 (m : Int), .int .i64 z] := by rw [← hV3]; exact Ob.mk_ _ _ _
        have uV3 : Up w2 V3 := by rw [← hV3]; exact (Up.refl _).alloc _
        have ltY : w.heap.size ≤ w2.heap.size := U.size
        rw [hV3]
        clear hV3
        replace U := U.trans uV3
        clear uV3
        have Y0 := Y.get 0
        have Y1 := Y.get 1
        have Y2 := Y.get 2
        have Y3 := Y.get 3
        have Yf0 := Y.fr 0
        have Yf1 := Y.fr 1
        have Yf2 := Y.fr 2
        have Yf3 := Y.fr 3
        have Yl := Y.lt
        simp only [List.getElem?_toArray, List.getElem?_cons_zero, List.getElem?_cons_succ] at Y0 Y1 Y2 Y3
        go_wp2_with fail
        go_ret
        exact ⟨by first | rfl | simp, by first | exact U | exact U.drewN _ | exact U.drew⟩
      ·
        have U := Up.refl w
        go_enter Tryd.func3, Tryd.ntmps3
        go_wp2_with fail
        refine (shown8_any _ (Lib.hid (TT.out.up U)) (Lib.hid (TF.out.up U))).mono ?_
        rintro _ w1 ⟨rfl, h1⟩
        replace U := U.trans h1
        clear h1
        go_wp2_with fail
        refine (CD.out _ (TT.out.up U) (TF.out.up U)).mono ?_
        rintro _ w2 ⟨rfl, h2⟩
        replace U := U.trans h2
        clear h2
        go_wp2_with fail
        obtain ⟨V3, hV3⟩ : ∃ V3, w2.alloc (.cells #[.int .i64 c, .bool gg, .int .u64 (m : Int), .int .i64 z] 25) = V3 := ⟨_, rfl⟩
        have Y : Ob V3 w2.heap.size 25 #[.int .i64 c, .bool gg, .int .u64 (m : Int), .int .i64 z] := by rw [← hV3]; exact Ob.mk_ _ _ _
        have uV3 : Up w2 V3 := by rw [← hV3]; exact (Up.refl _).alloc _
        have ltY : w.heap.size ≤ w2.heap.size := U.size
        rw [hV3]
        clear hV3
        replace U := U.trans uV3
        clear uV3
        have Y0 := Y.get 0
        have Y1 := Y.get 1
        have Y2 := Y.get 2
        have Y3 := Y.get 3
        have Yf0 := Y.fr 0
        have Yf1 := Y.fr 1
        have Yf2 := Y.fr 2
        have Yf3 := Y.fr 3
        have Yl := Y.lt
        simp only [List.getElem?_toArray, List.getElem?_cons_zero, List.getElem?_cons_succ] at Y0 Y1 Y2 Y3
        go_wp2_with fail
        go_ret
        exact ⟨by first | rfl | simp, by first | exact U | exact U.drewN _ | exact U.drew⟩
end Go.Proofs.YtlogglhonlannaaDoor
