/-
  ValueBack.
-/
import Derived.Test.YtjcbncfpcechnaaDoorVh
import Derived.Test.YtjcbncfpcechnaaDoorVo
namespace Go.Proofs.YtjcbncfpcechnaaDoor
open Go.RowKit
set_option linter.unusedSimpArgs false
set_option linter.unusedVariables false

set_option maxHeartbeats 4000000 in
set_option maxRecDepth 100000 in
theorem vback_walk (w : World) (TT : Hid (Tz w)) (TF : Hid (TabF w)) (x0 : Int) (_wx0 : (Lit.int .i64 x0).wf = true) (x1 : Int) (wx1 : (Lit.int .u64 x1).wf = true) : Calls Tryd.prog 6 #[.int .i64 x0, .int .u64 x1] w (True7 w) := by
  obtain ⟨p, rfl, hp⟩ := nat_u6 wx1
  clear wx1
  obtain ⟨gg, k, x, h⟩ := M.kc_ex x0 p
  have CK := Lib.hid (fun W (T : Tz W) (F : TabF W) => vkey_any W (Lib.hid T) (Lib.hid F) x0 p hp gg k x h)
  have hx : (x ≠ 0 ∧ gg = false ∧ k = 0) ∨ (x = 0 ∧ ∃ i : Nat, x0 = i ∧ 1 ≤ i ∧ i ≤ 14 ∧ (p : Int) ≤ M.msk (M.tb i) ∧ M.Kv (M.tb i) p gg k 0) := by
    rcases h with ⟨h, rfl, rfl, rfl⟩ | ⟨i, rfl, a, b, ⟨h, rfl, rfl, rfl⟩ | ⟨h1, h⟩⟩
    · exact .inl ⟨by decide, rfl, rfl⟩
    · exact .inl ⟨by decide, rfl, rfl⟩
    · rcases h with ⟨h, rfl, rfl, rfl⟩ | ⟨h, e1, e2, rfl⟩ | ⟨h, e1, e2, rfl⟩
      · exact .inl ⟨by decide, rfl, rfl⟩
      · exact .inr ⟨rfl, i, rfl, a, b, h1, .inr (.inl ⟨h, e1, e2, rfl⟩)⟩
      · exact .inr ⟨rfl, i, rfl, a, b, h1, .inr (.inr ⟨h, e1, e2, rfl⟩)⟩
  clear h
  rcases hx with ⟨hx, rfl, rfl⟩ | ⟨rfl, i, rfl, a, b, h1, h⟩
  ·
    have d1 : (x != 0) = true := by simpa using hx
    clear hx
    have U := Up.refl w
    go_enter Tryd.func6, Tryd.ntmps6
    go_wp2_with fail
    refine (vshown_any _ (Lib.hid (TT.out.up U)) (Lib.hid (TF.out.up U))).mono ?_
    rintro _ w1 ⟨rfl, h1⟩
    replace U := U.trans h1
    clear h1
    go_wp2_with fail
    refine (CK.out _ (TT.out.up U) (TF.out.up U)).mono ?_
    rintro _ w2 ⟨rfl, h2⟩
    replace U := U.trans h2
    clear h2
    go_wp2_with fail
    go_ret
    exact ⟨by first | rfl | simp, by first | exact U | exact U.alloc _⟩
  ·
    have ok := M.ok i a b
    have ok2 := M.ok2 i a b
    obtain ⟨b1, b2, b3, b4, c, m, z, hd, hmz, hc⟩ := M.kv_back ok ok2 h1 h
    have hk : k < 18446744073709551616 := by have := (tp_le ok ok2 b4).1; omega
    have CP := Lib.hid (fun W (F : TabF W) => vpattern_any W (Lib.hid F) (i : Int) gg k hk (p : Int) 0 (.inr ⟨i, rfl, a, b, .inr ⟨b1, .inr ⟨b2, b3.symm, rfl⟩⟩⟩))
    have CD := Lib.hid (fun W (T : Tz W) (F : TabF W) => vdecode_any W (Lib.hid T) (Lib.hid F) (i : Int) p hp c gg m z 0 (.inr ⟨i, rfl, a, b, .inr ⟨h1, hd, rfl⟩⟩))
    have CA := Lib.hid (fun W (T : Tz W) (F : TabF W) => vat_any W (Lib.hid T) (Lib.hid F) (i : Int) k hk m z 0 (.inr ⟨i, rfl, a, b, .inr ⟨b4, hmz, rfl⟩⟩))
    have r1 : ((p : Int) == (p : Int)) = true := by simp
    have r2 : (gg == gg) = true := by simp
    have r3 : ((m : Int) == (m : Int)) = true := by simp
    have r4 : (z == z) = true := by simp
    clear h h1 ok ok2 b1 b2 b3 b4 hd hmz
    rcases hc with ⟨rfl, rfl⟩ | ⟨rfl, m0⟩
    ·
      skip
      have U := Up.refl w
      go_enter Tryd.func6, Tryd.ntmps6
      go_wp2_with fail
      refine (vshown_any _ (Lib.hid (TT.out.up U)) (Lib.hid (TF.out.up U))).mono ?_
      rintro _ w1 ⟨rfl, h1⟩
      replace U := U.trans h1
      clear h1
      go_wp2_with fail
      refine (CK.out _ (TT.out.up U) (TF.out.up U)).mono ?_
      rintro _ w2 ⟨rfl, h2⟩
      replace U := U.trans h2
      clear h2
      go_wp2_with fail
      refine (CP.out _ (TF.out.up U)).mono ?_
      rintro _ w3 ⟨rfl, h3⟩
      replace U := U.trans h3
      clear h3
      go_wp2_with fail
      refine (CD.out _ (TT.out.up U) (TF.out.up U)).mono ?_
      rintro _ w4 ⟨rfl, h4⟩
      replace U := U.trans h4
      clear h4
      go_wp2_with fail
      obtain ⟨V5, hV5⟩ : ∃ V5, w4.alloc (.cells #[.int .i64 1, .bool gg, .int .u64 0, .int .i64 z] 25) = V5 := ⟨_, rfl⟩
      have Y : Ob V5 w4.heap.size 25 #[.int .i64 1, .bool gg, .int .u64 0, .int .i64 z] := by rw [← hV5]; exact Ob.mk_ _ _ _
      have uV5 : Up w4 V5 := by rw [← hV5]; exact (Up.refl _).alloc _
      have ltY : w.heap.size ≤ w4.heap.size := U.size
      rw [hV5]
      clear hV5
      replace U := U.trans uV5
      clear uV5
      refine (CA.out _ (TT.out.up U) (TF.out.up U)).mono ?_
      rintro _ w6 ⟨rfl, h6⟩
      replace U := U.trans h6
      replace Y := Y.up h6
      clear h6
      have Y0 := Y.get 0
      have Y1 := Y.get 1
      have Y2 := Y.get 2
      have Y3 := Y.get 3
      have Yf0 := Y.fr 0
      have Yf1 := Y.fr 1
      have Yf2 := Y.fr 2
      have Yf3 := Y.fr 3
      have Yl := Y.lt
      simp only [List.getElem?_toArray, List.getElem?_cons_zero, List.getElem?_cons_succ] at Y0 Y1 Y2 Y3
      go_wp2_with fail
      clear Y0 Yf0 Y1 Yf1 Y2 Yf2 Y3 Yf3 Yl
      go_ret
      exact ⟨by first | rfl | simp, by first | exact U | exact U.alloc _⟩
    ·
      have d1 : ((m : Int) == 0) = false := by rw [beq_eq_false_iff_ne]; omega
      clear m0
      have U := Up.refl w
      go_enter Tryd.func6, Tryd.ntmps6
      go_wp2_with fail
      refine (vshown_any _ (Lib.hid (TT.out.up U)) (Lib.hid (TF.out.up U))).mono ?_
      rintro _ w1 ⟨rfl, h1⟩
      replace U := U.trans h1
      clear h1
      go_wp2_with fail
      refine (CK.out _ (TT.out.up U) (TF.out.up U)).mono ?_
      rintro _ w2 ⟨rfl, h2⟩
      replace U := U.trans h2
      clear h2
      go_wp2_with fail
      refine (CP.out _ (TF.out.up U)).mono ?_
      rintro _ w3 ⟨rfl, h3⟩
      replace U := U.trans h3
      clear h3
      go_wp2_with fail
      refine (CD.out _ (TT.out.up U) (TF.out.up U)).mono ?_
      rintro _ w4 ⟨rfl, h4⟩
      replace U := U.trans h4
      clear h4
      go_wp2_with fail
      obtain ⟨V5, hV5⟩ : ∃ V5, w4.alloc (.cells #[.int .i64 2, .bool gg, .int .u64 (m : Int), .int .i64 z] 25) = V5 := ⟨_, rfl⟩
      have Y : Ob V5 w4.heap.size 25 #[.int .i64 2, .bool gg, .int .u64 (m : Int), .int .i64 z] := by rw [← hV5]; exact Ob.mk_ _ _ _
      have uV5 : Up w4 V5 := by rw [← hV5]; exact (Up.refl _).alloc _
      have ltY : w.heap.size ≤ w4.heap.size := U.size
      rw [hV5]
      clear hV5
      replace U := U.trans uV5
      clear uV5
      refine (CA.out _ (TT.out.up U) (TF.out.up U)).mono ?_
      rintro _ w6 ⟨rfl, h6⟩
      replace U := U.trans h6
      replace Y := Y.up h6
      clear h6
      have Y0 := Y.get 0
      have Y1 := Y.get 1
      have Y2 := Y.get 2
      have Y3 := Y.get 3
      have Yf0 := Y.fr 0
      have Yf1 := Y.fr 1
      have Yf2 := Y.fr 2
      have Yf3 := Y.fr 3
      have Yl := Y.lt
      simp only [List.getElem?_toArray, List.getElem?_cons_zero, List.getElem?_cons_succ] at Y0 Y1 Y2 Y3
      go_wp2_with fail
      clear Y0 Yf0 Y1 Yf1 Y2 Yf2 Y3 Yf3 Yl
      go_ret
      exact ⟨by first | rfl | simp, by first | exact U | exact U.alloc _⟩
end Go.Proofs.YtjcbncfpcechnaaDoor
