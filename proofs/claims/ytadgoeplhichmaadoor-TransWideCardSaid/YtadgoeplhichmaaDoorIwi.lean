/-
  TransWide: its walk.
-/
import Derived.Test.YtadgoeplhichmaaDoorIf
import Derived.Test.YtadgoeplhichmaaDoorIc
import Derived.Test.YtadgoeplhichmaaDoorVwa
namespace Go.Proofs.YtadgoeplhichmaaDoor
open Go.RowKit Go.Shelf
set_option linter.unusedVariables false
set_option linter.unusedSimpArgs false

set_option maxHeartbeats 4000000 in
set_option maxRecDepth 100000 in
theorem twide_walk (w : World) (TT : Hid (Tz w)) (TF : Hid (TabF w)) (F : Trn) (x0 : Int) (_wx0 : (Lit.int .i64 x0).wf = true) (x1 : Int) (_wx1 : (Lit.int .u64 x1).wf = true) : Calls Tryd.prog 6 #[.int .i64 x0, .int .u64 x1] w (True14 w) := by
  obtain ⟨p, rfl, pb⟩ := wf_u64 _wx1
  have CH := Lib.hid (fun W (u : Up w W) => shown14_any F W (Lib.hid (TT.out.up u)) (Lib.hid (TF.out.up u)))
  obtain ⟨c, g, m, z, e, hd⟩ := M.dc_ex x0 p
  have CD := Lib.hid (fun W (u : Up w W) => vdecode_any W (Lib.hid (TT.out.up u)) (Lib.hid (TF.out.up u)) x0 p pb c g m z e hd)
  have U := Up.refl w
  by_cases way : e = 0 ∧ c = 2 ∧ x0 ≠ 4
  · obtain ⟨rfl, rfl, n4⟩ := way
    obtain ⟨i, rfl, i1, i2, hp, hv⟩ := M.dc_have hd
    have h1 := M.wide14 i1 i2 (by omega) hp hv
    have C1 := Lib.hid (fun W (u : Up w W) => F.just W (i : Int) 14 p true 0 (TT.out.up u) (TF.out.up u) pb h1)
    have z1 : ((i : Int) == 4) = false := by simpa using n4
    by_cases h4 : (i : Int) < 4
    · have h2 := M.wider i1 (by omega) hp hv
      have C2 := Lib.hid (fun W (u : Up w W) => F.just W (i : Int) ((i : Int) + 1) p true 0 (TT.out.up u) (TF.out.up u) pb h2)
      have z2 : decide ((i : Int) < 4) = true := decide_eq_true h4
      have z3 : IntKind.i64.wrap ((i : Int) + 1) = (i : Int) + 1 := by unfold IntKind.wrap; simp [IntKind.min, IntKind.max, IntKind.signed, IntKind.bits]; omega
      clear hd hp hv TT TF F h1 h2 n4 h4 i1 i2
      go_enter Tryd.func6, Tryd.ntmps6
      go_wp2_with fail
      refine (CH.out _ (by first | exact U | exact U.drew | exact U.drewN _)).mono ?_
      rintro _ w1 ⟨rfl, h1⟩
      replace U := Up.trans (by first | exact U | exact U.drew | exact U.drewN _) h1
      clear h1
      clear CH
      go_wp2_with fail
      refine (CD.out _ (by first | exact U | exact U.drew | exact U.drewN _)).mono ?_
      rintro _ w2 ⟨rfl, h2⟩
      replace U := Up.trans (by first | exact U | exact U.drew | exact U.drewN _) h2
      clear h2
      clear CD
      go_upto_region 3 with fail
      obtain ⟨VX, hVX⟩ : ∃ VX, w2.alloc (.cells #[.int .i64 2, .bool g, u64 m, .int .i64 z] 33) = VX := ⟨_, rfl⟩
      have X : Ob VX w2.heap.size 33 #[.int .i64 2, .bool g, u64 m, .int .i64 z] := by rw [← hVX]; exact Ob.mk_ _ _ _
      have uVX : Up w2 VX := by rw [← hVX]; exact (Up.refl _).alloc _
      rw [hVX]
      clear hVX
      replace U := U.trans uVX
      have X0 := X.get 0
      have X1 := X.get 1
      have X2 := X.get 2
      have X3 := X.get 3
      simp only [List.getElem?_toArray, List.getElem?_cons_zero, List.getElem?_cons_succ] at X0 X1 X2 X3
      go_wp2_with fail
      clear X0 X1 X2 X3
      refine (C1.out _ (by first | exact U | exact U.drew | exact U.drewN _)).mono ?_
      rintro _ w3 ⟨rfl, h3⟩
      replace U := Up.trans (by first | exact U | exact U.drew | exact U.drewN _) h3
      replace X := X.up (Up.trans (by first | exact Up.refl _ | exact (Up.refl _).drew | exact (Up.refl _).drewN _) h3)
      clear h3
      clear C1
      have X0 := X.get 0
      have X1 := X.get 1
      have X2 := X.get 2
      have X3 := X.get 3
      simp only [List.getElem?_toArray, List.getElem?_cons_zero, List.getElem?_cons_succ] at X0 X1 X2 X3
      go_wp2_with fail
      clear X0 X1 X2 X3
      refine (C2.out _ (by first | exact U | exact U.drew | exact U.drewN _)).mono ?_
      rintro _ w4 ⟨rfl, h4⟩
      replace U := Up.trans (by first | exact U | exact U.drew | exact U.drewN _) h4
      replace X := X.up (Up.trans (by first | exact Up.refl _ | exact (Up.refl _).drew | exact (Up.refl _).drewN _) h4)
      clear h4
      clear C2
      have X0 := X.get 0
      have X1 := X.get 1
      have X2 := X.get 2
      have X3 := X.get 3
      simp only [List.getElem?_toArray, List.getElem?_cons_zero, List.getElem?_cons_succ] at X0 X1 X2 X3
      go_wp2_with fail
      clear X0 X1 X2 X3
      go_ret
      exact ⟨by first | rfl | simp, by first | exact U | exact U.drew | exact U.drewN _⟩
    · have z2 : decide ((i : Int) < 4) = false := decide_eq_false h4
      clear hd hp hv TT TF F h1 n4 h4 i1 i2
      go_enter Tryd.func6, Tryd.ntmps6
      go_wp2_with fail
      refine (CH.out _ (by first | exact U | exact U.drew | exact U.drewN _)).mono ?_
      rintro _ w1 ⟨rfl, h1⟩
      replace U := Up.trans (by first | exact U | exact U.drew | exact U.drewN _) h1
      clear h1
      clear CH
      go_wp2_with fail
      refine (CD.out _ (by first | exact U | exact U.drew | exact U.drewN _)).mono ?_
      rintro _ w2 ⟨rfl, h2⟩
      replace U := Up.trans (by first | exact U | exact U.drew | exact U.drewN _) h2
      clear h2
      clear CD
      go_upto_region 3 with fail
      obtain ⟨VX, hVX⟩ : ∃ VX, w2.alloc (.cells #[.int .i64 2, .bool g, u64 m, .int .i64 z] 33) = VX := ⟨_, rfl⟩
      have X : Ob VX w2.heap.size 33 #[.int .i64 2, .bool g, u64 m, .int .i64 z] := by rw [← hVX]; exact Ob.mk_ _ _ _
      have uVX : Up w2 VX := by rw [← hVX]; exact (Up.refl _).alloc _
      rw [hVX]
      clear hVX
      replace U := U.trans uVX
      have X0 := X.get 0
      have X1 := X.get 1
      have X2 := X.get 2
      have X3 := X.get 3
      simp only [List.getElem?_toArray, List.getElem?_cons_zero, List.getElem?_cons_succ] at X0 X1 X2 X3
      go_wp2_with fail
      clear X0 X1 X2 X3
      refine (C1.out _ (by first | exact U | exact U.drew | exact U.drewN _)).mono ?_
      rintro _ w3 ⟨rfl, h3⟩
      replace U := Up.trans (by first | exact U | exact U.drew | exact U.drewN _) h3
      replace X := X.up (Up.trans (by first | exact Up.refl _ | exact (Up.refl _).drew | exact (Up.refl _).drewN _) h3)
      clear h3
      clear C1
      have X0 := X.get 0
      have X1 := X.get 1
      have X2 := X.get 2
      have X3 := X.get 3
      simp only [List.getElem?_toArray, List.getElem?_cons_zero, List.getElem?_cons_succ] at X0 X1 X2 X3
      go_wp2_with fail
      clear X0 X1 X2 X3
      go_ret
      exact ⟨by first | rfl | simp, by first | exact U | exact U.drew | exact U.drewN _⟩
  · have d1 : (e != 0) = true ∨ (e = 0 ∧ (c != 2) = true) ∨ (e = 0 ∧ c = 2 ∧ x0 = 4) := by
      by_cases h : e = 0
      · by_cases h2 : c = 2
        · exact .inr (.inr ⟨h, h2, Classical.byContradiction fun h3 => way ⟨h, h2, h3⟩⟩)
        · exact .inr (.inl ⟨h, M.nx14' h2⟩)
      · exact .inl (M.nx14 h)
    clear way hd TT TF F
    rcases d1 with d1 | ⟨rfl, d1⟩ | ⟨rfl, rfl, rfl⟩
    · go_enter Tryd.func6, Tryd.ntmps6
      go_wp2_with fail
      refine (CH.out _ (by first | exact U | exact U.drew | exact U.drewN _)).mono ?_
      rintro _ w1 ⟨rfl, h1⟩
      replace U := Up.trans (by first | exact U | exact U.drew | exact U.drewN _) h1
      clear h1
      clear CH
      go_wp2_with fail
      refine (CD.out _ (by first | exact U | exact U.drew | exact U.drewN _)).mono ?_
      rintro _ w2 ⟨rfl, h2⟩
      replace U := Up.trans (by first | exact U | exact U.drew | exact U.drewN _) h2
      clear h2
      clear CD
      go_upto_region 3 with fail
      obtain ⟨VX, hVX⟩ : ∃ VX, w2.alloc (.cells #[.int .i64 c, .bool g, u64 m, .int .i64 z] 33) = VX := ⟨_, rfl⟩
      have X : Ob VX w2.heap.size 33 #[.int .i64 c, .bool g, u64 m, .int .i64 z] := by rw [← hVX]; exact Ob.mk_ _ _ _
      have uVX : Up w2 VX := by rw [← hVX]; exact (Up.refl _).alloc _
      rw [hVX]
      clear hVX
      replace U := U.trans uVX
      have X0 := X.get 0
      have X1 := X.get 1
      have X2 := X.get 2
      have X3 := X.get 3
      simp only [List.getElem?_toArray, List.getElem?_cons_zero, List.getElem?_cons_succ] at X0 X1 X2 X3
      go_wp2_with fail
      clear X0 X1 X2 X3
      go_ret
      exact ⟨by first | rfl | simp, by first | exact U | exact U.drew | exact U.drewN _⟩
    · go_enter Tryd.func6, Tryd.ntmps6
      go_wp2_with fail
      refine (CH.out _ (by first | exact U | exact U.drew | exact U.drewN _)).mono ?_
      rintro _ w1 ⟨rfl, h1⟩
      replace U := Up.trans (by first | exact U | exact U.drew | exact U.drewN _) h1
      clear h1
      clear CH
      go_wp2_with fail
      refine (CD.out _ (by first | exact U | exact U.drew | exact U.drewN _)).mono ?_
      rintro _ w2 ⟨rfl, h2⟩
      replace U := Up.trans (by first | exact U | exact U.drew | exact U.drewN _) h2
      clear h2
      clear CD
      go_upto_region 3 with fail
      obtain ⟨VX, hVX⟩ : ∃ VX, w2.alloc (.cells #[.int .i64 c, .bool g, u64 m, .int .i64 z] 33) = VX := ⟨_, rfl⟩
      have X : Ob VX w2.heap.size 33 #[.int .i64 c, .bool g, u64 m, .int .i64 z] := by rw [← hVX]; exact Ob.mk_ _ _ _
      have uVX : Up w2 VX := by rw [← hVX]; exact (Up.refl _).alloc _
      rw [hVX]
      clear hVX
      replace U := U.trans uVX
      have X0 := X.get 0
      have X1 := X.get 1
      have X2 := X.get 2
      have X3 := X.get 3
      simp only [List.getElem?_toArray, List.getElem?_cons_zero, List.getElem?_cons_succ] at X0 X1 X2 X3
      go_wp2_with fail
      clear X0 X1 X2 X3
      go_ret
      exact ⟨by first | rfl | simp, by first | exact U | exact U.drew | exact U.drewN _⟩
    · go_enter Tryd.func6, Tryd.ntmps6
      go_wp2_with fail
      refine (CH.out _ (by first | exact U | exact U.drew | exact U.drewN _)).mono ?_
      rintro _ w1 ⟨rfl, h1⟩
      replace U := Up.trans (by first | exact U | exact U.drew | exact U.drewN _) h1
      clear h1
      clear CH
      go_wp2_with fail
      refine (CD.out _ (by first | exact U | exact U.drew | exact U.drewN _)).mono ?_
      rintro _ w2 ⟨rfl, h2⟩
      replace U := Up.trans (by first | exact U | exact U.drew | exact U.drewN _) h2
      clear h2
      clear CD
      go_upto_region 3 with fail
      obtain ⟨VX, hVX⟩ : ∃ VX, w2.alloc (.cells #[.int .i64 2, .bool g, u64 m, .int .i64 z] 33) = VX := ⟨_, rfl⟩
      have X : Ob VX w2.heap.size 33 #[.int .i64 2, .bool g, u64 m, .int .i64 z] := by rw [← hVX]; exact Ob.mk_ _ _ _
      have uVX : Up w2 VX := by rw [← hVX]; exact (Up.refl _).alloc _
      rw [hVX]
      clear hVX
      replace U := U.trans uVX
      have X0 := X.get 0
      have X1 := X.get 1
      have X2 := X.get 2
      have X3 := X.get 3
      simp only [List.getElem?_toArray, List.getElem?_cons_zero, List.getElem?_cons_succ] at X0 X1 X2 X3
      go_wp2_with fail
      clear X0 X1 X2 X3
      go_ret
      exact ⟨by first | rfl | simp, by first | exact U | exact U.drew | exact U.drewN _⟩
end Go.Proofs.YtadgoeplhichmaaDoor
