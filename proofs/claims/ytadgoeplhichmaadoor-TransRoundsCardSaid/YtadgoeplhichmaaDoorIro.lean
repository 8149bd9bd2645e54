/-
  TransRounds: its walk.
-/
import Derived.Test.YtadgoeplhichmaaDoorIf
import Derived.Test.YtadgoeplhichmaaDoorIb
import Derived.Test.YtadgoeplhichmaaDoorVwa
import Derived.Test.YtadgoeplhichmaaDoorRva
import Derived.Test.YtadgoeplhichmaaDoorLab
namespace Go.Proofs.YtadgoeplhichmaaDoor
open Go.RowKit Go.Shelf
set_option linter.unusedVariables false
set_option linter.unusedSimpArgs false

set_option maxHeartbeats 4000000 in
set_option maxRecDepth 100000 in
theorem trounds_walk (w : World) (TT : Hid (Tz w)) (TF : Hid (TabF w)) (F : Trn) (x0 : Int) (_wx0 : (Lit.int .i64 x0).wf = true) (x1 : Int) (_wx1 : (Lit.int .i64 x1).wf = true) (x2 : Bool) (x3 : Int) (_wx3 : (Lit.int .u64 x3).wf = true) : Calls Tryd.prog 5 #[.int .i64 x0, .int .i64 x1, .bool x2, .int .u64 x3] w (True14 w) := by
  obtain ⟨p, rfl, pb⟩ := wf_u64 _wx3
  have CH := Lib.hid (fun W (u : Up w W) => shown14_any F W (Lib.hid (TT.out.up u)) (Lib.hid (TF.out.up u)))
  obtain ⟨c, g, m, z, e, hd⟩ := M.dc_ex x0 p
  have CD := Lib.hid (fun W (u : Up w W) => vdecode_any W (Lib.hid (TT.out.up u)) (Lib.hid (TF.out.up u)) x0 p pb c g m z e hd)
  have U := Up.refl w
  by_cases way : e = 0 ∧ (c = 1 ∨ c = 2)
  · obtain ⟨rfl, hc⟩ := way
    obtain ⟨i, rfl, i1, i2, hp, hv⟩ := M.dc_have hd
    obtain ⟨_, mb, zb⟩ := M.has_rv (M.ok i i1 i2) (M.ok2 i i1 i2) (M.ok3 i i1 i2) hp hv hc 1
    have m0 : c = 1 → m = 0 ∧ z = 0 := fun e => by
      rcases hv with ⟨_, h, _⟩ | ⟨_, h, _⟩ | ⟨_, _, _, h⟩ | ⟨_, h, _⟩
      · omega
      · omega
      · exact h
      · omega
    have CX : Hid (∀ W : World, Calls Tryd.prog 15 #[vv c g m z] W (Xo g 1 m z 0 true W)) := by
      rcases hc with rfl | rfl
      · obtain ⟨rfl, rfl⟩ := m0 rfl
        exact fun W => (xof_zero W g 0 0).mono fun _ _ ⟨v, h1, h2, h3⟩ => ⟨v, h1, h2.more (by omega), h3⟩
      · exact fun W => xof_fin W g m z mb (by unfold M.pw; omega)
    have CR := Lib.hid (fun W (u : Up w W) (mode : Int) lo v (N : Nt W lo 1 v m) r y (hr : M.Rc x1 mode g (M.sz m z 0) r y) => rnd_round W (Lib.hid (TT.out.up u)) (Lib.hid (TF.out.up u)) x1 mode lo 1 g v z 0 m N (by omega) (by omega) (by omega) (lt_w128 mb) r y hr)
    rcases (show x2 = true ∨ x2 = false by cases x2 <;> simp) with rfl | rfl
    · obtain ⟨q, x, h1, qb⟩ := M.tc_ex (i : Int) x1 2 p
      obtain ⟨r, y, h2⟩ := M.rc_ex x1 2 g (M.sz m z 0)
      obtain ⟨rfl, rfl⟩ := M.rounds h1 hd hc h2
      have C1 := Lib.hid (fun W (u : Up w W) => F.turn W (i : Int) x1 2 p q x (TT.out.up u) (TF.out.up u) pb h1)
      have HR := Lib.hid h2
      clear h1 h2 hd hp hv m0 TT TF F mb zb qb i1 i2
      rcases hc with rfl | rfl
      · go_enter Tryd.func5, Tryd.ntmps5
        go_wp2_with fail
        refine (CH.out _ (by first | exact U | exact U.drew | exact U.drewN _)).mono ?_
        rintro _ w1 ⟨rfl, h1⟩
        replace U := Up.trans (by first | exact U | exact U.drew | exact U.drewN _) h1
        clear h1
        clear CH
        go_wp2_with fail
        refine (CD.out _ (by first | exact U | exact U.drew | exact U.drewN _)).mono ?_
        rintro _ w2 ⟨rfl, h2⟩
        replace U := Up.trans (by first | exact U | exact U.drew | exact U.drewN _) h2
        clear h2
        clear CD
        go_upto_region 6 with fail
        obtain ⟨VX, hVX⟩ : ∃ VX, w2.alloc (.cells #[.int .i64 1, .bool g, u64 m, .int .i64 z] 33) = VX := ⟨_, rfl⟩
        have X : Ob VX w2.heap.size 33 #[.int .i64 1, .bool g, u64 m, .int .i64 z] := by rw [← hVX]; exact Ob.mk_ _ _ _
        have uVX : Up w2 VX := by rw [← hVX]; exact (Up.refl _).alloc _
        rw [hVX]
        clear hVX
        replace U := U.trans uVX
        have X0 := X.get 0
        have X1 := X.get 1
        have X2 := X.get 2
        have X3 := X.get 3
        simp only [List.getElem?_toArray, List.getElem?_cons_zero, List.getElem?_cons_succ] at X0 X1 X2 X3
        go_wp2_with fail
        clear X0 X1 X2 X3
        refine (CX.out _).mono ?_
        rintro _ w3 ⟨v, rfl, N, h3⟩
        replace U := Up.trans (by first | exact U | exact U.drew | exact U.drewN _) h3
        obtain ⟨A, n1, c1, rfl, N⟩ := N.sl4
        clear h3 X CX
        go_upto_region 9 with fail
        obtain ⟨VY, hVY⟩ : ∃ VY, w3.alloc (.cells #[.bool g, .slice A n1 c1, .int .i64 z, .int .i64 0] 39) = VY := ⟨_, rfl⟩
        have Y : Ob VY w3.heap.size 39 #[.bool g, .slice A n1 c1, .int .i64 z, .int .i64 0] := by rw [← hVY]; exact Ob.mk_ _ _ _
        have uVY : Up w3 VY := by rw [← hVY]; exact (Up.refl _).alloc _
        rw [hVY]
        clear hVY
        replace U := U.trans uVY
        replace N := N.up uVY
        have Y0 := Y.get 0
        have Y1 := Y.get 1
        have Y2 := Y.get 2
        have Y3 := Y.get 3
        simp only [List.getElem?_toArray, List.getElem?_cons_zero, List.getElem?_cons_succ] at Y0 Y1 Y2 Y3
        go_wp2_with fail
        clear Y0 Y1 Y2 Y3
        refine (C1.out _ (by first | exact U | exact U.drew | exact U.drewN _)).mono ?_
        rintro _ w4 ⟨rfl, h4⟩
        replace U := Up.trans (by first | exact U | exact U.drew | exact U.drewN _) h4
        replace Y := Y.up (Up.trans (by first | exact Up.refl _ | exact (Up.refl _).drew | exact (Up.refl _).drewN _) h4)
        replace N := N.up (Up.trans (by first | exact Up.refl _ | exact (Up.refl _).drew | exact (Up.refl _).drewN _) h4)
        clear h4
        clear C1
        have Y0 := Y.get 0
        have Y1 := Y.get 1
        have Y2 := Y.get 2
        have Y3 := Y.get 3
        simp only [List.getElem?_toArray, List.getElem?_cons_zero, List.getElem?_cons_succ] at Y0 Y1 Y2 Y3
        go_wp2_with fail
        clear Y0 Y1 Y2 Y3
        refine (CR.out _ (by first | exact U | exact U.drew | exact U.drewN _) 2 _ _ N _ _ HR.out).mono ?_
        rintro _ w5 ⟨rfl, h5⟩
        replace U := Up.trans (by first | exact U | exact U.drew | exact U.drewN _) h5
        replace Y := Y.up (Up.trans (by first | exact Up.refl _ | exact (Up.refl _).drew | exact (Up.refl _).drewN _) h5)
        clear h5
        clear CR
        have Y0 := Y.get 0
        have Y1 := Y.get 1
        have Y2 := Y.get 2
        have Y3 := Y.get 3
        simp only [List.getElem?_toArray, List.getElem?_cons_zero, List.getElem?_cons_succ] at Y0 Y1 Y2 Y3
        go_wp2_with fail
        clear Y0 Y1 Y2 Y3
        go_ret
        exact ⟨by first | rfl | simp, by first | exact U | exact U.drew | exact U.drewN _⟩
      · go_enter Tryd.func5, Tryd.ntmps5
        go_wp2_with fail
        refine (CH.out _ (by first | exact U | exact U.drew | exact U.drewN _)).mono ?_
        rintro _ w1 ⟨rfl, h1⟩
        replace U := Up.trans (by first | exact U | exact U.drew | exact U.drewN _) h1
        clear h1
        clear CH
        go_wp2_with fail
        refine (CD.out _ (by first | exact U | exact U.drew | exact U.drewN _)).mono ?_
        rintro _ w2 ⟨rfl, h2⟩
        replace U := Up.trans (by first | exact U | exact U.drew | exact U.drewN _) h2
        clear h2
        clear CD
        go_upto_region 6 with fail
        obtain ⟨VX, hVX⟩ : ∃ VX, w2.alloc (.cells #[.int .i64 2, .bool g, u64 m, .int .i64 z] 33) = VX := ⟨_, rfl⟩
        have X : Ob VX w2.heap.size 33 #[.int .i64 2, .bool g, u64 m, .int .i64 z] := by rw [← hVX]; exact Ob.mk_ _ _ _
        have uVX : Up w2 VX := by rw [← hVX]; exact (Up.refl _).alloc _
        rw [hVX]
        clear hVX
        replace U := U.trans uVX
        have X0 := X.get 0
        have X1 := X.get 1
        have X2 := X.get 2
        have X3 := X.get 3
        simp only [List.getElem?_toArray, List.getElem?_cons_zero, List.getElem?_cons_succ] at X0 X1 X2 X3
        go_wp2_with fail
        clear X0 X1 X2 X3
        refine (CX.out _).mono ?_
        rintro _ w3 ⟨v, rfl, N, h3⟩
        replace U := Up.trans (by first | exact U | exact U.drew | exact U.drewN _) h3
        obtain ⟨A, n1, c1, rfl, N⟩ := N.sl4
        clear h3 X CX
        go_upto_region 9 with fail
        obtain ⟨VY, hVY⟩ : ∃ VY, w3.alloc (.cells #[.bool g, .slice A n1 c1, .int .i64 z, .int .i64 0] 39) = VY := ⟨_, rfl⟩
        have Y : Ob VY w3.heap.size 39 #[.bool g, .slice A n1 c1, .int .i64 z, .int .i64 0] := by rw [← hVY]; exact Ob.mk_ _ _ _
        have uVY : Up w3 VY := by rw [← hVY]; exact (Up.refl _).alloc _
        rw [hVY]
        clear hVY
        replace U := U.trans uVY
        replace N := N.up uVY
        have Y0 := Y.get 0
        have Y1 := Y.get 1
        have Y2 := Y.get 2
        have Y3 := Y.get 3
        simp only [List.getElem?_toArray, List.getElem?_cons_zero, List.getElem?_cons_succ] at Y0 Y1 Y2 Y3
        go_wp2_with fail
        clear Y0 Y1 Y2 Y3
        refine (C1.out _ (by first | exact U | exact U.drew | exact U.drewN _)).mono ?_
        rintro _ w4 ⟨rfl, h4⟩
        replace U := Up.trans (by first | exact U | exact U.drew | exact U.drewN _) h4
        replace Y := Y.up (Up.trans (by first | exact Up.refl _ | exact (Up.refl _).drew | exact (Up.refl _).drewN _) h4)
        replace N := N.up (Up.trans (by first | exact Up.refl _ | exact (Up.refl _).drew | exact (Up.refl _).drewN _) h4)
        clear h4
        clear C1
        have Y0 := Y.get 0
        have Y1 := Y.get 1
        have Y2 := Y.get 2
        have Y3 := Y.get 3
        simp only [List.getElem?_toArray, List.getElem?_cons_zero, List.getElem?_cons_succ] at Y0 Y1 Y2 Y3
        go_wp2_with fail
        clear Y0 Y1 Y2 Y3
        refine (CR.out _ (by first | exact U | exact U.drew | exact U.drewN _) 2 _ _ N _ _ HR.out).mono ?_
        rintro _ w5 ⟨rfl, h5⟩
        replace U := Up.trans (by first | exact U | exact U.drew | exact U.drewN _) h5
        replace Y := Y.up (Up.trans (by first | exact Up.refl _ | exact (Up.refl _).drew | exact (Up.refl _).drewN _) h5)
        clear h5
        clear CR
        have Y0 := Y.get 0
        have Y1 := Y.get 1
        have Y2 := Y.get 2
        have Y3 := Y.get 3
        simp only [List.getElem?_toArray, List.getElem?_cons_zero, List.getElem?_cons_succ] at Y0 Y1 Y2 Y3
        go_wp2_with fail
        clear Y0 Y1 Y2 Y3
        go_ret
        exact ⟨by first | rfl | simp, by first | exact U | exact U.drew | exact U.drewN _⟩
    · obtain ⟨q, x, h1, qb⟩ := M.tc_ex (i : Int) x1 1 p
      obtain ⟨r, y, h2⟩ := M.rc_ex x1 1 g (M.sz m z 0)
      obtain ⟨rfl, rfl⟩ := M.rounds h1 hd hc h2
      have C1 := Lib.hid (fun W (u : Up w W) => F.turn W (i : Int) x1 1 p q x (TT.out.up u) (TF.out.up u) pb h1)
      have HR := Lib.hid h2
      clear h1 h2 hd hp hv m0 TT TF F mb zb qb i1 i2
      rcases hc with rfl | rfl
      · go_enter Tryd.func5, Tryd.ntmps5
        go_wp2_with fail
        refine (CH.out _ (by first | exact U | exact U.drew | exact U.drewN _)).mono ?_
        rintro _ w1 ⟨rfl, h1⟩
        replace U := Up.trans (by first | exact U | exact U.drew | exact U.drewN _) h1
        clear h1
        clear CH
        go_wp2_with fail
        refine (CD.out _ (by first | exact U | exact U.drew | exact U.drewN _)).mono ?_
        rintro _ w2 ⟨rfl, h2⟩
        replace U := Up.trans (by first | exact U | exact U.drew | exact U.drewN _) h2
        clear h2
        clear CD
        go_upto_region 6 with fail
        obtain ⟨VX, hVX⟩ : ∃ VX, w2.alloc (.cells #[.int .i64 1, .bool g, u64 m, .int .i64 z] 33) = VX := ⟨_, rfl⟩
        have X : Ob VX w2.heap.size 33 #[.int .i64 1, .bool g, u64 m, .int .i64 z] := by rw [← hVX]; exact Ob.mk_ _ _ _
        have uVX : Up w2 VX := by rw [← hVX]; exact (Up.refl _).alloc _
        rw [hVX]
        clear hVX
        replace U := U.trans uVX
        have X0 := X.get 0
        have X1 := X.get 1
        have X2 := X.get 2
        have X3 := X.get 3
        simp only [List.getElem?_toArray, List.getElem?_cons_zero, List.getElem?_cons_succ] at X0 X1 X2 X3
        go_wp2_with fail
        clear X0 X1 X2 X3
        refine (CX.out _).mono ?_
        rintro _ w3 ⟨v, rfl, N, h3⟩
        replace U := Up.trans (by first | exact U | exact U.drew | exact U.drewN _) h3
        obtain ⟨A, n1, c1, rfl, N⟩ := N.sl4
        clear h3 X CX
        go_upto_region 9 with fail
        obtain ⟨VY, hVY⟩ : ∃ VY, w3.alloc (.cells #[.bool g, .slice A n1 c1, .int .i64 z, .int .i64 0] 39) = VY := ⟨_, rfl⟩
        have Y : Ob VY w3.heap.size 39 #[.bool g, .slice A n1 c1, .int .i64 z, .int .i64 0] := by rw [← hVY]; exact Ob.mk_ _ _ _
        have uVY : Up w3 VY := by rw [← hVY]; exact (Up.refl _).alloc _
        rw [hVY]
        clear hVY
        replace U := U.trans uVY
        replace N := N.up uVY
        have Y0 := Y.get 0
        have Y1 := Y.get 1
        have Y2 := Y.get 2
        have Y3 := Y.get 3
        simp only [List.getElem?_toArray, List.getElem?_cons_zero, List.getElem?_cons_succ] at Y0 Y1 Y2 Y3
        go_wp2_with fail
        clear Y0 Y1 Y2 Y3
        refine (C1.out _ (by first | exact U | exact U.drew | exact U.drewN _)).mono ?_
        rintro _ w4 ⟨rfl, h4⟩
        replace U := Up.trans (by first | exact U | exact U.drew | exact U.drewN _) h4
        replace Y := Y.up (Up.trans (by first | exact Up.refl _ | exact (Up.refl _).drew | exact (Up.refl _).drewN _) h4)
        replace N := N.up (Up.trans (by first | exact Up.refl _ | exact (Up.refl _).drew | exact (Up.refl _).drewN _) h4)
        clear h4
        clear C1
        have Y0 := Y.get 0
        have Y1 := Y.get 1
        have Y2 := Y.get 2
        have Y3 := Y.get 3
        simp only [List.getElem?_toArray, List.getElem?_cons_zero, List.getElem?_cons_succ] at Y0 Y1 Y2 Y3
        go_wp2_with fail
        clear Y0 Y1 Y2 Y3
        refine (CR.out _ (by first | exact U | exact U.drew | exact U.drewN _) 1 _ _ N _ _ HR.out).mono ?_
        rintro _ w5 ⟨rfl, h5⟩
        replace U := Up.trans (by first | exact U | exact U.drew | exact U.drewN _) h5
        replace Y := Y.up (Up.trans (by first | exact Up.refl _ | exact (Up.refl _).drew | exact (Up.refl _).drewN _) h5)
        clear h5
        clear CR
        have Y0 := Y.get 0
        have Y1 := Y.get 1
        have Y2 := Y.get 2
        have Y3 := Y.get 3
        simp only [List.getElem?_toArray, List.getElem?_cons_zero, List.getElem?_cons_succ] at Y0 Y1 Y2 Y3
        go_wp2_with fail
        clear Y0 Y1 Y2 Y3
        go_ret
        exact ⟨by first | rfl | simp, by first | exact U | exact U.drew | exact U.drewN _⟩
      · go_enter Tryd.func5, Tryd.ntmps5
        go_wp2_with fail
        refine (CH.out _ (by first | exact U | exact U.drew | exact U.drewN _)).mono ?_
        rintro _ w1 ⟨rfl, h1⟩
        replace U := Up.trans (by first | exact U | exact U.drew | exact U.drewN _) h1
        clear h1
        clear CH
        go_wp2_with fail
        refine (CD.out _ (by first | exact U | exact U.drew | exact U.drewN _)).mono ?_
        rintro _ w2 ⟨rfl, h2⟩
        replace U := Up.trans (by first | exact U | exact U.drew | exact U.drewN _) h2
        clear h2
        clear CD
        go_upto_region 6 with fail
        obtain ⟨VX, hVX⟩ : ∃ VX, w2.alloc (.cells #[.int .i64 2, .bool g, u64 m, .int .i64 z] 33) = VX := ⟨_, rfl⟩
        have X : Ob VX w2.heap.size 33 #[.int .i64 2, .bool g, u64 m, .int .i64 z] := by rw [← hVX]; exact Ob.mk_ _ _ _
        have uVX : Up w2 VX := by rw [← hVX]; exact (Up.refl _).alloc _
        rw [hVX]
        clear hVX
        replace U := U.trans uVX
        have X0 := X.get 0
        have X1 := X.get 1
        have X2 := X.get 2
        have X3 := X.get 3
        simp only [List.getElem?_toArray, List.getElem?_cons_zero, List.getElem?_cons_succ] at X0 X1 X2 X3
        go_wp2_with fail
        clear X0 X1 X2 X3
        refine (CX.out _).mono ?_
        rintro _ w3 ⟨v, rfl, N, h3⟩
        replace U := Up.trans (by first | exact U | exact U.drew | exact U.drewN _) h3
        obtain ⟨A, n1, c1, rfl, N⟩ := N.sl4
        clear h3 X CX
        go_upto_region 9 with fail
        obtain ⟨VY, hVY⟩ : ∃ VY, w3.alloc (.cells #[.bool g, .slice A n1 c1, .int .i64 z, .int .i64 0] 39) = VY := ⟨_, rfl⟩
        have Y : Ob VY w3.heap.size 39 #[.bool g, .slice A n1 c1, .int .i64 z, .int .i64 0] := by rw [← hVY]; exact Ob.mk_ _ _ _
        have uVY : Up w3 VY := by rw [← hVY]; exact (Up.refl _).alloc _
        rw [hVY]
        clear hVY
        replace U := U.trans uVY
        replace N := N.up uVY
        have Y0 := Y.get 0
        have Y1 := Y.get 1
        have Y2 := Y.get 2
        have Y3 := Y.get 3
        simp only [List.getElem?_toArray, List.getElem?_cons_zero, List.getElem?_cons_succ] at Y0 Y1 Y2 Y3
        go_wp2_with fail
        clear Y0 Y1 Y2 Y3
        refine (C1.out _ (by first | exact U | exact U.drew | exact U.drewN _)).mono ?_
        rintro _ w4 ⟨rfl, h4⟩
        replace U := Up.trans (by first | exact U | exact U.drew | exact U.drewN _) h4
        replace Y := Y.up (Up.trans (by first | exact Up.refl _ | exact (Up.refl _).drew | exact (Up.refl _).drewN _) h4)
        replace N := N.up (Up.trans (by first | exact Up.refl _ | exact (Up.refl _).drew | exact (Up.refl _).drewN _) h4)
        clear h4
        clear C1
        have Y0 := Y.get 0
        have Y1 := Y.get 1
        have Y2 := Y.get 2
        have Y3 := Y.get 3
        simp only [List.getElem?_toArray, List.getElem?_cons_zero, List.getElem?_cons_succ] at Y0 Y1 Y2 Y3
        go_wp2_with fail
        clear Y0 Y1 Y2 Y3
        refine (CR.out _ (by first | exact U | exact U.drew | exact U.drewN _) 1 _ _ N _ _ HR.out).mono ?_
        rintro _ w5 ⟨rfl, h5⟩
        replace U := Up.trans (by first | exact U | exact U.drew | exact U.drewN _) h5
        replace Y := Y.up (Up.trans (by first | exact Up.refl _ | exact (Up.refl _).drew | exact (Up.refl _).drewN _) h5)
        clear h5
        clear CR
        have Y0 := Y.get 0
        have Y1 := Y.get 1
        have Y2 := Y.get 2
        have Y3 := Y.get 3
        simp only [List.getElem?_toArray, List.getElem?_cons_zero, List.getElem?_cons_succ] at Y0 Y1 Y2 Y3
        go_wp2_with fail
        clear Y0 Y1 Y2 Y3
        go_ret
        exact ⟨by first | rfl | simp, by first | exact U | exact U.drew | exact U.drewN _⟩
  · have d1 : (e != 0) = true ∨ (e = 0 ∧ (c != 2) = true ∧ (c != 1) = true) := by
      by_cases h : e = 0
      · exact .inr ⟨h, M.nx14' (fun e1 => way ⟨h, .inr e1⟩), M.nx14' (fun e1 => way ⟨h, .inl e1⟩)⟩
      · exact .inl (M.nx14 h)
    clear way hd TT TF F
    rcases d1 with d1 | ⟨rfl, d1, d2⟩ <;> rcases (show x2 = true ∨ x2 = false by cases x2 <;> simp) with rfl | rfl
    all_goals
      go_enter Tryd.func5, Tryd.ntmps5
      go_wp2_with fail
      refine (CH.out _ (by first | exact U | exact U.drew | exact U.drewN _)).mono ?_
      rintro _ w1 ⟨rfl, h1⟩
      replace U := Up.trans (by first | exact U | exact U.drew | exact U.drewN _) h1
      clear h1
      clear CH
      go_wp2_with fail
      refine (CD.out _ (by first | exact U | exact U.drew | exact U.drewN _)).mono ?_
      rintro _ w2 ⟨rfl, h2⟩
      replace U := Up.trans (by first | exact U | exact U.drew | exact U.drewN _) h2
      clear h2
      clear CD
      go_upto_region 6 with fail
      obtain ⟨VX, hVX⟩ : ∃ VX, w2.alloc (.cells #[.int .i64 c, .bool g, u64 m, .int .i64 z] 33) = VX := ⟨_, rfl⟩
      have X : Ob VX w2.heap.size 33 #[.int .i64 c, .bool g, u64 m, .int .i64 z] := by rw [← hVX]; exact Ob.mk_ _ _ _
      have uVX : Up w2 VX := by rw [← hVX]; exact (Up.refl _).alloc _
      rw [hVX]
      clear hVX
      replace U := U.trans uVX
      have X0 := X.get 0
      have X1 := X.get 1
      have X2 := X.get 2
      have X3 := X.get 3
      simp only [List.getElem?_toArray, List.getElem?_cons_zero, List.getElem?_cons_succ] at X0 X1 X2 X3
      go_wp2_with fail
      clear X0 X1 X2 X3
      go_ret
      exact ⟨by first | rfl | simp, by first | exact U | exact U.drew | exact U.drewN _⟩
end Go.Proofs.YtadgoeplhichmaaDoor
