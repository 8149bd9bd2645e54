/-
  TransSigns: its walk.
-/
import Derived.Test.YtadgoeplhichmaaDoorIf
import Derived.Test.YtadgoeplhichmaaDoorIb
import Derived.Test.YtadgoeplhichmaaDoorVwa
namespace Go.Proofs.YtadgoeplhichmaaDoor
open Go.RowKit Go.Shelf
set_option linter.unusedVariables false
set_option linter.unusedSimpArgs false

theorem M.tc_err {ii jj mode : Int} {p q : Nat} {x : Int} (h : M.Tc ii jj mode p q x) (hx : x ≠ 0) : q = 0 := by
  obtain ⟨c, g, m, z, e, hd, ⟨_, h, _⟩ | ⟨_, _, h, _⟩ | ⟨_, j, _, _, _, ⟨_, h, _⟩ | ⟨_, _, h⟩⟩⟩ := h
  · exact h
  · exact h
  · exact h
  · exact absurd h hx
set_option maxHeartbeats 4000000 in
set_option maxRecDepth 100000 in
theorem tsigns_walk (w : World) (TT : Hid (Tz w)) (TF : Hid (TabF w)) (F : Trn) (x0 : Int) (_wx0 : (Lit.int .i64 x0).wf = true) (x1 : Int) (_wx1 : (Lit.int .i64 x1).wf = true) (x2 : Bool) (x3 : Int) (_wx3 : (Lit.int .u64 x3).wf = true) : Calls Tryd.prog 7 #[.int .i64 x0, .int .i64 x1, .bool x2, .int .u64 x3] w (True14 w) := by
  obtain ⟨p, rfl, pb⟩ := wf_u64 _wx3
  have CH := Lib.hid (fun W (u : Up w W) => shown14_any F W (Lib.hid (TT.out.up u)) (Lib.hid (TF.out.up u)))
  have U := Up.refl w
  obtain ⟨mode, hmode⟩ : ∃ mode : Int, (x2 = true ∧ mode = 2) ∨ (x2 = false ∧ mode = 1) := by cases x2 <;> simp
  have hm : mode = 1 ∨ mode = 2 := by omega
  obtain ⟨q, x, h1, qb⟩ := M.tc_ex x0 x1 mode p
  have C1 := Lib.hid (fun W (u : Up w W) => F.turn W x0 x1 mode p q x (TT.out.up u) (TF.out.up u) pb h1)
  by_cases way : x = 0
  · subst way
    obtain ⟨i, j, c, g, m, z, rfl, rfl, ⟨i1, i2⟩, ⟨j1, j2⟩, _, hp, hv, ht⟩ := M.tc_have h1
    have hd := M.dc_mk i1 i2 hp hv
    have hq := (M.tv_rng (M.ok j j1 j2) (M.ok2 j j1 j2) (M.ok3 j j1 j2) ht).2
    obtain ⟨c', g', m', z', hv'⟩ := M.dv_ex (M.ok j j1 j2) (M.ok2 j j1 j2) (p := (q : Int)) (by omega) hq
    have hd' := M.dc_mk j1 j2 hq hv'
    have hs := M.signs14 h1 hd hd'
    have C2 := Lib.hid (fun W (u : Up w W) => vdecode_any W (Lib.hid (TT.out.up u)) (Lib.hid (TF.out.up u)) (i : Int) p pb c g m z 0 hd)
    have C3 := Lib.hid (fun W (u : Up w W) => vdecode_any W (Lib.hid (TT.out.up u)) (Lib.hid (TF.out.up u)) (j : Int) q qb c' g' m' z' 0 hd')
    obtain ⟨f, hf⟩ : ∃ f, M.tb j = f := ⟨_, rfl⟩
    have C4 := Lib.hid (fun W (u : Up w W) => of_in W (TF.out.up u) j f (Lib.hid hf) j1 j2)
    have key : (c' = 4 ∧ g' = false) ∨ ((c' == 4) = false ∧ c = 4 ∧ g' = false) ∨ ((c' == 4) = false ∧ (c == 4) = false ∧ c' = 1 ∧ (f.k != 2) = true ∧ g' = false) ∨ ((c' == 4) = false ∧ (c == 4) = false ∧ c' = 1 ∧ (f.k != 2) = false ∧ g' = g) ∨ ((c' == 4) = false ∧ (c == 4) = false ∧ (c' == 1) = false ∧ g' = g) := by
      obtain ⟨j', e, _, hs⟩ := hs
      obtain rfl : j = j' := by omega
      rw [hf] at hs
      by_cases h4 : c' = 4
      · rcases hs with ⟨_, e⟩ | ⟨e, _⟩
        · exact .inl ⟨h4, e⟩
        · exact absurd (.inl h4) e
      · have n4 : (c' == 4) = false := by simpa using h4
        by_cases h5 : c = 4
        · rcases hs with ⟨_, e⟩ | ⟨e, _⟩
          · exact .inr (.inl ⟨n4, h5, e⟩)
          · exact absurd (.inr (.inl h5)) e
        · have n5 : (c == 4) = false := by simpa using h5
          by_cases h6 : c' = 1
          · by_cases h7 : f.k = 2
            · rcases hs with ⟨e, _⟩ | ⟨_, e⟩
              · omega
              · exact .inr (.inr (.inr (.inl ⟨n4, n5, h6, by simpa using h7, e⟩)))
            · rcases hs with ⟨_, e⟩ | ⟨e, _⟩
              · exact .inr (.inr (.inl ⟨n4, n5, h6, by simpa using h7, e⟩))
              · exact absurd (.inr (.inr ⟨h6, h7⟩)) e
          · rcases hs with ⟨e, _⟩ | ⟨_, e⟩
            · omega
            · exact .inr (.inr (.inr (.inr ⟨n4, n5, by simpa using h6, e⟩)))
    clear hs h1 hp hv ht hd hq hv' hd' TT TF F pb qb i1 i2 j1 j2 hf hm
    rcases hmode with ⟨rfl, rfl⟩ | ⟨rfl, rfl⟩ <;> rcases key with ⟨rfl, rfl⟩ | ⟨d1, rfl, rfl⟩ | ⟨d1, d2, rfl, d3, rfl⟩ | ⟨d1, d2, rfl, d3, rfl⟩ | ⟨d1, d2, d3, rfl⟩
    · go_enter Tryd.func7, Tryd.ntmps7
      go_wp2_with fail
      refine (CH.out _ (by first | exact U | exact U.drew | exact U.drewN _)).mono ?_
      rintro _ w1 ⟨rfl, h1⟩
      replace U := Up.trans (by first | exact U | exact U.drew | exact U.drewN _) h1
      clear h1
      clear CH
      go_wp2_with fail
      refine (C1.out _ (by first | exact U | exact U.drew | exact U.drewN _)).mono ?_
      rintro _ w2 ⟨rfl, h2⟩
      replace U := Up.trans (by first | exact U | exact U.drew | exact U.drewN _) h2
      clear h2
      clear C1
      go_wp2_with fail
      refine (C2.out _ (by first | exact U | exact U.drew | exact U.drewN _)).mono ?_
      rintro _ w3 ⟨rfl, h3⟩
      replace U := Up.trans (by first | exact U | exact U.drew | exact U.drewN _) h3
      clear h3
      clear C2
      go_upto_region 9 with fail
      obtain ⟨VX, hVX⟩ : ∃ VX, w3.alloc (.cells #[.int .i64 c, .bool g, u64 m, .int .i64 z] 33) = VX := ⟨_, rfl⟩
      have X : Ob VX w3.heap.size 33 #[.int .i64 c, .bool g, u64 m, .int .i64 z] := by rw [← hVX]; exact Ob.mk_ _ _ _
      have uVX : Up w3 VX := by rw [← hVX]; exact (Up.refl _).alloc _
      rw [hVX]
      clear hVX
      replace U := U.trans uVX
      have X0 := X.get 0
      have X1 := X.get 1
      have X2 := X.get 2
      have X3 := X.get 3
      simp only [List.getElem?_toArray, List.getElem?_cons_zero, List.getElem?_cons_succ] at X0 X1 X2 X3
      go_wp2_with fail
      clear X0 X1 X2 X3
      refine (C3.out _ (by first | exact U | exact U.drew | exact U.drewN _)).mono ?_
      rintro _ w4 ⟨rfl, h4⟩
      replace U := Up.trans (by first | exact U | exact U.drew | exact U.drewN _) h4
      replace X := X.up (Up.trans (by first | exact Up.refl _ | exact (Up.refl _).drew | exact (Up.refl _).drewN _) h4)
      clear h4
      clear C3
      have X0 := X.get 0
      have X1 := X.get 1
      have X2 := X.get 2
      have X3 := X.get 3
      simp only [List.getElem?_toArray, List.getElem?_cons_zero, List.getElem?_cons_succ] at X0 X1 X2 X3
      go_upto_region 10 with fail
      clear X0 X1 X2 X3
      obtain ⟨VY, hVY⟩ : ∃ VY, w4.alloc (.cells #[.int .i64 4, .bool false, u64 m', .int .i64 z'] 33) = VY := ⟨_, rfl⟩
      have Y : Ob VY w4.heap.size 33 #[.int .i64 4, .bool false, u64 m', .int .i64 z'] := by rw [← hVY]; exact Ob.mk_ _ _ _
      have uVY : Up w4 VY := by rw [← hVY]; exact (Up.refl _).alloc _
      rw [hVY]
      clear hVY
      replace U := U.trans uVY
      replace X := X.up uVY
      have X0 := X.get 0
      have X1 := X.get 1
      have X2 := X.get 2
      have X3 := X.get 3
      simp only [List.getElem?_toArray, List.getElem?_cons_zero, List.getElem?_cons_succ] at X0 X1 X2 X3
      have Y0 := Y.get 0
      have Y1 := Y.get 1
      have Y2 := Y.get 2
      have Y3 := Y.get 3
      simp only [List.getElem?_toArray, List.getElem?_cons_zero, List.getElem?_cons_succ] at Y0 Y1 Y2 Y3
      go_wp2_with fail
      clear X0 X1 X2 X3 Y0 Y1 Y2 Y3
      refine (C4.out _ (by first | exact U | exact U.drew | exact U.drewN _)).mono ?_
      rintro _ w5 ⟨rfl, h5⟩
      replace U := Up.trans (by first | exact U | exact U.drew | exact U.drewN _) h5
      replace X := X.up (Up.trans (by first | exact Up.refl _ | exact (Up.refl _).drew | exact (Up.refl _).drewN _) h5)
      replace Y := Y.up (Up.trans (by first | exact Up.refl _ | exact (Up.refl _).drew | exact (Up.refl _).drewN _) h5)
      clear h5
      clear C4
      have X0 := X.get 0
      have X1 := X.get 1
      have X2 := X.get 2
      have X3 := X.get 3
      simp only [List.getElem?_toArray, List.getElem?_cons_zero, List.getElem?_cons_succ] at X0 X1 X2 X3
      have Y0 := Y.get 0
      have Y1 := Y.get 1
      have Y2 := Y.get 2
      have Y3 := Y.get 3
      simp only [List.getElem?_toArray, List.getElem?_cons_zero, List.getElem?_cons_succ] at Y0 Y1 Y2 Y3
      go_upto_region 11 with fail
      clear X0 X1 X2 X3 Y0 Y1 Y2 Y3
      obtain ⟨VF, hVF⟩ : ∃ VF, w5.alloc (.cells #[.int .i64 f.k, .int .i64 f.W, .int .i64 f.m, .int .i64 f.b, .int .u64 f.t, .int .u64 f.n, .int .u64 f.x] 45) = VF := ⟨_, rfl⟩
      have F : Bf VF w5.heap.size 45 f := by rw [← hVF]; exact Bf.mk_ _ _ _
      have uVF : Up w5 VF := by rw [← hVF]; exact (Up.refl _).alloc _
      rw [hVF]
      clear hVF
      replace U := U.trans uVF
      replace X := X.up uVF
      replace Y := Y.up uVF
      have X0 := X.get 0
      have X1 := X.get 1
      have X2 := X.get 2
      have X3 := X.get 3
      simp only [List.getElem?_toArray, List.getElem?_cons_zero, List.getElem?_cons_succ] at X0 X1 X2 X3
      have Y0 := Y.get 0
      have Y1 := Y.get 1
      have Y2 := Y.get 2
      have Y3 := Y.get 3
      simp only [List.getElem?_toArray, List.getElem?_cons_zero, List.getElem?_cons_succ] at Y0 Y1 Y2 Y3
      obtain ⟨F0, F1, F2, F3, F4, F5, F6⟩ := Bf.cs F
      try simp only [Nat.zero_add] at F1 F2 F3 F4 F5 F6
      go_wp2_with fail
      clear X0 X1 X2 X3 Y0 Y1 Y2 Y3 F0 F1 F2 F3 F4 F5 F6
      go_ret
      exact ⟨by first | rfl | simp, by first | exact U | exact U.drew | exact U.drewN _⟩
    · go_enter Tryd.func7, Tryd.ntmps7
      go_wp2_with fail
      refine (CH.out _ (by first | exact U | exact U.drew | exact U.drewN _)).mono ?_
      rintro _ w1 ⟨rfl, h1⟩
      replace U := Up.trans (by first | exact U | exact U.drew | exact U.drewN _) h1
      clear h1
      clear CH
      go_wp2_with fail
      refine (C1.out _ (by first | exact U | exact U.drew | exact U.drewN _)).mono ?_
      rintro _ w2 ⟨rfl, h2⟩
      replace U := Up.trans (by first | exact U | exact U.drew | exact U.drewN _) h2
      clear h2
      clear C1
      go_wp2_with fail
      refine (C2.out _ (by first | exact U | exact U.drew | exact U.drewN _)).mono ?_
      rintro _ w3 ⟨rfl, h3⟩
      replace U := Up.trans (by first | exact U | exact U.drew | exact U.drewN _) h3
      clear h3
      clear C2
      go_upto_region 9 with fail
      obtain ⟨VX, hVX⟩ : ∃ VX, w3.alloc (.cells #[.int .i64 4, .bool g, u64 m, .int .i64 z] 33) = VX := ⟨_, rfl⟩
      have X : Ob VX w3.heap.size 33 #[.int .i64 4, .bool g, u64 m, .int .i64 z] := by rw [← hVX]; exact Ob.mk_ _ _ _
      have uVX : Up w3 VX := by rw [← hVX]; exact (Up.refl _).alloc _
      rw [hVX]
      clear hVX
      replace U := U.trans uVX
      have X0 := X.get 0
      have X1 := X.get 1
      have X2 := X.get 2
      have X3 := X.get 3
      simp only [List.getElem?_toArray, List.getElem?_cons_zero, List.getElem?_cons_succ] at X0 X1 X2 X3
      go_wp2_with fail
      clear X0 X1 X2 X3
      refine (C3.out _ (by first | exact U | exact U.drew | exact U.drewN _)).mono ?_
      rintro _ w4 ⟨rfl, h4⟩
      replace U := Up.trans (by first | exact U | exact U.drew | exact U.drewN _) h4
      replace X := X.up (Up.trans (by first | exact Up.refl _ | exact (Up.refl _).drew | exact (Up.refl _).drewN _) h4)
      clear h4
      clear C3
      have X0 := X.get 0
      have X1 := X.get 1
      have X2 := X.get 2
      have X3 := X.get 3
      simp only [List.getElem?_toArray, List.getElem?_cons_zero, List.getElem?_cons_succ] at X0 X1 X2 X3
      go_upto_region 10 with fail
      clear X0 X1 X2 X3
      obtain ⟨VY, hVY⟩ : ∃ VY, w4.alloc (.cells #[.int .i64 c', .bool false, u64 m', .int .i64 z'] 33) = VY := ⟨_, rfl⟩
      have Y : Ob VY w4.heap.size 33 #[.int .i64 c', .bool false, u64 m', .int .i64 z'] := by rw [← hVY]; exact Ob.mk_ _ _ _
      have uVY : Up w4 VY := by rw [← hVY]; exact (Up.refl _).alloc _
      rw [hVY]
      clear hVY
      replace U := U.trans uVY
      replace X := X.up uVY
      have X0 := X.get 0
      have X1 := X.get 1
      have X2 := X.get 2
      have X3 := X.get 3
      simp only [List.getElem?_toArray, List.getElem?_cons_zero, List.getElem?_cons_succ] at X0 X1 X2 X3
      have Y0 := Y.get 0
      have Y1 := Y.get 1
      have Y2 := Y.get 2
      have Y3 := Y.get 3
      simp only [List.getElem?_toArray, List.getElem?_cons_zero, List.getElem?_cons_succ] at Y0 Y1 Y2 Y3
      go_wp2_with fail
      clear X0 X1 X2 X3 Y0 Y1 Y2 Y3
      refine (C4.out _ (by first | exact U | exact U.drew | exact U.drewN _)).mono ?_
      rintro _ w5 ⟨rfl, h5⟩
      replace U := Up.trans (by first | exact U | exact U.drew | exact U.drewN _) h5
      replace X := X.up (Up.trans (by first | exact Up.refl _ | exact (Up.refl _).drew | exact (Up.refl _).drewN _) h5)
      replace Y := Y.up (Up.trans (by first | exact Up.refl _ | exact (Up.refl _).drew | exact (Up.refl _).drewN _) h5)
      clear h5
      clear C4
      have X0 := X.get 0
      have X1 := X.get 1
      have X2 := X.get 2
      have X3 := X.get 3
      simp only [List.getElem?_toArray, List.getElem?_cons_zero, List.getElem?_cons_succ] at X0 X1 X2 X3
      have Y0 := Y.get 0
      have Y1 := Y.get 1
      have Y2 := Y.get 2
      have Y3 := Y.get 3
      simp only [List.getElem?_toArray, List.getElem?_cons_zero, List.getElem?_cons_succ] at Y0 Y1 Y2 Y3
      go_upto_region 11 with fail
      clear X0 X1 X2 X3 Y0 Y1 Y2 Y3
      obtain ⟨VF, hVF⟩ : ∃ VF, w5.alloc (.cells #[.int .i64 f.k, .int .i64 f.W, .int .i64 f.m, .int .i64 f.b, .int .u64 f.t, .int .u64 f.n, .int .u64 f.x] 45) = VF := ⟨_, rfl⟩
      have F : Bf VF w5.heap.size 45 f := by rw [← hVF]; exact Bf.mk_ _ _ _
      have uVF : Up w5 VF := by rw [← hVF]; exact (Up.refl _).alloc _
      rw [hVF]
      clear hVF
      replace U := U.trans uVF
      replace X := X.up uVF
      replace Y := Y.up uVF
      have X0 := X.get 0
      have X1 := X.get 1
      have X2 := X.get 2
      have X3 := X.get 3
      simp only [List.getElem?_toArray, List.getElem?_cons_zero, List.getElem?_cons_succ] at X0 X1 X2 X3
      have Y0 := Y.get 0
      have Y1 := Y.get 1
      have Y2 := Y.get 2
      have Y3 := Y.get 3
      simp only [List.getElem?_toArray, List.getElem?_cons_zero, List.getElem?_cons_succ] at Y0 Y1 Y2 Y3
      obtain ⟨F0, F1, F2, F3, F4, F5, F6⟩ := Bf.cs F
      try simp only [Nat.zero_add] at F1 F2 F3 F4 F5 F6
      go_wp2_with fail
      clear X0 X1 X2 X3 Y0 Y1 Y2 Y3 F0 F1 F2 F3 F4 F5 F6
      go_ret
      exact ⟨by first | rfl | simp, by first | exact U | exact U.drew | exact U.drewN _⟩
    · go_enter Tryd.func7, Tryd.ntmps7
      go_wp2_with fail
      refine (CH.out _ (by first | exact U | exact U.drew | exact U.drewN _)).mono ?_
      rintro _ w1 ⟨rfl, h1⟩
      replace U := Up.trans (by first | exact U | exact U.drew | exact U.drewN _) h1
      clear h1
      clear CH
      go_wp2_with fail
      refine (C1.out _ (by first | exact U | exact U.drew | exact U.drewN _)).mono ?_
      rintro _ w2 ⟨rfl, h2⟩
      replace U := Up.trans (by first | exact U | exact U.drew | exact U.drewN _) h2
      clear h2
      clear C1
      go_wp2_with fail
      refine (C2.out _ (by first | exact U | exact U.drew | exact U.drewN _)).mono ?_
      rintro _ w3 ⟨rfl, h3⟩
      replace U := Up.trans (by first | exact U | exact U.drew | exact U.drewN _) h3
      clear h3
      clear C2
      go_upto_region 9 with fail
      obtain ⟨VX, hVX⟩ : ∃ VX, w3.alloc (.cells #[.int .i64 c, .bool g, u64 m, .int .i64 z] 33) = VX := ⟨_, rfl⟩
      have X : Ob VX w3.heap.size 33 #[.int .i64 c, .bool g, u64 m, .int .i64 z] := by rw [← hVX]; exact Ob.mk_ _ _ _
      have uVX : Up w3 VX := by rw [← hVX]; exact (Up.refl _).alloc _
      rw [hVX]
      clear hVX
      replace U := U.trans uVX
      have X0 := X.get 0
      have X1 := X.get 1
      have X2 := X.get 2
      have X3 := X.get 3
      simp only [List.getElem?_toArray, List.getElem?_cons_zero, List.getElem?_cons_succ] at X0 X1 X2 X3
      go_wp2_with fail
      clear X0 X1 X2 X3
      refine (C3.out _ (by first | exact U | exact U.drew | exact U.drewN _)).mono ?_
      rintro _ w4 ⟨rfl, h4⟩
      replace U := Up.trans (by first | exact U | exact U.drew | exact U.drewN _) h4
      replace X := X.up (Up.trans (by first | exact Up.refl _ | exact (Up.refl _).drew | exact (Up.refl _).drewN _) h4)
      clear h4
      clear C3
      have X0 := X.get 0
      have X1 := X.get 1
      have X2 := X.get 2
      have X3 := X.get 3
      simp only [List.getElem?_toArray, List.getElem?_cons_zero, List.getElem?_cons_succ] at X0 X1 X2 X3
      go_upto_region 10 with fail
      clear X0 X1 X2 X3
      obtain ⟨VY, hVY⟩ : ∃ VY, w4.alloc (.cells #[.int .i64 1, .bool false, u64 m', .int .i64 z'] 33) = VY := ⟨_, rfl⟩
      have Y : Ob VY w4.heap.size 33 #[.int .i64 1, .bool false, u64 m', .int .i64 z'] := by rw [← hVY]; exact Ob.mk_ _ _ _
      have uVY : Up w4 VY := by rw [← hVY]; exact (Up.refl _).alloc _
      rw [hVY]
      clear hVY
      replace U := U.trans uVY
      replace X := X.up uVY
      have X0 := X.get 0
      have X1 := X.get 1
      have X2 := X.get 2
      have X3 := X.get 3
      simp only [List.getElem?_toArray, List.getElem?_cons_zero, List.getElem?_cons_succ] at X0 X1 X2 X3
      have Y0 := Y.get 0
      have Y1 := Y.get 1
      have Y2 := Y.get 2
      have Y3 := Y.get 3
      simp only [List.getElem?_toArray, List.getElem?_cons_zero, List.getElem?_cons_succ] at Y0 Y1 Y2 Y3
      go_wp2_with fail
      clear X0 X1 X2 X3 Y0 Y1 Y2 Y3
      refine (C4.out _ (by first | exact U | exact U.drew | exact U.drewN _)).mono ?_
      rintro _ w5 ⟨rfl, h5⟩
      replace U := Up.trans (by first | exact U | exact U.drew | exact U.drewN _) h5
      replace X := X.up (Up.trans (by first | exact Up.refl _ | exact (Up.refl _).drew | exact (Up.refl _).drewN _) h5)
      replace Y := Y.up (Up.trans (by first | exact Up.refl _ | exact (Up.refl _).drew | exact (Up.refl _).drewN _) h5)
      clear h5
      clear C4
      have X0 := X.get 0
      have X1 := X.get 1
      have X2 := X.get 2
      have X3 := X.get 3
      simp only [List.getElem?_toArray, List.getElem?_cons_zero, List.getElem?_cons_succ] at X0 X1 X2 X3
      have Y0 := Y.get 0
      have Y1 := Y.get 1
      have Y2 := Y.get 2
      have Y3 := Y.get 3
      simp only [List.getElem?_toArray, List.getElem?_cons_zero, List.getElem?_cons_succ] at Y0 Y1 Y2 Y3
      go_upto_region 11 with fail
      clear X0 X1 X2 X3 Y0 Y1 Y2 Y3
      obtain ⟨VF, hVF⟩ : ∃ VF, w5.alloc (.cells #[.int .i64 f.k, .int .i64 f.W, .int .i64 f.m, .int .i64 f.b, .int .u64 f.t, .int .u64 f.n, .int .u64 f.x] 45) = VF := ⟨_, rfl⟩
      have F : Bf VF w5.heap.size 45 f := by rw [← hVF]; exact Bf.mk_ _ _ _
      have uVF : Up w5 VF := by rw [← hVF]; exact (Up.refl _).alloc _
      rw [hVF]
      clear hVF
      replace U := U.trans uVF
      replace X := X.up uVF
      replace Y := Y.up uVF
      have X0 := X.get 0
      have X1 := X.get 1
      have X2 := X.get 2
      have X3 := X.get 3
      simp only [List.getElem?_toArray, List.getElem?_cons_zero, List.getElem?_cons_succ] at X0 X1 X2 X3
      have Y0 := Y.get 0
      have Y1 := Y.get 1
      have Y2 := Y.get 2
      have Y3 := Y.get 3
      simp only [List.getElem?_toArray, List.getElem?_cons_zero, List.getElem?_cons_succ] at Y0 Y1 Y2 Y3
      obtain ⟨F0, F1, F2, F3, F4, F5, F6⟩ := Bf.cs F
      try simp only [Nat.zero_add] at F1 F2 F3 F4 F5 F6
      go_wp2_with fail
      clear X0 X1 X2 X3 Y0 Y1 Y2 Y3 F0 F1 F2 F3 F4 F5 F6
      go_ret
      exact ⟨by first | rfl | simp, by first | exact U | exact U.drew | exact U.drewN _⟩
    · go_enter Tryd.func7, Tryd.ntmps7
      go_wp2_with fail
      refine (CH.out _ (by first | exact U | exact U.drew | exact U.drewN _)).mono ?_
      rintro _ w1 ⟨rfl, h1⟩
      replace U := Up.trans (by first | exact U | exact U.drew | exact U.drewN _) h1
      clear h1
      clear CH
      go_wp2_with fail
      refine (C1.out _ (by first | exact U | exact U.drew | exact U.drewN _)).mono ?_
      rintro _ w2 ⟨rfl, h2⟩
      replace U := Up.trans (by first | exact U | exact U.drew | exact U.drewN _) h2
      clear h2
      clear C1
      go_wp2_with fail
      refine (C2.out _ (by first | exact U | exact U.drew | exact U.drewN _)).mono ?_
      rintro _ w3 ⟨rfl, h3⟩
      replace U := Up.trans (by first | exact U | exact U.drew | exact U.drewN _) h3
      clear h3
      clear C2
      go_upto_region 9 with fail
      obtain ⟨VX, hVX⟩ : ∃ VX, w3.alloc (.cells #[.int .i64 c, .bool g', u64 m, .int .i64 z] 33) = VX := ⟨_, rfl⟩
      have X : Ob VX w3.heap.size 33 #[.int .i64 c, .bool g', u64 m, .int .i64 z] := by rw [← hVX]; exact Ob.mk_ _ _ _
      have uVX : Up w3 VX := by rw [← hVX]; exact (Up.refl _).alloc _
      rw [hVX]
      clear hVX
      replace U := U.trans uVX
      have X0 := X.get 0
      have X1 := X.get 1
      have X2 := X.get 2
      have X3 := X.get 3
      simp only [List.getElem?_toArray, List.getElem?_cons_zero, List.getElem?_cons_succ] at X0 X1 X2 X3
      go_wp2_with fail
      clear X0 X1 X2 X3
      refine (C3.out _ (by first | exact U | exact U.drew | exact U.drewN _)).mono ?_
      rintro _ w4 ⟨rfl, h4⟩
      replace U := Up.trans (by first | exact U | exact U.drew | exact U.drewN _) h4
      replace X := X.up (Up.trans (by first | exact Up.refl _ | exact (Up.refl _).drew | exact (Up.refl _).drewN _) h4)
      clear h4
      clear C3
      have X0 := X.get 0
      have X1 := X.get 1
      have X2 := X.get 2
      have X3 := X.get 3
      simp only [List.getElem?_toArray, List.getElem?_cons_zero, List.getElem?_cons_succ] at X0 X1 X2 X3
      go_upto_region 10 with fail
      clear X0 X1 X2 X3
      obtain ⟨VY, hVY⟩ : ∃ VY, w4.alloc (.cells #[.int .i64 1, .bool g', u64 m', .int .i64 z'] 33) = VY := ⟨_, rfl⟩
      have Y : Ob VY w4.heap.size 33 #[.int .i64 1, .bool g', u64 m', .int .i64 z'] := by rw [← hVY]; exact Ob.mk_ _ _ _
      have uVY : Up w4 VY := by rw [← hVY]; exact (Up.refl _).alloc _
      rw [hVY]
      clear hVY
      replace U := U.trans uVY
      replace X := X.up uVY
      have X0 := X.get 0
      have X1 := X.get 1
      have X2 := X.get 2
      have X3 := X.get 3
      simp only [List.getElem?_toArray, List.getElem?_cons_zero, List.getElem?_cons_succ] at X0 X1 X2 X3
      have Y0 := Y.get 0
      have Y1 := Y.get 1
      have Y2 := Y.get 2
      have Y3 := Y.get 3
      simp only [List.getElem?_toArray, List.getElem?_cons_zero, List.getElem?_cons_succ] at Y0 Y1 Y2 Y3
      go_wp2_with fail
      clear X0 X1 X2 X3 Y0 Y1 Y2 Y3
      refine (C4.out _ (by first | exact U | exact U.drew | exact U.drewN _)).mono ?_
      rintro _ w5 ⟨rfl, h5⟩
      replace U := Up.trans (by first | exact U | exact U.drew | exact U.drewN _) h5
      replace X := X.up (Up.trans (by first | exact Up.refl _ | exact (Up.refl _).drew | exact (Up.refl _).drewN _) h5)
      replace Y := Y.up (Up.trans (by first | exact Up.refl _ | exact (Up.refl _).drew | exact (Up.refl _).drewN _) h5)
      clear h5
      clear C4
      have X0 := X.get 0
      have X1 := X.get 1
      have X2 := X.get 2
      have X3 := X.get 3
      simp only [List.getElem?_toArray, List.getElem?_cons_zero, List.getElem?_cons_succ] at X0 X1 X2 X3
      have Y0 := Y.get 0
      have Y1 := Y.get 1
      have Y2 := Y.get 2
      have Y3 := Y.get 3
      simp only [List.getElem?_toArray, List.getElem?_cons_zero, List.getElem?_cons_succ] at Y0 Y1 Y2 Y3
      go_upto_region 11 with fail
      clear X0 X1 X2 X3 Y0 Y1 Y2 Y3
      obtain ⟨VF, hVF⟩ : ∃ VF, w5.alloc (.cells #[.int .i64 f.k, .int .i64 f.W, .int .i64 f.m, .int .i64 f.b, .int .u64 f.t, .int .u64 f.n, .int .u64 f.x] 45) = VF := ⟨_, rfl⟩
      have F : Bf VF w5.heap.size 45 f := by rw [← hVF]; exact Bf.mk_ _ _ _
      have uVF : Up w5 VF := by rw [← hVF]; exact (Up.refl _).alloc _
      rw [hVF]
      clear hVF
      replace U := U.trans uVF
      replace X := X.up uVF
      replace Y := Y.up uVF
      have X0 := X.get 0
      have X1 := X.get 1
      have X2 := X.get 2
      have X3 := X.get 3
      simp only [List.getElem?_toArray, List.getElem?_cons_zero, List.getElem?_cons_succ] at X0 X1 X2 X3
      have Y0 := Y.get 0
      have Y1 := Y.get 1
      have Y2 := Y.get 2
      have Y3 := Y.get 3
      simp only [List.getElem?_toArray, List.getElem?_cons_zero, List.getElem?_cons_succ] at Y0 Y1 Y2 Y3
      obtain ⟨F0, F1, F2, F3, F4, F5, F6⟩ := Bf.cs F
      try simp only [Nat.zero_add] at F1 F2 F3 F4 F5 F6
      go_wp2_with fail
      clear X0 X1 X2 X3 Y0 Y1 Y2 Y3 F0 F1 F2 F3 F4 F5 F6
      go_ret
      exact ⟨by first | rfl | simp, by first | exact U | exact U.drew | exact U.drewN _⟩
    · go_enter Tryd.func7, Tryd.ntmps7
      go_wp2_with fail
      refine (CH.out _ (by first | exact U | exact U.drew | exact U.drewN _)).mono ?_
      rintro _ w1 ⟨rfl, h1⟩
      replace U := Up.trans (by first | exact U | exact U.drew | exact U.drewN _) h1
      clear h1
      clear CH
      go_wp2_with fail
      refine (C1.out _ (by first | exact U | exact U.drew | exact U.drewN _)).mono ?_
      rintro _ w2 ⟨rfl, h2⟩
      replace U := Up.trans (by first | exact U | exact U.drew | exact U.drewN _) h2
      clear h2
      clear C1
      go_wp2_with fail
      refine (C2.out _ (by first | exact U | exact U.drew | exact U.drewN _)).mono ?_
      rintro _ w3 ⟨rfl, h3⟩
      replace U := Up.trans (by first | exact U | exact U.drew | exact U.drewN _) h3
      clear h3
      clear C2
      go_upto_region 9 with fail
      obtain ⟨VX, hVX⟩ : ∃ VX, w3.alloc (.cells #[.int .i64 c, .bool g', u64 m, .int .i64 z] 33) = VX := ⟨_, rfl⟩
      have X : Ob VX w3.heap.size 33 #[.int .i64 c, .bool g', u64 m, .int .i64 z] := by rw [← hVX]; exact Ob.mk_ _ _ _
      have uVX : Up w3 VX := by rw [← hVX]; exact (Up.refl _).alloc _
      rw [hVX]
      clear hVX
      replace U := U.trans uVX
      have X0 := X.get 0
      have X1 := X.get 1
      have X2 := X.get 2
      have X3 := X.get 3
      simp only [List.getElem?_toArray, List.getElem?_cons_zero, List.getElem?_cons_succ] at X0 X1 X2 X3
      go_wp2_with fail
      clear X0 X1 X2 X3
      refine (C3.out _ (by first | exact U | exact U.drew | exact U.drewN _)).mono ?_
      rintro _ w4 ⟨rfl, h4⟩
      replace U := Up.trans (by first | exact U | exact U.drew | exact U.drewN _) h4
      replace X := X.up (Up.trans (by first | exact Up.refl _ | exact (Up.refl _).drew | exact (Up.refl _).drewN _) h4)
      clear h4
      clear C3
      have X0 := X.get 0
      have X1 := X.get 1
      have X2 := X.get 2
      have X3 := X.get 3
      simp only [List.getElem?_toArray, List.getElem?_cons_zero, List.getElem?_cons_succ] at X0 X1 X2 X3
      go_upto_region 10 with fail
      clear X0 X1 X2 X3
      obtain ⟨VY, hVY⟩ : ∃ VY, w4.alloc (.cells #[.int .i64 c', .bool g', u64 m', .int .i64 z'] 33) = VY := ⟨_, rfl⟩
      have Y : Ob VY w4.heap.size 33 #[.int .i64 c', .bool g', u64 m', .int .i64 z'] := by rw [← hVY]; exact Ob.mk_ _ _ _
      have uVY : Up w4 VY := by rw [← hVY]; exact (Up.refl _).alloc _
      rw [hVY]
      clear hVY
      replace U := U.trans uVY
      replace X := X.up uVY
      have X0 := X.get 0
      have X1 := X.get 1
      have X2 := X.get 2
      have X3 := X.get 3
      simp only [List.getElem?_toArray, List.getElem?_cons_zero, List.getElem?_cons_succ] at X0 X1 X2 X3
      have Y0 := Y.get 0
      have Y1 := Y.get 1
      have Y2 := Y.get 2
      have Y3 := Y.get 3
      simp only [List.getElem?_toArray, List.getElem?_cons_zero, List.getElem?_cons_succ] at Y0 Y1 Y2 Y3
      go_wp2_with fail
      clear X0 X1 X2 X3 Y0 Y1 Y2 Y3
      refine (C4.out _ (by first | exact U | exact U.drew | exact U.drewN _)).mono ?_
      rintro _ w5 ⟨rfl, h5⟩
      replace U := Up.trans (by first | exact U | exact U.drew | exact U.drewN _) h5
      replace X := X.up (Up.trans (by first | exact Up.refl _ | exact (Up.refl _).drew | exact (Up.refl _).drewN _) h5)
      replace Y := Y.up (Up.trans (by first | exact Up.refl _ | exact (Up.refl _).drew | exact (Up.refl _).drewN _) h5)
      clear h5
      clear C4
      have X0 := X.get 0
      have X1 := X.get 1
      have X2 := X.get 2
      have X3 := X.get 3
      simp only [List.getElem?_toArray, List.getElem?_cons_zero, List.getElem?_cons_succ] at X0 X1 X2 X3
      have Y0 := Y.get 0
      have Y1 := Y.get 1
      have Y2 := Y.get 2
      have Y3 := Y.get 3
      simp only [List.getElem?_toArray, List.getElem?_cons_zero, List.getElem?_cons_succ] at Y0 Y1 Y2 Y3
      go_upto_region 11 with fail
      clear X0 X1 X2 X3 Y0 Y1 Y2 Y3
      obtain ⟨VF, hVF⟩ : ∃ VF, w5.alloc (.cells #[.int .i64 f.k, .int .i64 f.W, .int .i64 f.m, .int .i64 f.b, .int .u64 f.t, .int .u64 f.n, .int .u64 f.x] 45) = VF := ⟨_, rfl⟩
      have F : Bf VF w5.heap.size 45 f := by rw [← hVF]; exact Bf.mk_ _ _ _
      have uVF : Up w5 VF := by rw [← hVF]; exact (Up.refl _).alloc _
      rw [hVF]
      clear hVF
      replace U := U.trans uVF
      replace X := X.up uVF
      replace Y := Y.up uVF
      have X0 := X.get 0
      have X1 := X.get 1
      have X2 := X.get 2
      have X3 := X.get 3
      simp only [List.getElem?_toArray, List.getElem?_cons_zero, List.getElem?_cons_succ] at X0 X1 X2 X3
      have Y0 := Y.get 0
      have Y1 := Y.get 1
      have Y2 := Y.get 2
      have Y3 := Y.get 3
      simp only [List.getElem?_toArray, List.getElem?_cons_zero, List.getElem?_cons_succ] at Y0 Y1 Y2 Y3
      obtain ⟨F0, F1, F2, F3, F4, F5, F6⟩ := Bf.cs F
      try simp only [Nat.zero_add] at F1 F2 F3 F4 F5 F6
      go_wp2_with fail
      clear X0 X1 X2 X3 Y0 Y1 Y2 Y3 F0 F1 F2 F3 F4 F5 F6
      go_ret
      exact ⟨by first | rfl | simp, by first | exact U | exact U.drew | exact U.drewN _⟩
    · go_enter Tryd.func7, Tryd.ntmps7
      go_wp2_with fail
      refine (CH.out _ (by first | exact U | exact U.drew | exact U.drewN _)).mono ?_
      rintro _ w1 ⟨rfl, h1⟩
      replace U := Up.trans (by first | exact U | exact U.drew | exact U.drewN _) h1
      clear h1
      clear CH
      go_wp2_with fail
      refine (C1.out _ (by first | exact U | exact U.drew | exact U.drewN _)).mono ?_
      rintro _ w2 ⟨rfl, h2⟩
      replace U := Up.trans (by first | exact U | exact U.drew | exact U.drewN _) h2
      clear h2
      clear C1
      go_wp2_with fail
      refine (C2.out _ (by first | exact U | exact U.drew | exact U.drewN _)).mono ?_
      rintro _ w3 ⟨rfl, h3⟩
      replace U := Up.trans (by first | exact U | exact U.drew | exact U.drewN _) h3
      clear h3
      clear C2
      go_upto_region 9 with fail
      obtain ⟨VX, hVX⟩ : ∃ VX, w3.alloc (.cells #[.int .i64 c, .bool g, u64 m, .int .i64 z] 33) = VX := ⟨_, rfl⟩
      have X : Ob VX w3.heap.size 33 #[.int .i64 c, .bool g, u64 m, .int .i64 z] := by rw [← hVX]; exact Ob.mk_ _ _ _
      have uVX : Up w3 VX := by rw [← hVX]; exact (Up.refl _).alloc _
      rw [hVX]
      clear hVX
      replace U := U.trans uVX
      have X0 := X.get 0
      have X1 := X.get 1
      have X2 := X.get 2
      have X3 := X.get 3
      simp only [List.getElem?_toArray, List.getElem?_cons_zero, List.getElem?_cons_succ] at X0 X1 X2 X3
      go_wp2_with fail
      clear X0 X1 X2 X3
      refine (C3.out _ (by first | exact U | exact U.drew | exact U.drewN _)).mono ?_
      rintro _ w4 ⟨rfl, h4⟩
      replace U := Up.trans (by first | exact U | exact U.drew | exact U.drewN _) h4
      replace X := X.up (Up.trans (by first | exact Up.refl _ | exact (Up.refl _).drew | exact (Up.refl _).drewN _) h4)
      clear h4
      clear C3
      have X0 := X.get 0
      have X1 := X.get 1
      have X2 := X.get 2
      have X3 := X.get 3
      simp only [List.getElem?_toArray, List.getElem?_cons_zero, List.getElem?_cons_succ] at X0 X1 X2 X3
      go_upto_region 10 with fail
      clear X0 X1 X2 X3
      obtain ⟨VY, hVY⟩ : ∃ VY, w4.alloc (.cells #[.int .i64 4, .bool false, u64 m', .int .i64 z'] 33) = VY := ⟨_, rfl⟩
      have Y : Ob VY w4.heap.size 33 #[.int .i64 4, .bool false, u64 m', .int .i64 z'] := by rw [← hVY]; exact Ob.mk_ _ _ _
      have uVY : Up w4 VY := by rw [← hVY]; exact (Up.refl _).alloc _
      rw [hVY]
      clear hVY
      replace U := U.trans uVY
      replace X := X.up uVY
      have X0 := X.get 0
      have X1 := X.get 1
      have X2 := X.get 2
      have X3 := X.get 3
      simp only [List.getElem?_toArray, List.getElem?_cons_zero, List.getElem?_cons_succ] at X0 X1 X2 X3
      have Y0 := Y.get 0
      have Y1 := Y.get 1
      have Y2 := Y.get 2
      have Y3 := Y.get 3
      simp only [List.getElem?_toArray, List.getElem?_cons_zero, List.getElem?_cons_succ] at Y0 Y1 Y2 Y3
      go_wp2_with fail
      clear X0 X1 X2 X3 Y0 Y1 Y2 Y3
      refine (C4.out _ (by first | exact U | exact U.drew | exact U.drewN _)).mono ?_
      rintro _ w5 ⟨rfl, h5⟩
      replace U := Up.trans (by first | exact U | exact U.drew | exact U.drewN _) h5
      replace X := X.up (Up.trans (by first | exact Up.refl _ | exact (Up.refl _).drew | exact (Up.refl _).drewN _) h5)
      replace Y := Y.up (Up.trans (by first | exact Up.refl _ | exact (Up.refl _).drew | exact (Up.refl _).drewN _) h5)
      clear h5
      clear C4
      have X0 := X.get 0
      have X1 := X.get 1
      have X2 := X.get 2
      have X3 := X.get 3
      simp only [List.getElem?_toArray, List.getElem?_cons_zero, List.getElem?_cons_succ] at X0 X1 X2 X3
      have Y0 := Y.get 0
      have Y1 := Y.get 1
      have Y2 := Y.get 2
      have Y3 := Y.get 3
      simp only [List.getElem?_toArray, List.getElem?_cons_zero, List.getElem?_cons_succ] at Y0 Y1 Y2 Y3
      go_upto_region 11 with fail
      clear X0 X1 X2 X3 Y0 Y1 Y2 Y3
      obtain ⟨VF, hVF⟩ : ∃ VF, w5.alloc (.cells #[.int .i64 f.k, .int .i64 f.W, .int .i64 f.m, .int .i64 f.b, .int .u64 f.t, .int .u64 f.n, .int .u64 f.x] 45) = VF := ⟨_, rfl⟩
      have F : Bf VF w5.heap.size 45 f := by rw [← hVF]; exact Bf.mk_ _ _ _
      have uVF : Up w5 VF := by rw [← hVF]; exact (Up.refl _).alloc _
      rw [hVF]
      clear hVF
      replace U := U.trans uVF
      replace X := X.up uVF
      replace Y := Y.up uVF
      have X0 := X.get 0
      have X1 := X.get 1
      have X2 := X.get 2
      have X3 := X.get 3
      simp only [List.getElem?_toArray, List.getElem?_cons_zero, List.getElem?_cons_succ] at X0 X1 X2 X3
      have Y0 := Y.get 0
      have Y1 := Y.get 1
      have Y2 := Y.get 2
      have Y3 := Y.get 3
      simp only [List.getElem?_toArray, List.getElem?_cons_zero, List.getElem?_cons_succ] at Y0 Y1 Y2 Y3
      obtain ⟨F0, F1, F2, F3, F4, F5, F6⟩ := Bf.cs F
      try simp only [Nat.zero_add] at F1 F2 F3 F4 F5 F6
      go_wp2_with fail
      clear X0 X1 X2 X3 Y0 Y1 Y2 Y3 F0 F1 F2 F3 F4 F5 F6
      go_ret
      exact ⟨by first | rfl | simp, by first | exact U | exact U.drew | exact U.drewN _⟩
    · go_enter Tryd.func7, Tryd.ntmps7
      go_wp2_with fail
      refine (CH.out _ (by first | exact U | exact U.drew | exact U.drewN _)).mono ?_
      rintro _ w1 ⟨rfl, h1⟩
      replace U := Up.trans (by first | exact U | exact U.drew | exact U.drewN _) h1
      clear h1
      clear CH
      go_wp2_with fail
      refine (C1.out _ (by first | exact U | exact U.drew | exact U.drewN _)).mono ?_
      rintro _ w2 ⟨rfl, h2⟩
      replace U := Up.trans (by first | exact U | exact U.drew | exact U.drewN _) h2
      clear h2
      clear C1
      go_wp2_with fail
      refine (C2.out _ (by first | exact U | exact U.drew | exact U.drewN _)).mono ?_
      rintro _ w3 ⟨rfl, h3⟩
      replace U := Up.trans (by first | exact U | exact U.drew | exact U.drewN _) h3
      clear h3
      clear C2
      go_upto_region 9 with fail
      obtain ⟨VX, hVX⟩ : ∃ VX, w3.alloc (.cells #[.int .i64 4, .bool g, u64 m, .int .i64 z] 33) = VX := ⟨_, rfl⟩
      have X : Ob VX w3.heap.size 33 #[.int .i64 4, .bool g, u64 m, .int .i64 z] := by rw [← hVX]; exact Ob.mk_ _ _ _
      have uVX : Up w3 VX := by rw [← hVX]; exact (Up.refl _).alloc _
      rw [hVX]
      clear hVX
      replace U := U.trans uVX
      have X0 := X.get 0
      have X1 := X.get 1
      have X2 := X.get 2
      have X3 := X.get 3
      simp only [List.getElem?_toArray, List.getElem?_cons_zero, List.getElem?_cons_succ] at X0 X1 X2 X3
      go_wp2_with fail
      clear X0 X1 X2 X3
      refine (C3.out _ (by first | exact U | exact U.drew | exact U.drewN _)).mono ?_
      rintro _ w4 ⟨rfl, h4⟩
      replace U := Up.trans (by first | exact U | exact U.drew | exact U.drewN _) h4
      replace X := X.up (Up.trans (by first | exact Up.refl _ | exact (Up.refl _).drew | exact (Up.refl _).drewN _) h4)
      clear h4
      clear C3
      have X0 := X.get 0
      have X1 := X.get 1
      have X2 := X.get 2
      have X3 := X.get 3
      simp only [List.getElem?_toArray, List.getElem?_cons_zero, List.getElem?_cons_succ] at X0 X1 X2 X3
      go_upto_region 10 with fail
      clear X0 X1 X2 X3
      obtain ⟨VY, hVY⟩ : ∃ VY, w4.alloc (.cells #[.int .i64 c', .bool false, u64 m', .int .i64 z'] 33) = VY := ⟨_, rfl⟩
      have Y : Ob VY w4.heap.size 33 #[.int .i64 c', .bool false, u64 m', .int .i64 z'] := by rw [← hVY]; exact Ob.mk_ _ _ _
      have uVY : Up w4 VY := by rw [← hVY]; exact (Up.refl _).alloc _
      rw [hVY]
      clear hVY
      replace U := U.trans uVY
      replace X := X.up uVY
      have X0 := X.get 0
      have X1 := X.get 1
      have X2 := X.get 2
      have X3 := X.get 3
      simp only [List.getElem?_toArray, List.getElem?_cons_zero, List.getElem?_cons_succ] at X0 X1 X2 X3
      have Y0 := Y.get 0
      have Y1 := Y.get 1
      have Y2 := Y.get 2
      have Y3 := Y.get 3
      simp only [List.getElem?_toArray, List.getElem?_cons_zero, List.getElem?_cons_succ] at Y0 Y1 Y2 Y3
      go_wp2_with fail
      clear X0 X1 X2 X3 Y0 Y1 Y2 Y3
      refine (C4.out _ (by first | exact U | exact U.drew | exact U.drewN _)).mono ?_
      rintro _ w5 ⟨rfl, h5⟩
      replace U := Up.trans (by first | exact U | exact U.drew | exact U.drewN _) h5
      replace X := X.up (Up.trans (by first | exact Up.refl _ | exact (Up.refl _).drew | exact (Up.refl _).drewN _) h5)
      replace Y := Y.up (Up.trans (by first | exact Up.refl _ | exact (Up.refl _).drew | exact (Up.refl _).drewN _) h5)
      clear h5
      clear C4
      have X0 := X.get 0
      have X1 := X.get 1
      have X2 := X.get 2
      have X3 := X.get 3
      simp only [List.getElem?_toArray, List.getElem?_cons_zero, List.getElem?_cons_succ] at X0 X1 X2 X3
      have Y0 := Y.get 0
      have Y1 := Y.get 1
      have Y2 := Y.get 2
      have Y3 := Y.get 3
      simp only [List.getElem?_toArray, List.getElem?_cons_zero, List.getElem?_cons_succ] at Y0 Y1 Y2 Y3
      go_upto_region 11 with fail
      clear X0 X1 X2 X3 Y0 Y1 Y2 Y3
      obtain ⟨VF, hVF⟩ : ∃ VF, w5.alloc (.cells #[.int .i64 f.k, .int .i64 f.W, .int .i64 f.m, .int .i64 f.b, .int .u64 f.t, .int .u64 f.n, .int .u64 f.x] 45) = VF := ⟨_, rfl⟩
      have F : Bf VF w5.heap.size 45 f := by rw [← hVF]; exact Bf.mk_ _ _ _
      have uVF : Up w5 VF := by rw [← hVF]; exact (Up.refl _).alloc _
      rw [hVF]
      clear hVF
      replace U := U.trans uVF
      replace X := X.up uVF
      replace Y := Y.up uVF
      have X0 := X.get 0
      have X1 := X.get 1
      have X2 := X.get 2
      have X3 := X.get 3
      simp only [List.getElem?_toArray, List.getElem?_cons_zero, List.getElem?_cons_succ] at X0 X1 X2 X3
      have Y0 := Y.get 0
      have Y1 := Y.get 1
      have Y2 := Y.get 2
      have Y3 := Y.get 3
      simp only [List.getElem?_toArray, List.getElem?_cons_zero, List.getElem?_cons_succ] at Y0 Y1 Y2 Y3
      obtain ⟨F0, F1, F2, F3, F4, F5, F6⟩ := Bf.cs F
      try simp only [Nat.zero_add] at F1 F2 F3 F4 F5 F6
      go_wp2_with fail
      clear X0 X1 X2 X3 Y0 Y1 Y2 Y3 F0 F1 F2 F3 F4 F5 F6
      go_ret
      exact ⟨by first | rfl | simp, by first | exact U | exact U.drew | exact U.drewN _⟩
    · go_enter Tryd.func7, Tryd.ntmps7
      go_wp2_with fail
      refine (CH.out _ (by first | exact U | exact U.drew | exact U.drewN _)).mono ?_
      rintro _ w1 ⟨rfl, h1⟩
      replace U := Up.trans (by first | exact U | exact U.drew | exact U.drewN _) h1
      clear h1
      clear CH
      go_wp2_with fail
      refine (C1.out _ (by first | exact U | exact U.drew | exact U.drewN _)).mono ?_
      rintro _ w2 ⟨rfl, h2⟩
      replace U := Up.trans (by first | exact U | exact U.drew | exact U.drewN _) h2
      clear h2
      clear C1
      go_wp2_with fail
      refine (C2.out _ (by first | exact U | exact U.drew | exact U.drewN _)).mono ?_
      rintro _ w3 ⟨rfl, h3⟩
      replace U := Up.trans (by first | exact U | exact U.drew | exact U.drewN _) h3
      clear h3
      clear C2
      go_upto_region 9 with fail
      obtain ⟨VX, hVX⟩ : ∃ VX, w3.alloc (.cells #[.int .i64 c, .bool g, u64 m, .int .i64 z] 33) = VX := ⟨_, rfl⟩
      have X : Ob VX w3.heap.size 33 #[.int .i64 c, .bool g, u64 m, .int .i64 z] := by rw [← hVX]; exact Ob.mk_ _ _ _
      have uVX : Up w3 VX := by rw [← hVX]; exact (Up.refl _).alloc _
      rw [hVX]
      clear hVX
      replace U := U.trans uVX
      have X0 := X.get 0
      have X1 := X.get 1
      have X2 := X.get 2
      have X3 := X.get 3
      simp only [List.getElem?_toArray, List.getElem?_cons_zero, List.getElem?_cons_succ] at X0 X1 X2 X3
      go_wp2_with fail
      clear X0 X1 X2 X3
      refine (C3.out _ (by first | exact U | exact U.drew | exact U.drewN _)).mono ?_
      rintro _ w4 ⟨rfl, h4⟩
      replace U := Up.trans (by first | exact U | exact U.drew | exact U.drewN _) h4
      replace X := X.up (Up.trans (by first | exact Up.refl _ | exact (Up.refl _).drew | exact (Up.refl _).drewN _) h4)
      clear h4
      clear C3
      have X0 := X.get 0
      have X1 := X.get 1
      have X2 := X.get 2
      have X3 := X.get 3
      simp only [List.getElem?_toArray, List.getElem?_cons_zero, List.getElem?_cons_succ] at X0 X1 X2 X3
      go_upto_region 10 with fail
      clear X0 X1 X2 X3
      obtain ⟨VY, hVY⟩ : ∃ VY, w4.alloc (.cells #[.int .i64 1, .bool false, u64 m', .int .i64 z'] 33) = VY := ⟨_, rfl⟩
      have Y : Ob VY w4.heap.size 33 #[.int .i64 1, .bool false, u64 m', .int .i64 z'] := by rw [← hVY]; exact Ob.mk_ _ _ _
      have uVY : Up w4 VY := by rw [← hVY]; exact (Up.refl _).alloc _
      rw [hVY]
      clear hVY
      replace U := U.trans uVY
      replace X := X.up uVY
      have X0 := X.get 0
      have X1 := X.get 1
      have X2 := X.get 2
      have X3 := X.get 3
      simp only [List.getElem?_toArray, List.getElem?_cons_zero, List.getElem?_cons_succ] at X0 X1 X2 X3
      have Y0 := Y.get 0
      have Y1 := Y.get 1
      have Y2 := Y.get 2
      have Y3 := Y.get 3
      simp only [List.getElem?_toArray, List.getElem?_cons_zero, List.getElem?_cons_succ] at Y0 Y1 Y2 Y3
      go_wp2_with fail
      clear X0 X1 X2 X3 Y0 Y1 Y2 Y3
      refine (C4.out _ (by first | exact U | exact U.drew | exact U.drewN _)).mono ?_
      rintro _ w5 ⟨rfl, h5⟩
      replace U := Up.trans (by first | exact U | exact U.drew | exact U.drewN _) h5
      replace X := X.up (Up.trans (by first | exact Up.refl _ | exact (Up.refl _).drew | exact (Up.refl _).drewN _) h5)
      replace Y := Y.up (Up.trans (by first | exact Up.refl _ | exact (Up.refl _).drew | exact (Up.refl _).drewN _) h5)
      clear h5
      clear C4
      have X0 := X.get 0
      have X1 := X.get 1
      have X2 := X.get 2
      have X3 := X.get 3
      simp only [List.getElem?_toArray, List.getElem?_cons_zero, List.getElem?_cons_succ] at X0 X1 X2 X3
      have Y0 := Y.get 0
      have Y1 := Y.get 1
      have Y2 := Y.get 2
      have Y3 := Y.get 3
      simp only [List.getElem?_toArray, List.getElem?_cons_zero, List.getElem?_cons_succ] at Y0 Y1 Y2 Y3
      go_upto_region 11 with fail
      clear X0 X1 X2 X3 Y0 Y1 Y2 Y3
      obtain ⟨VF, hVF⟩ : ∃ VF, w5.alloc (.cells #[.int .i64 f.k, .int .i64 f.W, .int .i64 f.m, .int .i64 f.b, .int .u64 f.t, .int .u64 f.n, .int .u64 f.x] 45) = VF := ⟨_, rfl⟩
      have F : Bf VF w5.heap.size 45 f := by rw [← hVF]; exact Bf.mk_ _ _ _
      have uVF : Up w5 VF := by rw [← hVF]; exact (Up.refl _).alloc _
      rw [hVF]
      clear hVF
      replace U := U.trans uVF
      replace X := X.up uVF
      replace Y := Y.up uVF
      have X0 := X.get 0
      have X1 := X.get 1
      have X2 := X.get 2
      have X3 := X.get 3
      simp only [List.getElem?_toArray, List.getElem?_cons_zero, List.getElem?_cons_succ] at X0 X1 X2 X3
      have Y0 := Y.get 0
      have Y1 := Y.get 1
      have Y2 := Y.get 2
      have Y3 := Y.get 3
      simp only [List.getElem?_toArray, List.getElem?_cons_zero, List.getElem?_cons_succ] at Y0 Y1 Y2 Y3
      obtain ⟨F0, F1, F2, F3, F4, F5, F6⟩ := Bf.cs F
      try simp only [Nat.zero_add] at F1 F2 F3 F4 F5 F6
      go_wp2_with fail
      clear X0 X1 X2 X3 Y0 Y1 Y2 Y3 F0 F1 F2 F3 F4 F5 F6
      go_ret
      exact ⟨by first | rfl | simp, by first | exact U | exact U.drew | exact U.drewN _⟩
    · go_enter Tryd.func7, Tryd.ntmps7
      go_wp2_with fail
      refine (CH.out _ (by first | exact U | exact U.drew | exact U.drewN _)).mono ?_
      rintro _ w1 ⟨rfl, h1⟩
      replace U := Up.trans (by first | exact U | exact U.drew | exact U.drewN _) h1
      clear h1
      clear CH
      go_wp2_with fail
      refine (C1.out _ (by first | exact U | exact U.drew | exact U.drewN _)).mono ?_
      rintro _ w2 ⟨rfl, h2⟩
      replace U := Up.trans (by first | exact U | exact U.drew | exact U.drewN _) h2
      clear h2
      clear C1
      go_wp2_with fail
      refine (C2.out _ (by first | exact U | exact U.drew | exact U.drewN _)).mono ?_
      rintro _ w3 ⟨rfl, h3⟩
      replace U := Up.trans (by first | exact U | exact U.drew | exact U.drewN _) h3
      clear h3
      clear C2
      go_upto_region 9 with fail
      obtain ⟨VX, hVX⟩ : ∃ VX, w3.alloc (.cells #[.int .i64 c, .bool g', u64 m, .int .i64 z] 33) = VX := ⟨_, rfl⟩
      have X : Ob VX w3.heap.size 33 #[.int .i64 c, .bool g', u64 m, .int .i64 z] := by rw [← hVX]; exact Ob.mk_ _ _ _
      have uVX : Up w3 VX := by rw [← hVX]; exact (Up.refl _).alloc _
      rw [hVX]
      clear hVX
      replace U := U.trans uVX
      have X0 := X.get 0
      have X1 := X.get 1
      have X2 := X.get 2
      have X3 := X.get 3
      simp only [List.getElem?_toArray, List.getElem?_cons_zero, List.getElem?_cons_succ] at X0 X1 X2 X3
      go_wp2_with fail
      clear X0 X1 X2 X3
      refine (C3.out _ (by first | exact U | exact U.drew | exact U.drewN _)).mono ?_
      rintro _ w4 ⟨rfl, h4⟩
      replace U := Up.trans (by first | exact U | exact U.drew | exact U.drewN _) h4
      replace X := X.up (Up.trans (by first | exact Up.refl _ | exact (Up.refl _).drew | exact (Up.refl _).drewN _) h4)
      clear h4
      clear C3
      have X0 := X.get 0
      have X1 := X.get 1
      have X2 := X.get 2
      have X3 := X.get 3
      simp only [List.getElem?_toArray, List.getElem?_cons_zero, List.getElem?_cons_succ] at X0 X1 X2 X3
      go_upto_region 10 with fail
      clear X0 X1 X2 X3
      obtain ⟨VY, hVY⟩ : ∃ VY, w4.alloc (.cells #[.int .i64 1, .bool g', u64 m', .int .i64 z'] 33) = VY := ⟨_, rfl⟩
      have Y : Ob VY w4.heap.size 33 #[.int .i64 1, .bool g', u64 m', .int .i64 z'] := by rw [← hVY]; exact Ob.mk_ _ _ _
      have uVY : Up w4 VY := by rw [← hVY]; exact (Up.refl _).alloc _
      rw [hVY]
      clear hVY
      replace U := U.trans uVY
      replace X := X.up uVY
      have X0 := X.get 0
      have X1 := X.get 1
      have X2 := X.get 2
      have X3 := X.get 3
      simp only [List.getElem?_toArray, List.getElem?_cons_zero, List.getElem?_cons_succ] at X0 X1 X2 X3
      have Y0 := Y.get 0
      have Y1 := Y.get 1
      have Y2 := Y.get 2
      have Y3 := Y.get 3
      simp only [List.getElem?_toArray, List.getElem?_cons_zero, List.getElem?_cons_succ] at Y0 Y1 Y2 Y3
      go_wp2_with fail
      clear X0 X1 X2 X3 Y0 Y1 Y2 Y3
      refine (C4.out _ (by first | exact U | exact U.drew | exact U.drewN _)).mono ?_
      rintro _ w5 ⟨rfl, h5⟩
      replace U := Up.trans (by first | exact U | exact U.drew | exact U.drewN _) h5
      replace X := X.up (Up.trans (by first | exact Up.refl _ | exact (Up.refl _).drew | exact (Up.refl _).drewN _) h5)
      replace Y := Y.up (Up.trans (by first | exact Up.refl _ | exact (Up.refl _).drew | exact (Up.refl _).drewN _) h5)
      clear h5
      clear C4
      have X0 := X.get 0
      have X1 := X.get 1
      have X2 := X.get 2
      have X3 := X.get 3
      simp only [List.getElem?_toArray, List.getElem?_cons_zero, List.getElem?_cons_succ] at X0 X1 X2 X3
      have Y0 := Y.get 0
      have Y1 := Y.get 1
      have Y2 := Y.get 2
      have Y3 := Y.get 3
      simp only [List.getElem?_toArray, List.getElem?_cons_zero, List.getElem?_cons_succ] at Y0 Y1 Y2 Y3
      go_upto_region 11 with fail
      clear X0 X1 X2 X3 Y0 Y1 Y2 Y3
      obtain ⟨VF, hVF⟩ : ∃ VF, w5.alloc (.cells #[.int .i64 f.k, .int .i64 f.W, .int .i64 f.m, .int .i64 f.b, .int .u64 f.t, .int .u64 f.n, .int .u64 f.x] 45) = VF := ⟨_, rfl⟩
      have F : Bf VF w5.heap.size 45 f := by rw [← hVF]; exact Bf.mk_ _ _ _
      have uVF : Up w5 VF := by rw [← hVF]; exact (Up.refl _).alloc _
      rw [hVF]
      clear hVF
      replace U := U.trans uVF
      replace X := X.up uVF
      replace Y := Y.up uVF
      have X0 := X.get 0
      have X1 := X.get 1
      have X2 := X.get 2
      have X3 := X.get 3
      simp only [List.getElem?_toArray, List.getElem?_cons_zero, List.getElem?_cons_succ] at X0 X1 X2 X3
      have Y0 := Y.get 0
      have Y1 := Y.get 1
      have Y2 := Y.get 2
      have Y3 := Y.get 3
      simp only [List.getElem?_toArray, List.getElem?_cons_zero, List.getElem?_cons_succ] at Y0 Y1 Y2 Y3
      obtain ⟨F0, F1, F2, F3, F4, F5, F6⟩ := Bf.cs F
      try simp only [Nat.zero_add] at F1 F2 F3 F4 F5 F6
      go_wp2_with fail
      clear X0 X1 X2 X3 Y0 Y1 Y2 Y3 F0 F1 F2 F3 F4 F5 F6
      go_ret
      exact ⟨by first | rfl | simp, by first | exact U | exact U.drew | exact U.drewN _⟩
    · go_enter Tryd.func7, Tryd.ntmps7
      go_wp2_with fail
      refine (CH.out _ (by first | exact U | exact U.drew | exact U.drewN _)).mono ?_
      rintro _ w1 ⟨rfl, h1⟩
      replace U := Up.trans (by first | exact U | exact U.drew | exact U.drewN _) h1
      clear h1
      clear CH
      go_wp2_with fail
      refine (C1.out _ (by first | exact U | exact U.drew | exact U.drewN _)).mono ?_
      rintro _ w2 ⟨rfl, h2⟩
      replace U := Up.trans (by first | exact U | exact U.drew | exact U.drewN _) h2
      clear h2
      clear C1
      go_wp2_with fail
      refine (C2.out _ (by first | exact U | exact U.drew | exact U.drewN _)).mono ?_
      rintro _ w3 ⟨rfl, h3⟩
      replace U := Up.trans (by first | exact U | exact U.drew | exact U.drewN _) h3
      clear h3
      clear C2
      go_upto_region 9 with fail
      obtain ⟨VX, hVX⟩ : ∃ VX, w3.alloc (.cells #[.int .i64 c, .bool g', u64 m, .int .i64 z] 33) = VX := ⟨_, rfl⟩
      have X : Ob VX w3.heap.size 33 #[.int .i64 c, .bool g', u64 m, .int .i64 z] := by rw [← hVX]; exact Ob.mk_ _ _ _
      have uVX : Up w3 VX := by rw [← hVX]; exact (Up.refl _).alloc _
      rw [hVX]
      clear hVX
      replace U := U.trans uVX
      have X0 := X.get 0
      have X1 := X.get 1
      have X2 := X.get 2
      have X3 := X.get 3
      simp only [List.getElem?_toArray, List.getElem?_cons_zero, List.getElem?_cons_succ] at X0 X1 X2 X3
      go_wp2_with fail
      clear X0 X1 X2 X3
      refine (C3.out _ (by first | exact U | exact U.drew | exact U.drewN _)).mono ?_
      rintro _ w4 ⟨rfl, h4⟩
      replace U := Up.trans (by first | exact U | exact U.drew | exact U.drewN _) h4
      replace X := X.up (Up.trans (by first | exact Up.refl _ | exact (Up.refl _).drew | exact (Up.refl _).drewN _) h4)
      clear h4
      clear C3
      have X0 := X.get 0
      have X1 := X.get 1
      have X2 := X.get 2
      have X3 := X.get 3
      simp only [List.getElem?_toArray, List.getElem?_cons_zero, List.getElem?_cons_succ] at X0 X1 X2 X3
      go_upto_region 10 with fail
      clear X0 X1 X2 X3
      obtain ⟨VY, hVY⟩ : ∃ VY, w4.alloc (.cells #[.int .i64 c', .bool g', u64 m', .int .i64 z'] 33) = VY := ⟨_, rfl⟩
      have Y : Ob VY w4.heap.size 33 #[.int .i64 c', .bool g', u64 m', .int .i64 z'] := by rw [← hVY]; exact Ob.mk_ _ _ _
      have uVY : Up w4 VY := by rw [← hVY]; exact (Up.refl _).alloc _
      rw [hVY]
      clear hVY
      replace U := U.trans uVY
      replace X := X.up uVY
      have X0 := X.get 0
      have X1 := X.get 1
      have X2 := X.get 2
      have X3 := X.get 3
      simp only [List.getElem?_toArray, List.getElem?_cons_zero, List.getElem?_cons_succ] at X0 X1 X2 X3
      have Y0 := Y.get 0
      have Y1 := Y.get 1
      have Y2 := Y.get 2
      have Y3 := Y.get 3
      simp only [List.getElem?_toArray, List.getElem?_cons_zero, List.getElem?_cons_succ] at Y0 Y1 Y2 Y3
      go_wp2_with fail
      clear X0 X1 X2 X3 Y0 Y1 Y2 Y3
      refine (C4.out _ (by first | exact U | exact U.drew | exact U.drewN _)).mono ?_
      rintro _ w5 ⟨rfl, h5⟩
      replace U := Up.trans (by first | exact U | exact U.drew | exact U.drewN _) h5
      replace X := X.up (Up.trans (by first | exact Up.refl _ | exact (Up.refl _).drew | exact (Up.refl _).drewN _) h5)
      replace Y := Y.up (Up.trans (by first | exact Up.refl _ | exact (Up.refl _).drew | exact (Up.refl _).drewN _) h5)
      clear h5
      clear C4
      have X0 := X.get 0
      have X1 := X.get 1
      have X2 := X.get 2
      have X3 := X.get 3
      simp only [List.getElem?_toArray, List.getElem?_cons_zero, List.getElem?_cons_succ] at X0 X1 X2 X3
      have Y0 := Y.get 0
      have Y1 := Y.get 1
      have Y2 := Y.get 2
      have Y3 := Y.get 3
      simp only [List.getElem?_toArray, List.getElem?_cons_zero, List.getElem?_cons_succ] at Y0 Y1 Y2 Y3
      go_upto_region 11 with fail
      clear X0 X1 X2 X3 Y0 Y1 Y2 Y3
      obtain ⟨VF, hVF⟩ : ∃ VF, w5.alloc (.cells #[.int .i64 f.k, .int .i64 f.W, .int .i64 f.m, .int .i64 f.b, .int .u64 f.t, .int .u64 f.n, .int .u64 f.x] 45) = VF := ⟨_, rfl⟩
      have F : Bf VF w5.heap.size 45 f := by rw [← hVF]; exact Bf.mk_ _ _ _
      have uVF : Up w5 VF := by rw [← hVF]; exact (Up.refl _).alloc _
      rw [hVF]
      clear hVF
      replace U := U.trans uVF
      replace X := X.up uVF
      replace Y := Y.up uVF
      have X0 := X.get 0
      have X1 := X.get 1
      have X2 := X.get 2
      have X3 := X.get 3
      simp only [List.getElem?_toArray, List.getElem?_cons_zero, List.getElem?_cons_succ] at X0 X1 X2 X3
      have Y0 := Y.get 0
      have Y1 := Y.get 1
      have Y2 := Y.get 2
      have Y3 := Y.get 3
      simp only [List.getElem?_toArray, List.getElem?_cons_zero, List.getElem?_cons_succ] at Y0 Y1 Y2 Y3
      obtain ⟨F0, F1, F2, F3, F4, F5, F6⟩ := Bf.cs F
      try simp only [Nat.zero_add] at F1 F2 F3 F4 F5 F6
      go_wp2_with fail
      clear X0 X1 X2 X3 Y0 Y1 Y2 Y3 F0 F1 F2 F3 F4 F5 F6
      go_ret
      exact ⟨by first | rfl | simp, by first | exact U | exact U.drew | exact U.drewN _⟩
  · have d1 := M.nx14 way
    obtain rfl := M.tc_err h1 way
    clear way h1 TT TF F hm
    rcases hmode with ⟨rfl, rfl⟩ | ⟨rfl, rfl⟩
    all_goals
      go_enter Tryd.func7, Tryd.ntmps7
      go_wp2_with fail
      refine (CH.out _ (by first | exact U | exact U.drew | exact U.drewN _)).mono ?_
      rintro _ w1 ⟨rfl, h1⟩
      replace U := Up.trans (by first | exact U | exact U.drew | exact U.drewN _) h1
      clear h1
      clear CH
      go_wp2_with fail
      refine (C1.out _ (by first | exact U | exact U.drew | exact U.drewN _)).mono ?_
      rintro _ w2 ⟨rfl, h2⟩
      replace U := Up.trans (by first | exact U | exact U.drew | exact U.drewN _) h2
      clear h2
      clear C1
      go_wp2_with fail
      go_ret
      exact ⟨by first | rfl | simp, by first | exact U | exact U.drew | exact U.drewN _⟩
end Go.Proofs.YtadgoeplhichmaaDoor
