/-
  The reference's Just.
-/
import Derived.Test.YtadgoeplhichmaaGreatDoorIq
namespace Go.Proofs.YtadgoeplhichmaaGreatDoor
open Go.RowKit Go.Shelf
set_option linter.unusedVariables false
set_option linter.unusedSimpArgs false

set_option maxHeartbeats 4000000 in
set_option maxRecDepth 100000 in
theorem rjust14_any (w : World) (ii jj : Int) (p : Nat) (b : Bool) (pb : p < 18446744073709551616) (x : Int) (h : M.Jus ii jj p b x) : Calls Tryz.prog 8 #[.int .i64 ii, .int .i64 jj, u64 p] w (Pbx b x w) := by
  obtain ⟨q, ht, hr⟩ := h
  obtain ⟨q', x', h', qb⟩ := M.tc_ex ii jj 2 p
  obtain ⟨rfl, rfl⟩ := M.tc_one ht h'
  have CT := Lib.hid (fun W => rturn14_any W ii jj 2 p q pb x ht)
  have U := Up.refl w
  clear ht h'
  rcases hr with ⟨x0, rfl⟩ | ⟨rfl, c, g, m, z, c', g', m', z', hd, hd', he⟩
  · have d1 := M.nx14 x0
    clear x0
    go_enter Tryz.func8, Tryz.ntmps8
    go_wp2_with fail
    refine (CT.out _).mono ?_
    rintro _ w1 ⟨rfl, h1⟩
    replace U := Up.trans (by first | exact U | exact U.drew | exact U.drewN _) h1
    clear h1
    go_wp2_with fail
    go_ret2
    exact ⟨rfl, by first | exact U | exact U.drew | exact U.drewN _⟩
  · have C1 := Lib.hid (fun W => rdecode_any W ii p pb c g m z 0 hd)
    have C2 := Lib.hid (fun W => rdecode_any W jj q qb c' g' m' z' 0 hd')
    clear hd hd' pb qb
    by_cases hc : c = 1 ∨ c = 2
    · have HE := Lib.hid he
      clear he
      rcases hc with rfl | rfl
      · go_enter Tryz.func8, Tryz.ntmps8
        go_wp2_with fail
        refine (CT.out _).mono ?_
        rintro _ w1 ⟨rfl, h1⟩
        replace U := Up.trans (by first | exact U | exact U.drew | exact U.drewN _) h1
        clear h1
        go_wp2_with fail
        refine (C1.out _).mono ?_
        rintro _ w2 ⟨rfl, h2⟩
        replace U := Up.trans (by first | exact U | exact U.drew | exact U.drewN _) h2
        clear h2
        go_upto_region 5 with fail
        obtain ⟨VX, hVX⟩ : ∃ VX, w2.alloc (.cells #[.int .i64 1, .bool g, u64 m, .int .i64 z] 31) = VX := ⟨_, rfl⟩
        have X : Ob VX w2.heap.size 31 #[.int .i64 1, .bool g, u64 m, .int .i64 z] := by rw [← hVX]; exact Ob.mk_ _ _ _
        have uVX : Up w2 VX := by rw [← hVX]; exact (Up.refl _).alloc _
        rw [hVX]
        clear hVX
        replace U := U.trans uVX
        have X0 := X.get 0
        have X1 := X.get 1
        have X2 := X.get 2
        have X3 := X.get 3
        simp only [List.getElem?_toArray, List.getElem?_cons_zero, List.getElem?_cons_succ] at X0 X1 X2 X3
        go_wp2_with fail
        clear X0 X1 X2 X3
        refine (C2.out _).mono ?_
        rintro _ w3 ⟨rfl, h3⟩
        replace U := Up.trans (by first | exact U | exact U.drew | exact U.drewN _) h3
        replace X := X.up (Up.trans (by first | exact Up.refl _ | exact (Up.refl _).drew | exact (Up.refl _).drewN _) h3)
        clear h3
        have X0 := X.get 0
        have X1 := X.get 1
        have X2 := X.get 2
        have X3 := X.get 3
        simp only [List.getElem?_toArray, List.getElem?_cons_zero, List.getElem?_cons_succ] at X0 X1 X2 X3
        go_upto_region 6 with fail
        clear X0 X1 X2 X3
        obtain ⟨VY, hVY⟩ : ∃ VY, w3.alloc (.cells #[.int .i64 c', .bool g', u64 m', .int .i64 z'] 31) = VY := ⟨_, rfl⟩
        have Y : Ob VY w3.heap.size 31 #[.int .i64 c', .bool g', u64 m', .int .i64 z'] := by rw [← hVY]; exact Ob.mk_ _ _ _
        have uVY : Up w3 VY := by rw [← hVY]; exact (Up.refl _).alloc _
        rw [hVY]
        clear hVY
        replace U := U.trans uVY
        replace X := X.up uVY
        have X0 := X.get 0
        have X1 := X.get 1
        have X2 := X.get 2
        have X3 := X.get 3
        simp only [List.getElem?_toArray, List.getElem?_cons_zero, List.getElem?_cons_succ] at X0 X1 X2 X3
        have Y0 := Y.get 0
        have Y1 := Y.get 1
        have Y2 := Y.get 2
        have Y3 := Y.get 3
        simp only [List.getElem?_toArray, List.getElem?_cons_zero, List.getElem?_cons_succ] at Y0 Y1 Y2 Y3
        go_wp2_with fail
        clear X0 X1 X2 X3 Y0 Y1 Y2 Y3
        all_goals
          go_ret2
          refine ⟨?_, by first | exact U | exact U.drew | exact U.drewN _⟩
          have e := HE.out
          clear HE
          unfold M.eqv at e
          rcases (show b = true ∨ b = false by cases b <;> simp) with rfl | rfl
          · have e1 := e.1 rfl
            obtain ⟨_, e1, e2, e3, e4⟩ := e1
            first | rfl | (exfalso; simp_all)
          · have e1 : ¬ _ := fun e1 => by cases e.2 e1
            first | rfl | (exfalso; apply e1; refine ⟨?_, ?_, ?_, ?_, ?_⟩ <;> first | rfl | assumption | omega | simp_all)
      · go_enter Tryz.func8, Tryz.ntmps8
        go_wp2_with fail
        refine (CT.out _).mono ?_
        rintro _ w1 ⟨rfl, h1⟩
        replace U := Up.trans (by first | exact U | exact U.drew | exact U.drewN _) h1
        clear h1
        go_wp2_with fail
        refine (C1.out _).mono ?_
        rintro _ w2 ⟨rfl, h2⟩
        replace U := Up.trans (by first | exact U | exact U.drew | exact U.drewN _) h2
        clear h2
        go_upto_region 5 with fail
        obtain ⟨VX, hVX⟩ : ∃ VX, w2.alloc (.cells #[.int .i64 2, .bool g, u64 m, .int .i64 z] 31) = VX := ⟨_, rfl⟩
        have X : Ob VX w2.heap.size 31 #[.int .i64 2, .bool g, u64 m, .int .i64 z] := by rw [← hVX]; exact Ob.mk_ _ _ _
        have uVX : Up w2 VX := by rw [← hVX]; exact (Up.refl _).alloc _
        rw [hVX]
        clear hVX
        replace U := U.trans uVX
        have X0 := X.get 0
        have X1 := X.get 1
        have X2 := X.get 2
        have X3 := X.get 3
        simp only [List.getElem?_toArray, List.getElem?_cons_zero, List.getElem?_cons_succ] at X0 X1 X2 X3
        go_wp2_with fail
        clear X0 X1 X2 X3
        refine (C2.out _).mono ?_
        rintro _ w3 ⟨rfl, h3⟩
        replace U := Up.trans (by first | exact U | exact U.drew | exact U.drewN _) h3
        replace X := X.up (Up.trans (by first | exact Up.refl _ | exact (Up.refl _).drew | exact (Up.refl _).drewN _) h3)
        clear h3
        have X0 := X.get 0
        have X1 := X.get 1
        have X2 := X.get 2
        have X3 := X.get 3
        simp only [List.getElem?_toArray, List.getElem?_cons_zero, List.getElem?_cons_succ] at X0 X1 X2 X3
        go_upto_region 6 with fail
        clear X0 X1 X2 X3
        obtain ⟨VY, hVY⟩ : ∃ VY, w3.alloc (.cells #[.int .i64 c', .bool g', u64 m', .int .i64 z'] 31) = VY := ⟨_, rfl⟩
        have Y : Ob VY w3.heap.size 31 #[.int .i64 c', .bool g', u64 m', .int .i64 z'] := by rw [← hVY]; exact Ob.mk_ _ _ _
        have uVY : Up w3 VY := by rw [← hVY]; exact (Up.refl _).alloc _
        rw [hVY]
        clear hVY
        replace U := U.trans uVY
        replace X := X.up uVY
        have X0 := X.get 0
        have X1 := X.get 1
        have X2 := X.get 2
        have X3 := X.get 3
        simp only [List.getElem?_toArray, List.getElem?_cons_zero, List.getElem?_cons_succ] at X0 X1 X2 X3
        have Y0 := Y.get 0
        have Y1 := Y.get 1
        have Y2 := Y.get 2
        have Y3 := Y.get 3
        simp only [List.getElem?_toArray, List.getElem?_cons_zero, List.getElem?_cons_succ] at Y0 Y1 Y2 Y3
        go_wp2_with fail
        clear X0 X1 X2 X3 Y0 Y1 Y2 Y3
        all_goals
          go_ret2
          refine ⟨?_, by first | exact U | exact U.drew | exact U.drewN _⟩
          have e := HE.out
          clear HE
          unfold M.eqv at e
          rcases (show b = true ∨ b = false by cases b <;> simp) with rfl | rfl
          · have e1 := e.1 rfl
            obtain ⟨_, e1, e2, e3, e4⟩ := e1
            first | rfl | (exfalso; simp_all)
          · have e1 : ¬ _ := fun e1 => by cases e.2 e1
            first | rfl | (exfalso; apply e1; refine ⟨?_, ?_, ?_, ?_, ?_⟩ <;> first | rfl | assumption | omega | simp_all)
    · have d1 : (c == 2) = false := by
        have : c ≠ 2 := fun e => hc (.inr e)
        simpa using this
      have d2 : (c == 1) = false := by
        have : c ≠ 1 := fun e => hc (.inl e)
        simpa using this
      obtain rfl : b = false := by
        cases b
        · rfl
        · exact absurd (he.1 rfl).1 hc
      clear he hc
      go_enter Tryz.func8, Tryz.ntmps8
      go_wp2_with fail
      refine (CT.out _).mono ?_
      rintro _ w1 ⟨rfl, h1⟩
      replace U := Up.trans (by first | exact U | exact U.drew | exact U.drewN _) h1
      clear h1
      go_wp2_with fail
      refine (C1.out _).mono ?_
      rintro _ w2 ⟨rfl, h2⟩
      replace U := Up.trans (by first | exact U | exact U.drew | exact U.drewN _) h2
      clear h2
      go_upto_region 5 with fail
      obtain ⟨VX, hVX⟩ : ∃ VX, w2.alloc (.cells #[.int .i64 c, .bool g, u64 m, .int .i64 z] 31) = VX := ⟨_, rfl⟩
      have X : Ob VX w2.heap.size 31 #[.int .i64 c, .bool g, u64 m, .int .i64 z] := by rw [← hVX]; exact Ob.mk_ _ _ _
      have uVX : Up w2 VX := by rw [← hVX]; exact (Up.refl _).alloc _
      rw [hVX]
      clear hVX
      replace U := U.trans uVX
      have X0 := X.get 0
      have X1 := X.get 1
      have X2 := X.get 2
      have X3 := X.get 3
      simp only [List.getElem?_toArray, List.getElem?_cons_zero, List.getElem?_cons_succ] at X0 X1 X2 X3
      go_wp2_with fail
      clear X0 X1 X2 X3
      refine (C2.out _).mono ?_
      rintro _ w3 ⟨rfl, h3⟩
      replace U := Up.trans (by first | exact U | exact U.drew | exact U.drewN _) h3
      replace X := X.up (Up.trans (by first | exact Up.refl _ | exact (Up.refl _).drew | exact (Up.refl _).drewN _) h3)
      clear h3
      have X0 := X.get 0
      have X1 := X.get 1
      have X2 := X.get 2
      have X3 := X.get 3
      simp only [List.getElem?_toArray, List.getElem?_cons_zero, List.getElem?_cons_succ] at X0 X1 X2 X3
      go_upto_region 6 with fail
      clear X0 X1 X2 X3
      obtain ⟨VY, hVY⟩ : ∃ VY, w3.alloc (.cells #[.int .i64 c', .bool g', u64 m', .int .i64 z'] 31) = VY := ⟨_, rfl⟩
      have Y : Ob VY w3.heap.size 31 #[.int .i64 c', .bool g', u64 m', .int .i64 z'] := by rw [← hVY]; exact Ob.mk_ _ _ _
      have uVY : Up w3 VY := by rw [← hVY]; exact (Up.refl _).alloc _
      rw [hVY]
      clear hVY
      replace U := U.trans uVY
      replace X := X.up uVY
      have X0 := X.get 0
      have X1 := X.get 1
      have X2 := X.get 2
      have X3 := X.get 3
      simp only [List.getElem?_toArray, List.getElem?_cons_zero, List.getElem?_cons_succ] at X0 X1 X2 X3
      have Y0 := Y.get 0
      have Y1 := Y.get 1
      have Y2 := Y.get 2
      have Y3 := Y.get 3
      simp only [List.getElem?_toArray, List.getElem?_cons_zero, List.getElem?_cons_succ] at Y0 Y1 Y2 Y3
      go_wp2_with fail
      clear X0 X1 X2 X3 Y0 Y1 Y2 Y3
      go_ret2
      exact ⟨rfl, by first | exact U | exact U.drew | exact U.drewN _⟩
end Go.Proofs.YtadgoeplhichmaaGreatDoor
