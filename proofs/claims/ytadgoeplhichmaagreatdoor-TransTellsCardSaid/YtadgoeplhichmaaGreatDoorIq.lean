/-
  The reference's Turn, Just.
-/
import Derived.Test.YtadgoeplhichmaaGreatDoorIr
namespace Go.Proofs.YtadgoeplhichmaaGreatDoor
open Go.RowKit Go.Shelf
set_option linter.unusedVariables false
set_option linter.unusedSimpArgs false

set_option maxHeartbeats 16000000 in
set_option maxRecDepth 100000 in
theorem rturn14_any (w : World) (ii jj mode : Int) (p q : Nat) (pb : p < 18446744073709551616) (x : Int) (h : M.Tc ii jj mode p q x) : Calls Tryz.prog 6 #[.int .i64 ii, .int .i64 jj, .int .i64 mode, u64 p] w (Pqx q x w) := by
  obtain ⟨c, g, m, z, e, hd, hr⟩ := h
  have CD := Lib.hid (fun W => rdecode_any W ii p pb c g m z e hd)
  have U := Up.refl w
  rcases hr with ⟨e0, rfl, rfl⟩ | ⟨rfl, ho, rfl, rfl⟩ | ⟨rfl, j, rfl, j1, j2, hr⟩
  · have d1 := M.nx14 e0
    clear e0 hd
    go_enter Tryz.func6, Tryz.ntmps6
    go_wp2_with fail
    refine (CD.out _).mono ?_
    rintro _ w1 ⟨rfl, h1⟩
    replace U := Up.trans (by first | exact U | exact U.drew | exact U.drewN _) h1
    clear h1
    go_upto_region 2 with fail
    obtain ⟨VX, hVX⟩ : ∃ VX, w1.alloc (.cells #[.int .i64 c, .bool g, u64 m, .int .i64 z] 31) = VX := ⟨_, rfl⟩
    have X : Ob VX w1.heap.size 31 #[.int .i64 c, .bool g, u64 m, .int .i64 z] := by rw [← hVX]; exact Ob.mk_ _ _ _
    have uVX : Up w1 VX := by rw [← hVX]; exact (Up.refl _).alloc _
    rw [hVX]
    clear hVX
    replace U := U.trans uVX
    have X0 := X.get 0
    have X1 := X.get 1
    have X2 := X.get 2
    have X3 := X.get 3
    simp only [List.getElem?_toArray, List.getElem?_cons_zero, List.getElem?_cons_succ] at X0 X1 X2 X3
    go_wp2_with fail
    clear X0 X1 X2 X3
    go_ret2
    exact ⟨rfl, by first | exact U | exact U.drew | exact U.drewN _⟩
  · have CO := Lib.hid (fun W => rof_out W jj ho)
    clear ho hd
    go_enter Tryz.func6, Tryz.ntmps6
    go_wp2_with fail
    refine (CD.out _).mono ?_
    rintro _ w1 ⟨rfl, h1⟩
    replace U := Up.trans (by first | exact U | exact U.drew | exact U.drewN _) h1
    clear h1
    go_upto_region 2 with fail
    obtain ⟨VX, hVX⟩ : ∃ VX, w1.alloc (.cells #[.int .i64 c, .bool g, u64 m, .int .i64 z] 31) = VX := ⟨_, rfl⟩
    have X : Ob VX w1.heap.size 31 #[.int .i64 c, .bool g, u64 m, .int .i64 z] := by rw [← hVX]; exact Ob.mk_ _ _ _
    have uVX : Up w1 VX := by rw [← hVX]; exact (Up.refl _).alloc _
    rw [hVX]
    clear hVX
    replace U := U.trans uVX
    have X0 := X.get 0
    have X1 := X.get 1
    have X2 := X.get 2
    have X3 := X.get 3
    simp only [List.getElem?_toArray, List.getElem?_cons_zero, List.getElem?_cons_succ] at X0 X1 X2 X3
    go_wp2_with fail
    clear X0 X1 X2 X3
    refine (CO.out _).mono ?_
    rintro _ w2 ⟨rfl, h2⟩
    replace U := Up.trans (by first | exact U | exact U.drew | exact U.drewN _) h2
    replace X := X.up (Up.trans (by first | exact Up.refl _ | exact (Up.refl _).drew | exact (Up.refl _).drewN _) h2)
    clear h2
    have X0 := X.get 0
    have X1 := X.get 1
    have X2 := X.get 2
    have X3 := X.get 3
    simp only [List.getElem?_toArray, List.getElem?_cons_zero, List.getElem?_cons_succ] at X0 X1 X2 X3
    go_upto_region 5 with fail
    clear X0 X1 X2 X3
    obtain ⟨VF, hVF⟩ : ∃ VF, w2.alloc (.cells #[.int .i64 0, .int .i64 0, .int .i64 0, .int .i64 0, .int .u64 0, .int .u64 0, .int .u64 0] 41) = VF := ⟨_, rfl⟩
    have F : Ob VF w2.heap.size 41 #[.int .i64 0, .int .i64 0, .int .i64 0, .int .i64 0, .int .u64 0, .int .u64 0, .int .u64 0] := by rw [← hVF]; exact Ob.mk_ _ _ _
    have uVF : Up w2 VF := by rw [← hVF]; exact (Up.refl _).alloc _
    rw [hVF]
    clear hVF
    replace U := U.trans uVF
    replace X := X.up uVF
    have X0 := X.get 0
    have X1 := X.get 1
    have X2 := X.get 2
    have X3 := X.get 3
    simp only [List.getElem?_toArray, List.getElem?_cons_zero, List.getElem?_cons_succ] at X0 X1 X2 X3
    have F0 := F.get 0
    have F1 := F.get 1
    have F2 := F.get 2
    have F3 := F.get 3
    have F4 := F.get 4
    have F5 := F.get 5
    have F6 := F.get 6
    simp only [List.getElem?_toArray, List.getElem?_cons_zero, List.getElem?_cons_succ] at F0 F1 F2 F3 F4 F5 F6
    go_wp2_with fail
    clear X0 X1 X2 X3 F0 F1 F2 F3 F4 F5 F6
    go_ret2
    exact ⟨rfl, by first | exact U | exact U.drew | exact U.drewN _⟩
  · have mb : m < 18446744073709551616 ∧ (c = 1 ∨ c = 2 → -3000 ≤ z ∧ z ≤ 3000) ∧ (c = 1 ∨ c = 2 → m = 0 → z = 0) := by
      obtain ⟨i, rfl, i1, i2, hp, hv⟩ := M.dc_have hd
      by_cases hc : c = 1 ∨ c = 2
      · obtain ⟨_, a, b⟩ := M.has_rv (M.ok i i1 i2) (M.ok2 i i1 i2) (M.ok3 i i1 i2) hp hv hc 1
        refine ⟨a, fun _ => b, fun _ e => ?_⟩
        rcases hv with ⟨_, _, _, _, h⟩ | ⟨_, _, _, _, h⟩ | ⟨_, _, _, _, h⟩ | ⟨c2, h, hg, k, hk, hm⟩
        · exact h
        · exact h
        · exact h
        · obtain ⟨_, _, _, _, _, _, _, _, _, _, m0⟩ := M.pt_key (M.ok i i1 i2) (M.ok2 i i1 i2) hp (show M.Dv (M.tb i) p 2 g m z from .inr (.inr (.inr ⟨c2, rfl, hg, k, hk, hm⟩)))
          exact absurd e m0
      · refine ⟨?_, fun e => absurd e hc, fun e => absurd e hc⟩
        rcases hv with ⟨_, _, _, rfl, _⟩ | ⟨_, _, _, rfl, _⟩ | ⟨_, h, _⟩ | ⟨_, h, _⟩
        · decide
        · decide
        · exact absurd (.inl h) hc
        · exact absurd (.inr h) hc
    obtain ⟨f, hf⟩ : ∃ f, M.tb j = f := ⟨_, rfl⟩
    rw [hf] at hr
    have CO := Lib.hid (fun W => rof_in W j f (Lib.hid hf) j1 j2)
    have CR := Lib.hid (fun W (mode : Int) lo s v t a (N : Nt W lo s v a) (hs : s ≤ 1) (ht : -4000 ≤ t ∧ t ≤ 4000) (y : Int) (hy : M.Rv f mode g (M.sz a t 0) y) => rround8_any W j f (Lib.hid hf) j1 j2 mode lo s g v t 0 a N (by omega) (by omega) (by omega) y hy)
    have CN := Lib.hid (fun W (c : Int) (h : m = 0 → z = 0) => rnum14_any W c g m mb.1 z h)
    clear hd hf j1 j2 pb
    rcases hr with ⟨hm, rfl, rfl⟩ | ⟨hm, hr, rfl⟩
    · have d1 := M.nx14' (fun e => hm (.inl e))
      have d2 := M.nx14' (fun e => hm (.inr e))
      clear hm mb CR CN
      go_enter Tryz.func6, Tryz.ntmps6
      go_wp2_with fail
      refine (CD.out _).mono ?_
      rintro _ w1 ⟨rfl, h1⟩
      replace U := Up.trans (by first | exact U | exact U.drew | exact U.drewN _) h1
      clear h1
      go_upto_region 2 with fail
      obtain ⟨VX, hVX⟩ : ∃ VX, w1.alloc (.cells #[.int .i64 c, .bool g, u64 m, .int .i64 z] 31) = VX := ⟨_, rfl⟩
      have X : Ob VX w1.heap.size 31 #[.int .i64 c, .bool g, u64 m, .int .i64 z] := by rw [← hVX]; exact Ob.mk_ _ _ _
      have uVX : Up w1 VX := by rw [← hVX]; exact (Up.refl _).alloc _
      rw [hVX]
      clear hVX
      replace U := U.trans uVX
      have X0 := X.get 0
      have X1 := X.get 1
      have X2 := X.get 2
      have X3 := X.get 3
      simp only [List.getElem?_toArray, List.getElem?_cons_zero, List.getElem?_cons_succ] at X0 X1 X2 X3
      go_wp2_with fail
      clear X0 X1 X2 X3
      refine (CO.out _).mono ?_
      rintro _ w2 ⟨rfl, h2⟩
      replace U := Up.trans (by first | exact U | exact U.drew | exact U.drewN _) h2
      replace X := X.up (Up.trans (by first | exact Up.refl _ | exact (Up.refl _).drew | exact (Up.refl _).drewN _) h2)
      clear h2
      have X0 := X.get 0
      have X1 := X.get 1
      have X2 := X.get 2
      have X3 := X.get 3
      simp only [List.getElem?_toArray, List.getElem?_cons_zero, List.getElem?_cons_succ] at X0 X1 X2 X3
      go_upto_region 5 with fail
      clear X0 X1 X2 X3
      obtain ⟨VF, hVF⟩ : ∃ VF, w2.alloc (.cells #[.int .i64 f.k, .int .i64 f.W, .int .i64 f.m, .int .i64 f.b, .int .u64 f.t, .int .u64 f.n, .int .u64 f.x] 41) = VF := ⟨_, rfl⟩
      have F : Bf VF w2.heap.size 41 f := by rw [← hVF]; exact Bf.mk_ _ _ _
      have uVF : Up w2 VF := by rw [← hVF]; exact (Up.refl _).alloc _
      rw [hVF]
      clear hVF
      replace U := U.trans uVF
      replace X := X.up uVF
      have X0 := X.get 0
      have X1 := X.get 1
      have X2 := X.get 2
      have X3 := X.get 3
      simp only [List.getElem?_toArray, List.getElem?_cons_zero, List.getElem?_cons_succ] at X0 X1 X2 X3
      obtain ⟨F0, F1, F2, F3, F4, F5, F6⟩ := Bf.cs F
      try simp only [Nat.zero_add] at F1 F2 F3 F4 F5 F6
      go_wp2_with fail
      clear X0 X1 X2 X3 F0 F1 F2 F3 F4 F5 F6
      go_ret2
      exact ⟨rfl, by first | exact U | exact U.drew | exact U.drewN _⟩
    · obtain ⟨Q, hQ⟩ : ∃ Q : Int, (q : Int) = Q := ⟨_, rfl⟩
      rw [hQ] at hr
      have HQ := Lib.hid hQ
      clear hQ
      suffices hs : Calls Tryz.prog 6 #[.int .i64 ii, .int .i64 (j : Int), .int .i64 mode, u64 p] w (fun e w' => e = .returned (.tuple #[.int .u64 Q, .int .i64 0]) ∧ Up w w') from hs.mono fun e w' h => by rw [← HQ.out] at h; exact h
      rcases hr with ⟨rfl, rfl⟩ | ⟨rfl, hk, rfl⟩ | ⟨rfl, hk, hr⟩ | ⟨hc, hr⟩
      · clear mb CR CN
        rcases hm with rfl | rfl
        all_goals
          go_enter Tryz.func6, Tryz.ntmps6
          go_wp2_with fail
          refine (CD.out _).mono ?_
          rintro _ w1 ⟨rfl, h1⟩
          replace U := Up.trans (by first | exact U | exact U.drew | exact U.drewN _) h1
          clear h1
          go_upto_region 2 with fail
          obtain ⟨VX, hVX⟩ : ∃ VX, w1.alloc (.cells #[.int .i64 4, .bool g, u64 m, .int .i64 z] 31) = VX := ⟨_, rfl⟩
          have X : Ob VX w1.heap.size 31 #[.int .i64 4, .bool g, u64 m, .int .i64 z] := by rw [← hVX]; exact Ob.mk_ _ _ _
          have uVX : Up w1 VX := by rw [← hVX]; exact (Up.refl _).alloc _
          rw [hVX]
          clear hVX
          replace U := U.trans uVX
          have X0 := X.get 0
          have X1 := X.get 1
          have X2 := X.get 2
          have X3 := X.get 3
          simp only [List.getElem?_toArray, List.getElem?_cons_zero, List.getElem?_cons_succ] at X0 X1 X2 X3
          go_wp2_with fail
          clear X0 X1 X2 X3
          refine (CO.out _).mono ?_
          rintro _ w2 ⟨rfl, h2⟩
          replace U := Up.trans (by first | exact U | exact U.drew | exact U.drewN _) h2
          replace X := X.up (Up.trans (by first | exact Up.refl _ | exact (Up.refl _).drew | exact (Up.refl _).drewN _) h2)
          clear h2
          have X0 := X.get 0
          have X1 := X.get 1
          have X2 := X.get 2
          have X3 := X.get 3
          simp only [List.getElem?_toArray, List.getElem?_cons_zero, List.getElem?_cons_succ] at X0 X1 X2 X3
          go_upto_region 5 with fail
          clear X0 X1 X2 X3
          obtain ⟨VF, hVF⟩ : ∃ VF, w2.alloc (.cells #[.int .i64 f.k, .int .i64 f.W, .int .i64 f.m, .int .i64 f.b, .int .u64 f.t, .int .u64 f.n, .int .u64 f.x] 41) = VF := ⟨_, rfl⟩
          have F : Bf VF w2.heap.size 41 f := by rw [← hVF]; exact Bf.mk_ _ _ _
          have uVF : Up w2 VF := by rw [← hVF]; exact (Up.refl _).alloc _
          rw [hVF]
          clear hVF
          replace U := U.trans uVF
          replace X := X.up uVF
          have X0 := X.get 0
          have X1 := X.get 1
          have X2 := X.get 2
          have X3 := X.get 3
          simp only [List.getElem?_toArray, List.getElem?_cons_zero, List.getElem?_cons_succ] at X0 X1 X2 X3
          obtain ⟨F0, F1, F2, F3, F4, F5, F6⟩ := Bf.cs F
          try simp only [Nat.zero_add] at F1 F2 F3 F4 F5 F6
          go_wp2_with fail
          clear X0 X1 X2 X3 F0 F1 F2 F3 F4 F5 F6
          go_ret2
          exact ⟨rfl, by first | exact U | exact U.drew | exact U.drewN _⟩
      · clear mb CR CN
        have d1 : (f.k == 1) = true ∨ ((f.k == 1) = false ∧ (f.k == 4) = true ∧ g = true) := by
          by_cases k1 : f.k = 1
          · exact .inl (by simpa using k1)
          · exact .inr ⟨by simpa using k1, by rcases hk with e | ⟨e, _⟩; exact absurd e k1; simpa using e, by rcases hk with e | ⟨_, e⟩; exact absurd e k1; exact e⟩
        clear hk
        rcases hm with rfl | rfl <;> rcases d1 with d1 | ⟨d1, d2, rfl⟩
        · go_enter Tryz.func6, Tryz.ntmps6
          go_wp2_with fail
          refine (CD.out _).mono ?_
          rintro _ w1 ⟨rfl, h1⟩
          replace U := Up.trans (by first | exact U | exact U.drew | exact U.drewN _) h1
          clear h1
          go_upto_region 2 with fail
          obtain ⟨VX, hVX⟩ : ∃ VX, w1.alloc (.cells #[.int .i64 3, .bool g, u64 m, .int .i64 z] 31) = VX := ⟨_, rfl⟩
          have X : Ob VX w1.heap.size 31 #[.int .i64 3, .bool g, u64 m, .int .i64 z] := by rw [← hVX]; exact Ob.mk_ _ _ _
          have uVX : Up w1 VX := by rw [← hVX]; exact (Up.refl _).alloc _
          rw [hVX]
          clear hVX
          replace U := U.trans uVX
          have X0 := X.get 0
          have X1 := X.get 1
          have X2 := X.get 2
          have X3 := X.get 3
          simp only [List.getElem?_toArray, List.getElem?_cons_zero, List.getElem?_cons_succ] at X0 X1 X2 X3
          go_wp2_with fail
          clear X0 X1 X2 X3
          refine (CO.out _).mono ?_
          rintro _ w2 ⟨rfl, h2⟩
          replace U := Up.trans (by first | exact U | exact U.drew | exact U.drewN _) h2
          replace X := X.up (Up.trans (by first | exact Up.refl _ | exact (Up.refl _).drew | exact (Up.refl _).drewN _) h2)
          clear h2
          have X0 := X.get 0
          have X1 := X.get 1
          have X2 := X.get 2
          have X3 := X.get 3
          simp only [List.getElem?_toArray, List.getElem?_cons_zero, List.getElem?_cons_succ] at X0 X1 X2 X3
          go_upto_region 5 with fail
          clear X0 X1 X2 X3
          obtain ⟨VF, hVF⟩ : ∃ VF, w2.alloc (.cells #[.int .i64 f.k, .int .i64 f.W, .int .i64 f.m, .int .i64 f.b, .int .u64 f.t, .int .u64 f.n, .int .u64 f.x] 41) = VF := ⟨_, rfl⟩
          have F : Bf VF w2.heap.size 41 f := by rw [← hVF]; exact Bf.mk_ _ _ _
          have uVF : Up w2 VF := by rw [← hVF]; exact (Up.refl _).alloc _
          rw [hVF]
          clear hVF
          replace U := U.trans uVF
          replace X := X.up uVF
          have X0 := X.get 0
          have X1 := X.get 1
          have X2 := X.get 2
          have X3 := X.get 3
          simp only [List.getElem?_toArray, List.getElem?_cons_zero, List.getElem?_cons_succ] at X0 X1 X2 X3
          obtain ⟨F0, F1, F2, F3, F4, F5, F6⟩ := Bf.cs F
          try simp only [Nat.zero_add] at F1 F2 F3 F4 F5 F6
          go_wp2_with fail
          clear X0 X1 X2 X3 F0 F1 F2 F3 F4 F5 F6
          go_ret2
          exact ⟨rfl, by first | exact U | exact U.drew | exact U.drewN _⟩
        · go_enter Tryz.func6, Tryz.ntmps6
          go_wp2_with fail
          refine (CD.out _).mono ?_
          rintro _ w1 ⟨rfl, h1⟩
          replace U := Up.trans (by first | exact U | exact U.drew | exact U.drewN _) h1
          clear h1
          go_upto_region 2 with fail
          obtain ⟨VX, hVX⟩ : ∃ VX, w1.alloc (.cells #[.int .i64 3, .bool true, u64 m, .int .i64 z] 31) = VX := ⟨_, rfl⟩
          have X : Ob VX w1.heap.size 31 #[.int .i64 3, .bool true, u64 m, .int .i64 z] := by rw [← hVX]; exact Ob.mk_ _ _ _
          have uVX : Up w1 VX := by rw [← hVX]; exact (Up.refl _).alloc _
          rw [hVX]
          clear hVX
          replace U := U.trans uVX
          have X0 := X.get 0
          have X1 := X.get 1
          have X2 := X.get 2
          have X3 := X.get 3
          simp only [List.getElem?_toArray, List.getElem?_cons_zero, List.getElem?_cons_succ] at X0 X1 X2 X3
          go_wp2_with fail
          clear X0 X1 X2 X3
          refine (CO.out _).mono ?_
          rintro _ w2 ⟨rfl, h2⟩
          replace U := Up.trans (by first | exact U | exact U.drew | exact U.drewN _) h2
          replace X := X.up (Up.trans (by first | exact Up.refl _ | exact (Up.refl _).drew | exact (Up.refl _).drewN _) h2)
          clear h2
          have X0 := X.get 0
          have X1 := X.get 1
          have X2 := X.get 2
          have X3 := X.get 3
          simp only [List.getElem?_toArray, List.getElem?_cons_zero, List.getElem?_cons_succ] at X0 X1 X2 X3
          go_upto_region 5 with fail
          clear X0 X1 X2 X3
          obtain ⟨VF, hVF⟩ : ∃ VF, w2.alloc (.cells #[.int .i64 f.k, .int .i64 f.W, .int .i64 f.m, .int .i64 f.b, .int .u64 f.t, .int .u64 f.n, .int .u64 f.x] 41) = VF := ⟨_, rfl⟩
          have F : Bf VF w2.heap.size 41 f := by rw [← hVF]; exact Bf.mk_ _ _ _
          have uVF : Up w2 VF := by rw [← hVF]; exact (Up.refl _).alloc _
          rw [hVF]
          clear hVF
          replace U := U.trans uVF
          replace X := X.up uVF
          have X0 := X.get 0
          have X1 := X.get 1
          have X2 := X.get 2
          have X3 := X.get 3
          simp only [List.getElem?_toArray, List.getElem?_cons_zero, List.getElem?_cons_succ] at X0 X1 X2 X3
          obtain ⟨F0, F1, F2, F3, F4, F5, F6⟩ := Bf.cs F
          try simp only [Nat.zero_add] at F1 F2 F3 F4 F5 F6
          go_wp2_with fail
          clear X0 X1 X2 X3 F0 F1 F2 F3 F4 F5 F6
          go_ret2
          exact ⟨rfl, by first | exact U | exact U.drew | exact U.drewN _⟩
        · go_enter Tryz.func6, Tryz.ntmps6
          go_wp2_with fail
          refine (CD.out _).mono ?_
          rintro _ w1 ⟨rfl, h1⟩
          replace U := Up.trans (by first | exact U | exact U.drew | exact U.drewN _) h1
          clear h1
          go_upto_region 2 with fail
          obtain ⟨VX, hVX⟩ : ∃ VX, w1.alloc (.cells #[.int .i64 3, .bool g, u64 m, .int .i64 z] 31) = VX := ⟨_, rfl⟩
          have X : Ob VX w1.heap.size 31 #[.int .i64 3, .bool g, u64 m, .int .i64 z] := by rw [← hVX]; exact Ob.mk_ _ _ _
          have uVX : Up w1 VX := by rw [← hVX]; exact (Up.refl _).alloc _
          rw [hVX]
          clear hVX
          replace U := U.trans uVX
          have X0 := X.get 0
          have X1 := X.get 1
          have X2 := X.get 2
          have X3 := X.get 3
          simp only [List.getElem?_toArray, List.getElem?_cons_zero, List.getElem?_cons_succ] at X0 X1 X2 X3
          go_wp2_with fail
          clear X0 X1 X2 X3
          refine (CO.out _).mono ?_
          rintro _ w2 ⟨rfl, h2⟩
          replace U := Up.trans (by first | exact U | exact U.drew | exact U.drewN _) h2
          replace X := X.up (Up.trans (by first | exact Up.refl _ | exact (Up.refl _).drew | exact (Up.refl _).drewN _) h2)
          clear h2
          have X0 := X.get 0
          have X1 := X.get 1
          have X2 := X.get 2
          have X3 := X.get 3
          simp only [List.getElem?_toArray, List.getElem?_cons_zero, List.getElem?_cons_succ] at X0 X1 X2 X3
          go_upto_region 5 with fail
          clear X0 X1 X2 X3
          obtain ⟨VF, hVF⟩ : ∃ VF, w2.alloc (.cells #[.int .i64 f.k, .int .i64 f.W, .int .i64 f.m, .int .i64 f.b, .int .u64 f.t, .int .u64 f.n, .int .u64 f.x] 41) = VF := ⟨_, rfl⟩
          have F : Bf VF w2.heap.size 41 f := by rw [← hVF]; exact Bf.mk_ _ _ _
          have uVF : Up w2 VF := by rw [← hVF]; exact (Up.refl _).alloc _
          rw [hVF]
          clear hVF
          replace U := U.trans uVF
          replace X := X.up uVF
          have X0 := X.get 0
          have X1 := X.get 1
          have X2 := X.get 2
          have X3 := X.get 3
          simp only [List.getElem?_toArray, List.getElem?_cons_zero, List.getElem?_cons_succ] at X0 X1 X2 X3
          obtain ⟨F0, F1, F2, F3, F4, F5, F6⟩ := Bf.cs F
          try simp only [Nat.zero_add] at F1 F2 F3 F4 F5 F6
          go_wp2_with fail
          clear X0 X1 X2 X3 F0 F1 F2 F3 F4 F5 F6
          go_ret2
          exact ⟨rfl, by first | exact U | exact U.drew | exact U.drewN _⟩
        · go_enter Tryz.func6, Tryz.ntmps6
          go_wp2_with fail
          refine (CD.out _).mono ?_
          rintro _ w1 ⟨rfl, h1⟩
          replace U := Up.trans (by first | exact U | exact U.drew | exact U.drewN _) h1
          clear h1
          go_upto_region 2 with fail
          obtain ⟨VX, hVX⟩ : ∃ VX, w1.alloc (.cells #[.int .i64 3, .bool true, u64 m, .int .i64 z] 31) = VX := ⟨_, rfl⟩
          have X : Ob VX w1.heap.size 31 #[.int .i64 3, .bool true, u64 m, .int .i64 z] := by rw [← hVX]; exact Ob.mk_ _ _ _
          have uVX : Up w1 VX := by rw [← hVX]; exact (Up.refl _).alloc _
          rw [hVX]
          clear hVX
          replace U := U.trans uVX
          have X0 := X.get 0
          have X1 := X.get 1
          have X2 := X.get 2
          have X3 := X.get 3
          simp only [List.getElem?_toArray, List.getElem?_cons_zero, List.getElem?_cons_succ] at X0 X1 X2 X3
          go_wp2_with fail
          clear X0 X1 X2 X3
          refine (CO.out _).mono ?_
          rintro _ w2 ⟨rfl, h2⟩
          replace U := Up.trans (by first | exact U | exact U.drew | exact U.drewN _) h2
          replace X := X.up (Up.trans (by first | exact Up.refl _ | exact (Up.refl _).drew | exact (Up.refl _).drewN _) h2)
          clear h2
          have X0 := X.get 0
          have X1 := X.get 1
          have X2 := X.get 2
          have X3 := X.get 3
          simp only [List.getElem?_toArray, List.getElem?_cons_zero, List.getElem?_cons_succ] at X0 X1 X2 X3
          go_upto_region 5 with fail
          clear X0 X1 X2 X3
          obtain ⟨VF, hVF⟩ : ∃ VF, w2.alloc (.cells #[.int .i64 f.k, .int .i64 f.W, .int .i64 f.m, .int .i64 f.b, .int .u64 f.t, .int .u64 f.n, .int .u64 f.x] 41) = VF := ⟨_, rfl⟩
          have F : Bf VF w2.heap.size 41 f := by rw [← hVF]; exact Bf.mk_ _ _ _
          have uVF : Up w2 VF := by rw [← hVF]; exact (Up.refl _).alloc _
          rw [hVF]
          clear hVF
          replace U := U.trans uVF
          replace X := X.up uVF
          have X0 := X.get 0
          have X1 := X.get 1
          have X2 := X.get 2
          have X3 := X.get 3
          simp only [List.getElem?_toArray, List.getElem?_cons_zero, List.getElem?_cons_succ] at X0 X1 X2 X3
          obtain ⟨F0, F1, F2, F3, F4, F5, F6⟩ := Bf.cs F
          try simp only [Nat.zero_add] at F1 F2 F3 F4 F5 F6
          go_wp2_with fail
          clear X0 X1 X2 X3 F0 F1 F2 F3 F4 F5 F6
          go_ret2
          exact ⟨rfl, by first | exact U | exact U.drew | exact U.drewN _⟩
      · have HR := Lib.hid hr
        have d1 : (f.k == 1) = false := by
          have : f.k ≠ 1 := fun e => hk (.inl e)
          simpa using this
        have d2 : (f.k == 4) = false ∨ ((f.k == 4) = true ∧ g = false) := by
          by_cases k4 : f.k = 4
          · exact .inr ⟨by simpa using k4, by cases g; rfl; exact absurd (.inr ⟨k4, rfl⟩) hk⟩
          · exact .inl (by simpa using k4)
        clear hk hr mb CN
        rcases hm with rfl | rfl <;> rcases d2 with d2 | ⟨d2, rfl⟩
        · go_enter Tryz.func6, Tryz.ntmps6
          go_wp2_with fail
          refine (CD.out _).mono ?_
          rintro _ w1 ⟨rfl, h1⟩
          replace U := Up.trans (by first | exact U | exact U.drew | exact U.drewN _) h1
          clear h1
          go_upto_region 2 with fail
          obtain ⟨VX, hVX⟩ : ∃ VX, w1.alloc (.cells #[.int .i64 3, .bool g, u64 m, .int .i64 z] 31) = VX := ⟨_, rfl⟩
          have X : Ob VX w1.heap.size 31 #[.int .i64 3, .bool g, u64 m, .int .i64 z] := by rw [← hVX]; exact Ob.mk_ _ _ _
          have uVX : Up w1 VX := by rw [← hVX]; exact (Up.refl _).alloc _
          rw [hVX]
          clear hVX
          replace U := U.trans uVX
          have X0 := X.get 0
          have X1 := X.get 1
          have X2 := X.get 2
          have X3 := X.get 3
          simp only [List.getElem?_toArray, List.getElem?_cons_zero, List.getElem?_cons_succ] at X0 X1 X2 X3
          go_wp2_with fail
          clear X0 X1 X2 X3
          refine (CO.out _).mono ?_
          rintro _ w2 ⟨rfl, h2⟩
          replace U := Up.trans (by first | exact U | exact U.drew | exact U.drewN _) h2
          replace X := X.up (Up.trans (by first | exact Up.refl _ | exact (Up.refl _).drew | exact (Up.refl _).drewN _) h2)
          clear h2
          have X0 := X.get 0
          have X1 := X.get 1
          have X2 := X.get 2
          have X3 := X.get 3
          simp only [List.getElem?_toArray, List.getElem?_cons_zero, List.getElem?_cons_succ] at X0 X1 X2 X3
          go_upto_region 5 with fail
          clear X0 X1 X2 X3
          obtain ⟨VF, hVF⟩ : ∃ VF, w2.alloc (.cells #[.int .i64 f.k, .int .i64 f.W, .int .i64 f.m, .int .i64 f.b, .int .u64 f.t, .int .u64 f.n, .int .u64 f.x] 41) = VF := ⟨_, rfl⟩
          have F : Bf VF w2.heap.size 41 f := by rw [← hVF]; exact Bf.mk_ _ _ _
          have uVF : Up w2 VF := by rw [← hVF]; exact (Up.refl _).alloc _
          rw [hVF]
          clear hVF
          replace U := U.trans uVF
          replace X := X.up uVF
          have X0 := X.get 0
          have X1 := X.get 1
          have X2 := X.get 2
          have X3 := X.get 3
          simp only [List.getElem?_toArray, List.getElem?_cons_zero, List.getElem?_cons_succ] at X0 X1 X2 X3
          obtain ⟨F0, F1, F2, F3, F4, F5, F6⟩ := Bf.cs F
          try simp only [Nat.zero_add] at F1 F2 F3 F4 F5 F6
          go_wp2_with fail
          clear X0 X1 X2 X3 F0 F1 F2 F3 F4 F5 F6
          refine (CR.out _ _ _ _ _ _ _ (lit1n _ 1 1 rfl (by decide) (by decide)) (Nat.le_refl _) (by decide) _ HR.out).mono ?_
          rintro _ w3 ⟨rfl, h3⟩
          replace U := Up.trans (by first | exact U.alloc _ | exact U.drew.alloc _ | exact (U.drewN _).alloc _) h3
          go_wp2_with fail
          go_ret2
          exact ⟨rfl, by first | exact U | exact U.drew | exact U.drewN _⟩
        · go_enter Tryz.func6, Tryz.ntmps6
          go_wp2_with fail
          refine (CD.out _).mono ?_
          rintro _ w1 ⟨rfl, h1⟩
          replace U := Up.trans (by first | exact U | exact U.drew | exact U.drewN _) h1
          clear h1
          go_upto_region 2 with fail
          obtain ⟨VX, hVX⟩ : ∃ VX, w1.alloc (.cells #[.int .i64 3, .bool false, u64 m, .int .i64 z] 31) = VX := ⟨_, rfl⟩
          have X : Ob VX w1.heap.size 31 #[.int .i64 3, .bool false, u64 m, .int .i64 z] := by rw [← hVX]; exact Ob.mk_ _ _ _
          have uVX : Up w1 VX := by rw [← hVX]; exact (Up.refl _).alloc _
          rw [hVX]
          clear hVX
          replace U := U.trans uVX
          have X0 := X.get 0
          have X1 := X.get 1
          have X2 := X.get 2
          have X3 := X.get 3
          simp only [List.getElem?_toArray, List.getElem?_cons_zero, List.getElem?_cons_succ] at X0 X1 X2 X3
          go_wp2_with fail
          clear X0 X1 X2 X3
          refine (CO.out _).mono ?_
          rintro _ w2 ⟨rfl, h2⟩
          replace U := Up.trans (by first | exact U | exact U.drew | exact U.drewN _) h2
          replace X := X.up (Up.trans (by first | exact Up.refl _ | exact (Up.refl _).drew | exact (Up.refl _).drewN _) h2)
          clear h2
          have X0 := X.get 0
          have X1 := X.get 1
          have X2 := X.get 2
          have X3 := X.get 3
          simp only [List.getElem?_toArray, List.getElem?_cons_zero, List.getElem?_cons_succ] at X0 X1 X2 X3
          go_upto_region 5 with fail
          clear X0 X1 X2 X3
          obtain ⟨VF, hVF⟩ : ∃ VF, w2.alloc (.cells #[.int .i64 f.k, .int .i64 f.W, .int .i64 f.m, .int .i64 f.b, .int .u64 f.t, .int .u64 f.n, .int .u64 f.x] 41) = VF := ⟨_, rfl⟩
          have F : Bf VF w2.heap.size 41 f := by rw [← hVF]; exact Bf.mk_ _ _ _
          have uVF : Up w2 VF := by rw [← hVF]; exact (Up.refl _).alloc _
          rw [hVF]
          clear hVF
          replace U := U.trans uVF
          replace X := X.up uVF
          have X0 := X.get 0
          have X1 := X.get 1
          have X2 := X.get 2
          have X3 := X.get 3
          simp only [List.getElem?_toArray, List.getElem?_cons_zero, List.getElem?_cons_succ] at X0 X1 X2 X3
          obtain ⟨F0, F1, F2, F3, F4, F5, F6⟩ := Bf.cs F
          try simp only [Nat.zero_add] at F1 F2 F3 F4 F5 F6
          go_wp2_with fail
          clear X0 X1 X2 X3 F0 F1 F2 F3 F4 F5 F6
          refine (CR.out _ _ _ _ _ _ _ (lit1n _ 1 1 rfl (by decide) (by decide)) (Nat.le_refl _) (by decide) _ HR.out).mono ?_
          rintro _ w3 ⟨rfl, h3⟩
          replace U := Up.trans (by first | exact U.alloc _ | exact U.drew.alloc _ | exact (U.drewN _).alloc _) h3
          go_wp2_with fail
          go_ret2
          exact ⟨rfl, by first | exact U | exact U.drew | exact U.drewN _⟩
        · go_enter Tryz.func6, Tryz.ntmps6
          go_wp2_with fail
          refine (CD.out _).mono ?_
          rintro _ w1 ⟨rfl, h1⟩
          replace U := Up.trans (by first | exact U | exact U.drew | exact U.drewN _) h1
          clear h1
          go_upto_region 2 with fail
          obtain ⟨VX, hVX⟩ : ∃ VX, w1.alloc (.cells #[.int .i64 3, .bool g, u64 m, .int .i64 z] 31) = VX := ⟨_, rfl⟩
          have X : Ob VX w1.heap.size 31 #[.int .i64 3, .bool g, u64 m, .int .i64 z] := by rw [← hVX]; exact Ob.mk_ _ _ _
          have uVX : Up w1 VX := by rw [← hVX]; exact (Up.refl _).alloc _
          rw [hVX]
          clear hVX
          replace U := U.trans uVX
          have X0 := X.get 0
          have X1 := X.get 1
          have X2 := X.get 2
          have X3 := X.get 3
          simp only [List.getElem?_toArray, List.getElem?_cons_zero, List.getElem?_cons_succ] at X0 X1 X2 X3
          go_wp2_with fail
          clear X0 X1 X2 X3
          refine (CO.out _).mono ?_
          rintro _ w2 ⟨rfl, h2⟩
          replace U := Up.trans (by first | exact U | exact U.drew | exact U.drewN _) h2
          replace X := X.up (Up.trans (by first | exact Up.refl _ | exact (Up.refl _).drew | exact (Up.refl _).drewN _) h2)
          clear h2
          have X0 := X.get 0
          have X1 := X.get 1
          have X2 := X.get 2
          have X3 := X.get 3
          simp only [List.getElem?_toArray, List.getElem?_cons_zero, List.getElem?_cons_succ] at X0 X1 X2 X3
          go_upto_region 5 with fail
          clear X0 X1 X2 X3
          obtain ⟨VF, hVF⟩ : ∃ VF, w2.alloc (.cells #[.int .i64 f.k, .int .i64 f.W, .int .i64 f.m, .int .i64 f.b, .int .u64 f.t, .int .u64 f.n, .int .u64 f.x] 41) = VF := ⟨_, rfl⟩
          have F : Bf VF w2.heap.size 41 f := by rw [← hVF]; exact Bf.mk_ _ _ _
          have uVF : Up w2 VF := by rw [← hVF]; exact (Up.refl _).alloc _
          rw [hVF]
          clear hVF
          replace U := U.trans uVF
          replace X := X.up uVF
          have X0 := X.get 0
          have X1 := X.get 1
          have X2 := X.get 2
          have X3 := X.get 3
          simp only [List.getElem?_toArray, List.getElem?_cons_zero, List.getElem?_cons_succ] at X0 X1 X2 X3
          obtain ⟨F0, F1, F2, F3, F4, F5, F6⟩ := Bf.cs F
          try simp only [Nat.zero_add] at F1 F2 F3 F4 F5 F6
          go_wp2_with fail
          clear X0 X1 X2 X3 F0 F1 F2 F3 F4 F5 F6
          refine (CR.out _ _ _ _ _ _ _ (lit1n _ 1 1 rfl (by decide) (by decide)) (Nat.le_refl _) (by decide) _ HR.out).mono ?_
          rintro _ w3 ⟨rfl, h3⟩
          replace U := Up.trans (by first | exact U.alloc _ | exact U.drew.alloc _ | exact (U.drewN _).alloc _) h3
          go_wp2_with fail
          go_ret2
          exact ⟨rfl, by first | exact U | exact U.drew | exact U.drewN _⟩
        · go_enter Tryz.func6, Tryz.ntmps6
          go_wp2_with fail
          refine (CD.out _).mono ?_
          rintro _ w1 ⟨rfl, h1⟩
          replace U := Up.trans (by first | exact U | exact U.drew | exact U.drewN _) h1
          clear h1
          go_upto_region 2 with fail
          obtain ⟨VX, hVX⟩ : ∃ VX, w1.alloc (.cells #[.int .i64 3, .bool false, u64 m, .int .i64 z] 31) = VX := ⟨_, rfl⟩
          have X : Ob VX w1.heap.size 31 #[.int .i64 3, .bool false, u64 m, .int .i64 z] := by rw [← hVX]; exact Ob.mk_ _ _ _
          have uVX : Up w1 VX := by rw [← hVX]; exact (Up.refl _).alloc _
          rw [hVX]
          clear hVX
          replace U := U.trans uVX
          have X0 := X.get 0
          have X1 := X.get 1
          have X2 := X.get 2
          have X3 := X.get 3
          simp only [List.getElem?_toArray, List.getElem?_cons_zero, List.getElem?_cons_succ] at X0 X1 X2 X3
          go_wp2_with fail
          clear X0 X1 X2 X3
          refine (CO.out _).mono ?_
          rintro _ w2 ⟨rfl, h2⟩
          replace U := Up.trans (by first | exact U | exact U.drew | exact U.drewN _) h2
          replace X := X.up (Up.trans (by first | exact Up.refl _ | exact (Up.refl _).drew | exact (Up.refl _).drewN _) h2)
          clear h2
          have X0 := X.get 0
          have X1 := X.get 1
          have X2 := X.get 2
          have X3 := X.get 3
          simp only [List.getElem?_toArray, List.getElem?_cons_zero, List.getElem?_cons_succ] at X0 X1 X2 X3
          go_upto_region 5 with fail
          clear X0 X1 X2 X3
          obtain ⟨VF, hVF⟩ : ∃ VF, w2.alloc (.cells #[.int .i64 f.k, .int .i64 f.W, .int .i64 f.m, .int .i64 f.b, .int .u64 f.t, .int .u64 f.n, .int .u64 f.x] 41) = VF := ⟨_, rfl⟩
          have F : Bf VF w2.heap.size 41 f := by rw [← hVF]; exact Bf.mk_ _ _ _
          have uVF : Up w2 VF := by rw [← hVF]; exact (Up.refl _).alloc _
          rw [hVF]
          clear hVF
          replace U := U.trans uVF
          replace X := X.up uVF
          have X0 := X.get 0
          have X1 := X.get 1
          have X2 := X.get 2
          have X3 := X.get 3
          simp only [List.getElem?_toArray, List.getElem?_cons_zero, List.getElem?_cons_succ] at X0 X1 X2 X3
          obtain ⟨F0, F1, F2, F3, F4, F5, F6⟩ := Bf.cs F
          try simp only [Nat.zero_add] at F1 F2 F3 F4 F5 F6
          go_wp2_with fail
          clear X0 X1 X2 X3 F0 F1 F2 F3 F4 F5 F6
          refine (CR.out _ _ _ _ _ _ _ (lit1n _ 1 1 rfl (by decide) (by decide)) (Nat.le_refl _) (by decide) _ HR.out).mono ?_
          rintro _ w3 ⟨rfl, h3⟩
          replace U := Up.trans (by first | exact U.alloc _ | exact U.drew.alloc _ | exact (U.drewN _).alloc _) h3
          go_wp2_with fail
          go_ret2
          exact ⟨rfl, by first | exact U | exact U.drew | exact U.drewN _⟩
      · have HR := Lib.hid hr
        have HM := Lib.hid (mb.2.2 hc)
        have HZ : Hid (-4000 ≤ z ∧ z ≤ 4000) := by
          have := mb.2.1 hc
          exact (show -4000 ≤ z ∧ z ≤ 4000 by omega)
        clear hr mb
        rcases hm with rfl | rfl <;> rcases hc with rfl | rfl
        · go_enter Tryz.func6, Tryz.ntmps6
          go_wp2_with fail
          refine (CD.out _).mono ?_
          rintro _ w1 ⟨rfl, h1⟩
          replace U := Up.trans (by first | exact U | exact U.drew | exact U.drewN _) h1
          clear h1
          go_upto_region 2 with fail
          obtain ⟨VX, hVX⟩ : ∃ VX, w1.alloc (.cells #[.int .i64 1, .bool g, u64 m, .int .i64 z] 31) = VX := ⟨_, rfl⟩
          have X : Ob VX w1.heap.size 31 #[.int .i64 1, .bool g, u64 m, .int .i64 z] := by rw [← hVX]; exact Ob.mk_ _ _ _
          have uVX : Up w1 VX := by rw [← hVX]; exact (Up.refl _).alloc _
          rw [hVX]
          clear hVX
          replace U := U.trans uVX
          have X0 := X.get 0
          have X1 := X.get 1
          have X2 := X.get 2
          have X3 := X.get 3
          simp only [List.getElem?_toArray, List.getElem?_cons_zero, List.getElem?_cons_succ] at X0 X1 X2 X3
          go_wp2_with fail
          clear X0 X1 X2 X3
          refine (CO.out _).mono ?_
          rintro _ w2 ⟨rfl, h2⟩
          replace U := Up.trans (by first | exact U | exact U.drew | exact U.drewN _) h2
          replace X := X.up (Up.trans (by first | exact Up.refl _ | exact (Up.refl _).drew | exact (Up.refl _).drewN _) h2)
          clear h2
          have X0 := X.get 0
          have X1 := X.get 1
          have X2 := X.get 2
          have X3 := X.get 3
          simp only [List.getElem?_toArray, List.getElem?_cons_zero, List.getElem?_cons_succ] at X0 X1 X2 X3
          go_upto_region 5 with fail
          clear X0 X1 X2 X3
          obtain ⟨VF, hVF⟩ : ∃ VF, w2.alloc (.cells #[.int .i64 f.k, .int .i64 f.W, .int .i64 f.m, .int .i64 f.b, .int .u64 f.t, .int .u64 f.n, .int .u64 f.x] 41) = VF := ⟨_, rfl⟩
          have F : Bf VF w2.heap.size 41 f := by rw [← hVF]; exact Bf.mk_ _ _ _
          have uVF : Up w2 VF := by rw [← hVF]; exact (Up.refl _).alloc _
          rw [hVF]
          clear hVF
          replace U := U.trans uVF
          replace X := X.up uVF
          have X0 := X.get 0
          have X1 := X.get 1
          have X2 := X.get 2
          have X3 := X.get 3
          simp only [List.getElem?_toArray, List.getElem?_cons_zero, List.getElem?_cons_succ] at X0 X1 X2 X3
          obtain ⟨F0, F1, F2, F3, F4, F5, F6⟩ := Bf.cs F
          try simp only [Nat.zero_add] at F1 F2 F3 F4 F5 F6
          go_wp2_with fail
          clear X0 X1 X2 X3 F0 F1 F2 F3 F4 F5 F6
          refine (CN.out _ _ HM.out).mono ?_
          rintro _ w3 ⟨v, rfl, N, h3⟩
          replace U := Up.trans (by first | exact U | exact U.drew | exact U.drewN _) h3
          obtain ⟨A, n1, c1, rfl, N⟩ := N.sl4
          clear h3 X F
          go_wp2_with fail
          refine (CR.out _ _ _ _ _ _ _ (by first | exact N | exact N.up ((Up.refl _).drew)) (Nat.le_refl _) HZ.out _ HR.out).mono ?_
          rintro _ w4 ⟨rfl, h4⟩
          replace U := Up.trans (by first | exact U | exact U.drew | exact U.drewN _) h4
          go_wp2_with fail
          go_ret2
          exact ⟨rfl, by first | exact U | exact U.drew | exact U.drewN _⟩
        · go_enter Tryz.func6, Tryz.ntmps6
          go_wp2_with fail
          refine (CD.out _).mono ?_
          rintro _ w1 ⟨rfl, h1⟩
          replace U := Up.trans (by first | exact U | exact U.drew | exact U.drewN _) h1
          clear h1
          go_upto_region 2 with fail
          obtain ⟨VX, hVX⟩ : ∃ VX, w1.alloc (.cells #[.int .i64 2, .bool g, u64 m, .int .i64 z] 31) = VX := ⟨_, rfl⟩
          have X : Ob VX w1.heap.size 31 #[.int .i64 2, .bool g, u64 m, .int .i64 z] := by rw [← hVX]; exact Ob.mk_ _ _ _
          have uVX : Up w1 VX := by rw [← hVX]; exact (Up.refl _).alloc _
          rw [hVX]
          clear hVX
          replace U := U.trans uVX
          have X0 := X.get 0
          have X1 := X.get 1
          have X2 := X.get 2
          have X3 := X.get 3
          simp only [List.getElem?_toArray, List.getElem?_cons_zero, List.getElem?_cons_succ] at X0 X1 X2 X3
          go_wp2_with fail
          clear X0 X1 X2 X3
          refine (CO.out _).mono ?_
          rintro _ w2 ⟨rfl, h2⟩
          replace U := Up.trans (by first | exact U | exact U.drew | exact U.drewN _) h2
          replace X := X.up (Up.trans (by first | exact Up.refl _ | exact (Up.refl _).drew | exact (Up.refl _).drewN _) h2)
          clear h2
          have X0 := X.get 0
          have X1 := X.get 1
          have X2 := X.get 2
          have X3 := X.get 3
          simp only [List.getElem?_toArray, List.getElem?_cons_zero, List.getElem?_cons_succ] at X0 X1 X2 X3
          go_upto_region 5 with fail
          clear X0 X1 X2 X3
          obtain ⟨VF, hVF⟩ : ∃ VF, w2.alloc (.cells #[.int .i64 f.k, .int .i64 f.W, .int .i64 f.m, .int .i64 f.b, .int .u64 f.t, .int .u64 f.n, .int .u64 f.x] 41) = VF := ⟨_, rfl⟩
          have F : Bf VF w2.heap.size 41 f := by rw [← hVF]; exact Bf.mk_ _ _ _
          have uVF : Up w2 VF := by rw [← hVF]; exact (Up.refl _).alloc _
          rw [hVF]
          clear hVF
          replace U := U.trans uVF
          replace X := X.up uVF
          have X0 := X.get 0
          have X1 := X.get 1
          have X2 := X.get 2
          have X3 := X.get 3
          simp only [List.getElem?_toArray, List.getElem?_cons_zero, List.getElem?_cons_succ] at X0 X1 X2 X3
          obtain ⟨F0, F1, F2, F3, F4, F5, F6⟩ := Bf.cs F
          try simp only [Nat.zero_add] at F1 F2 F3 F4 F5 F6
          go_wp2_with fail
          clear X0 X1 X2 X3 F0 F1 F2 F3 F4 F5 F6
          refine (CN.out _ _ HM.out).mono ?_
          rintro _ w3 ⟨v, rfl, N, h3⟩
          replace U := Up.trans (by first | exact U | exact U.drew | exact U.drewN _) h3
          obtain ⟨A, n1, c1, rfl, N⟩ := N.sl4
          clear h3 X F
          go_wp2_with fail
          refine (CR.out _ _ _ _ _ _ _ (by first | exact N | exact N.up ((Up.refl _).drew)) (Nat.le_refl _) HZ.out _ HR.out).mono ?_
          rintro _ w4 ⟨rfl, h4⟩
          replace U := Up.trans (by first | exact U | exact U.drew | exact U.drewN _) h4
          go_wp2_with fail
          go_ret2
          exact ⟨rfl, by first | exact U | exact U.drew | exact U.drewN _⟩
        · go_enter Tryz.func6, Tryz.ntmps6
          go_wp2_with fail
          refine (CD.out _).mono ?_
          rintro _ w1 ⟨rfl, h1⟩
          replace U := Up.trans (by first | exact U | exact U.drew | exact U.drewN _) h1
          clear h1
          go_upto_region 2 with fail
          obtain ⟨VX, hVX⟩ : ∃ VX, w1.alloc (.cells #[.int .i64 1, .bool g, u64 m, .int .i64 z] 31) = VX := ⟨_, rfl⟩
          have X : Ob VX w1.heap.size 31 #[.int .i64 1, .bool g, u64 m, .int .i64 z] := by rw [← hVX]; exact Ob.mk_ _ _ _
          have uVX : Up w1 VX := by rw [← hVX]; exact (Up.refl _).alloc _
          rw [hVX]
          clear hVX
          replace U := U.trans uVX
          have X0 := X.get 0
          have X1 := X.get 1
          have X2 := X.get 2
          have X3 := X.get 3
          simp only [List.getElem?_toArray, List.getElem?_cons_zero, List.getElem?_cons_succ] at X0 X1 X2 X3
          go_wp2_with fail
          clear X0 X1 X2 X3
          refine (CO.out _).mono ?_
          rintro _ w2 ⟨rfl, h2⟩
          replace U := Up.trans (by first | exact U | exact U.drew | exact U.drewN _) h2
          replace X := X.up (Up.trans (by first | exact Up.refl _ | exact (Up.refl _).drew | exact (Up.refl _).drewN _) h2)
          clear h2
          have X0 := X.get 0
          have X1 := X.get 1
          have X2 := X.get 2
          have X3 := X.get 3
          simp only [List.getElem?_toArray, List.getElem?_cons_zero, List.getElem?_cons_succ] at X0 X1 X2 X3
          go_upto_region 5 with fail
          clear X0 X1 X2 X3
          obtain ⟨VF, hVF⟩ : ∃ VF, w2.alloc (.cells #[.int .i64 f.k, .int .i64 f.W, .int .i64 f.m, .int .i64 f.b, .int .u64 f.t, .int .u64 f.n, .int .u64 f.x] 41) = VF := ⟨_, rfl⟩
          have F : Bf VF w2.heap.size 41 f := by rw [← hVF]; exact Bf.mk_ _ _ _
          have uVF : Up w2 VF := by rw [← hVF]; exact (Up.refl _).alloc _
          rw [hVF]
          clear hVF
          replace U := U.trans uVF
          replace X := X.up uVF
          have X0 := X.get 0
          have X1 := X.get 1
          have X2 := X.get 2
          have X3 := X.get 3
          simp only [List.getElem?_toArray, List.getElem?_cons_zero, List.getElem?_cons_succ] at X0 X1 X2 X3
          obtain ⟨F0, F1, F2, F3, F4, F5, F6⟩ := Bf.cs F
          try simp only [Nat.zero_add] at F1 F2 F3 F4 F5 F6
          go_wp2_with fail
          clear X0 X1 X2 X3 F0 F1 F2 F3 F4 F5 F6
          refine (CN.out _ _ HM.out).mono ?_
          rintro _ w3 ⟨v, rfl, N, h3⟩
          replace U := Up.trans (by first | exact U | exact U.drew | exact U.drewN _) h3
          obtain ⟨A, n1, c1, rfl, N⟩ := N.sl4
          clear h3 X F
          go_wp2_with fail
          refine (CR.out _ _ _ _ _ _ _ (by first | exact N | exact N.up ((Up.refl _).drew)) (Nat.le_refl _) HZ.out _ HR.out).mono ?_
          rintro _ w4 ⟨rfl, h4⟩
          replace U := Up.trans (by first | exact U | exact U.drew | exact U.drewN _) h4
          go_wp2_with fail
          go_ret2
          exact ⟨rfl, by first | exact U | exact U.drew | exact U.drewN _⟩
        · go_enter Tryz.func6, Tryz.ntmps6
          go_wp2_with fail
          refine (CD.out _).mono ?_
          rintro _ w1 ⟨rfl, h1⟩
          replace U := Up.trans (by first | exact U | exact U.drew | exact U.drewN _) h1
          clear h1
          go_upto_region 2 with fail
          obtain ⟨VX, hVX⟩ : ∃ VX, w1.alloc (.cells #[.int .i64 2, .bool g, u64 m, .int .i64 z] 31) = VX := ⟨_, rfl⟩
          have X : Ob VX w1.heap.size 31 #[.int .i64 2, .bool g, u64 m, .int .i64 z] := by rw [← hVX]; exact Ob.mk_ _ _ _
          have uVX : Up w1 VX := by rw [← hVX]; exact (Up.refl _).alloc _
          rw [hVX]
          clear hVX
          replace U := U.trans uVX
          have X0 := X.get 0
          have X1 := X.get 1
          have X2 := X.get 2
          have X3 := X.get 3
          simp only [List.getElem?_toArray, List.getElem?_cons_zero, List.getElem?_cons_succ] at X0 X1 X2 X3
          go_wp2_with fail
          clear X0 X1 X2 X3
          refine (CO.out _).mono ?_
          rintro _ w2 ⟨rfl, h2⟩
          replace U := Up.trans (by first | exact U | exact U.drew | exact U.drewN _) h2
          replace X := X.up (Up.trans (by first | exact Up.refl _ | exact (Up.refl _).drew | exact (Up.refl _).drewN _) h2)
          clear h2
          have X0 := X.get 0
          have X1 := X.get 1
          have X2 := X.get 2
          have X3 := X.get 3
          simp only [List.getElem?_toArray, List.getElem?_cons_zero, List.getElem?_cons_succ] at X0 X1 X2 X3
          go_upto_region 5 with fail
          clear X0 X1 X2 X3
          obtain ⟨VF, hVF⟩ : ∃ VF, w2.alloc (.cells #[.int .i64 f.k, .int .i64 f.W, .int .i64 f.m, .int .i64 f.b, .int .u64 f.t, .int .u64 f.n, .int .u64 f.x] 41) = VF := ⟨_, rfl⟩
          have F : Bf VF w2.heap.size 41 f := by rw [← hVF]; exact Bf.mk_ _ _ _
          have uVF : Up w2 VF := by rw [← hVF]; exact (Up.refl _).alloc _
          rw [hVF]
          clear hVF
          replace U := U.trans uVF
          replace X := X.up uVF
          have X0 := X.get 0
          have X1 := X.get 1
          have X2 := X.get 2
          have X3 := X.get 3
          simp only [List.getElem?_toArray, List.getElem?_cons_zero, List.getElem?_cons_succ] at X0 X1 X2 X3
          obtain ⟨F0, F1, F2, F3, F4, F5, F6⟩ := Bf.cs F
          try simp only [Nat.zero_add] at F1 F2 F3 F4 F5 F6
          go_wp2_with fail
          clear X0 X1 X2 X3 F0 F1 F2 F3 F4 F5 F6
          refine (CN.out _ _ HM.out).mono ?_
          rintro _ w3 ⟨v, rfl, N, h3⟩
          replace U := Up.trans (by first | exact U | exact U.drew | exact U.drewN _) h3
          obtain ⟨A, n1, c1, rfl, N⟩ := N.sl4
          clear h3 X F
          go_wp2_with fail
          refine (CR.out _ _ _ _ _ _ _ (by first | exact N | exact N.up ((Up.refl _).drew)) (Nat.le_refl _) HZ.out _ HR.out).mono ?_
          rintro _ w4 ⟨rfl, h4⟩
          replace U := Up.trans (by first | exact U | exact U.drew | exact U.drewN _) h4
          go_wp2_with fail
          go_ret2
          exact ⟨rfl, by first | exact U | exact U.drew | exact U.drewN _⟩
end Go.Proofs.YtadgoeplhichmaaGreatDoor
