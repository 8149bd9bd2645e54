/-
  RoundTells.
-/
import Derived.Test.YtlogglhonlannaaGreatDoorZd
import Derived.Test.YtlogglhonlannaaGreatDoorLb
namespace Go.Proofs.YtlogglhonlannaaGreatDoor
open Go.RowKit
set_option linter.unusedSimpArgs false
set_option linter.unusedVariables false

set_option maxHeartbeats 3000000 in
set_option maxRecDepth 100000 in
theorem rtells_walk (w : World) (TT : Hid (Tz w)) (TF : Hid (TabF w)) (x0 : Int) (_wx0 : (Lit.int .i64 x0).wf = true) (x1 : Int) (_wx1 : (Lit.int .i64 x1).wf = true) (x2 : Bool) (ng3 : Bool) (A3 : Option Addr) (ln3 cp3 : Nat) (xs3 : List Nat) (sr3 : Src w A3 ln3 cp3 xs3) (fz3 : Fz w A3 ln3) (_mx3 : cp3 ≤ maxLen) (tw3 : Int) (_wt3 : (Lit.int .i64 tw3).wf = true) (fv3 : Int) (_wv3 : (Lit.int .i64 fv3).wf = true) : Calls Tryz.prog 3 #[.int .i64 x0, .int .i64 x1, .bool x2, xv ng3 (.slice A3 ln3 cp3) tw3 fv3] w (True8 w) := by
  obtain ⟨t, ht⟩ : ∃ z, max (min tw3 1000) (-1000) = z := ⟨_, rfl⟩
  obtain ⟨g, hg⟩ : ∃ z, max (min fv3 1000) (-1000) = z := ⟨_, rfl⟩
  obtain ⟨mm3, a3, N3, CS3⟩ := small8_ex w ng3 A3 ln3 cp3 xs3 tw3 fv3 sr3 fz3 t g ht hg
  have bt : -5000 ≤ t ∧ t ≤ 5000 := by omega
  have bg : -5000 ≤ g ∧ g ≤ 5000 := by omega
  have h1283 := N3.lt128 (by decide)
  clear ht hg sr3 fz3
  obtain ⟨X, hX⟩ : ∃ X, M.sz a3 t g = X := ⟨_, rfl⟩
  have CR := Lib.hid (fun W (T : Tz W) (F : TabF W) (U : Up w W) (p e : Int) (hr : M.Rc x0 x1 ng3 X p e) => rnd_round W (Lib.hid T) (Lib.hid F) x0 x1 0 40 ng3 (.slice A3 mm3 cp3) t g a3 (N3.up U) (by decide) bt bg h1283 p e (by rw [hX]; exact hr))
  have CN := Lib.hid (fun W (T : Tz W) (F : TabF W) (U : Up w W) (k : Nat) (o : Bool) (e : Int) (hn : M.Nc x0 x2 X k o e) => rnd_nearest W (Lib.hid T) (Lib.hid F) x0 x2 0 40 ng3 (.slice A3 mm3 cp3) t g a3 (N3.up U) (by decide) bt bg h1283 k o e (by rw [hX]; exact hn))
  have DR := Lib.hid (fun W (U : Up w W) (i : Nat) (i1 : 1 ≤ i) (i2 : i ≤ 14) (p : Int) (hp : M.Rv (M.tb i) x1 ng3 X p) => rround8_any W i (M.tb i) (Lib.hid rfl) i1 i2 x1 0 40 ng3 (.slice A3 mm3 cp3) t g a3 (N3.up U) (by decide) bt bg p (by rw [hX]; exact hp))
  have DN := Lib.hid (fun W (U : Up w W) (i : Nat) (i1 : 1 ≤ i) (i2 : i ≤ 14) (h4 : ¬ ((M.tb i).k = 4 ∧ x2 = true)) (q k : Nat) (o : Bool) (hq : M.mst (M.tb i) x2 = q) (hn : M.Nr (M.tb i) q X k o) => rnearest8_any W i (M.tb i) (Lib.hid rfl) i1 i2 x2 h4 0 40 ng3 (.slice A3 mm3 cp3) t g a3 (N3.up U) (by decide) bt bg q k o hq (by rw [hX]; exact hn))
  clear hX N3 h1283 bt bg
  rcases M.in_or_out x0 with ho | ⟨i, rfl, i1, i2⟩
  ·
    have CR1 := Lib.hid (fun W T F U => CR.out W T F U 0 3 (.inl ⟨ho, rfl, rfl⟩))
    have CN1 := Lib.hid (fun W T F U => CN.out W T F U 0 false 3 (.inl ⟨ho, rfl, rfl, rfl⟩))
    have CF := Lib.hid (fun W => rof_out W x0 ho)
    clear CR CN DR DN ho
    have U := Up.refl w
    go_enter Tryz.func3, Tryz.ntmps3
    go_wp2_with fail
    obtain ⟨V1, hV1⟩ : ∃ V1, w.alloc (.cells #[.bool ng3, .slice A3 ln3 cp3, .int .i64 tw3, .int .i64 fv3] 25) = V1 := ⟨_, rfl⟩
    have B : Ob V1 w.heap.size 25 #[.bool ng3, .slice A3 ln3 cp3, .int .i64 tw3, .int .i64 fv3] := by rw [← hV1]; exact Ob.mk_ _ _ _
    have uV1 : Up w V1 := by rw [← hV1]; exact (Up.refl _).alloc _
    have ltB : w.heap.size ≤ w.heap.size := U.size
    rw [hV1]
    clear hV1
    replace U := U.trans uV1
    clear uV1
    refine (shown8_any _ (Lib.hid (TT.out.up U)) (Lib.hid (TF.out.up U))).mono ?_
    rintro _ w2 ⟨rfl, h2⟩
    replace U := U.trans h2
    replace B := B.up h2
    clear h2
    have B0 := B.get 0
    have B1 := B.get 1
    have B2 := B.get 2
    have B3 := B.get 3
    have Bf0 := B.fr 0
    have Bf1 := B.fr 1
    have Bf2 := B.fr 2
    have Bf3 := B.fr 3
    have Bl := B.lt
    simp only [List.getElem?_toArray, List.getElem?_cons_zero, List.getElem?_cons_succ] at B0 B1 B2 B3
    go_wp2_with fail
    clear B0 Bf0 B1 Bf1 B2 Bf2 B3 Bf3 Bl
    refine (CS3.out _ U).mono ?_
    rintro _ w3 ⟨rfl, h3⟩
    replace U := U.trans h3
    replace B := B.up h3
    clear h3
    go_upto_region 3 with (refine store_ob2 rfl 25 (.tmp 7) (.tmp 23) rfl _ #[.bool ng3, .slice A3 ln3 cp3, .int .i64 tw3, .int .i64 fv3] #[.bool ng3, .slice A3 mm3 cp3, .int .i64 t, .int .i64 g] rfl rfl 4 (by kernel_rfl) rfl rfl (by simp [Value.oneCell']) w U ltB 25 B ?_; clear U; intro V9 Z9 U ho; clear ho B; have B := Z9; clear Z9)
    have B0 := B.get 0
    have B1 := B.get 1
    have B2 := B.get 2
    have B3 := B.get 3
    have Bf0 := B.fr 0
    have Bf1 := B.fr 1
    have Bf2 := B.fr 2
    have Bf3 := B.fr 3
    have Bl := B.lt
    simp only [List.getElem?_toArray, List.getElem?_cons_zero, List.getElem?_cons_succ] at B0 B1 B2 B3
    go_wp2_with fail
    clear B0 Bf0 B1 Bf1 B2 Bf2 B3 Bf3 Bl
    refine (CR1.out _ (TT.out.up U) (TF.out.up U) U).mono ?_
    rintro _ w4 ⟨rfl, h4⟩
    replace U := U.trans h4
    replace B := B.up h4
    clear h4
    have B0 := B.get 0
    have B1 := B.get 1
    have B2 := B.get 2
    have B3 := B.get 3
    have Bf0 := B.fr 0
    have Bf1 := B.fr 1
    have Bf2 := B.fr 2
    have Bf3 := B.fr 3
    have Bl := B.lt
    simp only [List.getElem?_toArray, List.getElem?_cons_zero, List.getElem?_cons_succ] at B0 B1 B2 B3
    go_wp2_with fail
    clear B0 Bf0 B1 Bf1 B2 Bf2 B3 Bf3 Bl
    refine (CN1.out _ (TT.out.up U) (TF.out.up U) U).mono ?_
    rintro _ w5 ⟨rfl, h5⟩
    replace U := U.trans h5
    replace B := B.up h5
    clear h5
    go_wp2_with fail
    refine (CF.out _).mono ?_
    rintro _ w6 ⟨rfl, h6⟩
    replace U := U.trans h6
    replace B := B.up h6
    clear h6
    go_wp2_with fail
    first | go_ret | refine bodyPost_ret (v := .bool true) (by simp [results, Tryz.results3, go_sem]) rfl ?_
    exact ⟨by first | rfl | simp, by first | exact U | exact U.alloc _ | exact U.drewN _ | exact U.drew⟩
  ·
    have CF := Lib.hid (fun W => rof_in W i (M.tb i) (Lib.hid rfl) i1 i2)
    have ok := M.ok i i1 i2
    have ok2 := M.ok2 i i1 i2
    have ok3 := M.ok3 i i1 i2
    have HR : (x1 ≠ 1 ∧ x1 ≠ 2 ∧ Hid (∀ W, Tz W → TabF W → Up w W → Calls Tryz.prog 7 #[.int .i64 (i : Int), .int .i64 x1, xv ng3 (.slice A3 mm3 cp3) t g] W (Wn 0 1 W))) ∨
        ((x1 = 1 ∨ x1 = 2) ∧ ∃ p, Hid (∀ W, Tz W → TabF W → Up w W → Calls Tryz.prog 7 #[.int .i64 (i : Int), .int .i64 x1, xv ng3 (.slice A3 mm3 cp3) t g] W (Wn p 0 W)) ∧ Hid (∀ W, Up w W → Calls Tryz.prog 12 #[.int .i64 (i : Int), .int .i64 x1, xv ng3 (.slice A3 mm3 cp3) t g] W (Wz p W))) := by
      by_cases hm : x1 = 1 ∨ x1 = 2
      · obtain ⟨p, hp⟩ := M.rv_ex ok ok2 ok3 x1 ng3 X
        exact .inr ⟨hm, p, fun W T F U => CR.out W T F U p 0 (.inr ⟨i, rfl, i1, i2, .inr ⟨hm, hp, rfl⟩⟩), fun W U => DR.out W U i i1 i2 p hp⟩
      · exact .inl ⟨fun e => hm (.inl e), fun e => hm (.inr e), fun W T F U => CR.out W T F U 0 1 (.inr ⟨i, rfl, i1, i2, .inl ⟨hm, rfl, rfl⟩⟩)⟩
    have HN : (Hid (∀ W, Calls Tryz.prog 10 #[.int .i64 (i : Int), .bool x2] W (Wn 0 5 W)) ∧ Hid (∀ W, Tz W → TabF W → Up w W → Calls Tryz.prog 8 #[.int .i64 (i : Int), .bool x2, xv ng3 (.slice A3 mm3 cp3) t g] W (Nx 0 false 5 W))) ∨
        ∃ (q k : Nat) (o : Bool), Hid (∀ W, Calls Tryz.prog 10 #[.int .i64 (i : Int), .bool x2] W (Wn (q : Int) 0 W)) ∧ Hid (∀ W, Tz W → TabF W → Up w W → Calls Tryz.prog 8 #[.int .i64 (i : Int), .bool x2, xv ng3 (.slice A3 mm3 cp3) t g] W (Nx k o 0 W)) ∧ Hid (∀ W, Up w W → Calls Tryz.prog 11 #[.int .i64 (i : Int), .bool x2, xv ng3 (.slice A3 mm3 cp3) t g] W (Kx k o W)) := by
      by_cases h4 : (M.tb i).k = 4 ∧ x2 = true
      · exact .inl ⟨fun W => rmost_any W (i : Int) x2 0 5 (.inr ⟨i, rfl, i1, i2, .inl ⟨h4.1, h4.2, rfl, rfl⟩⟩), fun W T F U => CN.out W T F U 0 false 5 (.inr ⟨i, rfl, i1, i2, .inl ⟨h4.1, h4.2, rfl, rfl, rfl⟩⟩)⟩
      · obtain ⟨q, hq, _, _, qt⟩ := M.mst_rng ok ok2 ok3 x2
        obtain ⟨k, o, hn⟩ := M.nr_ex ok ok2 ok3 (q := q) (X := X) qt (fun _ => by omega)
        exact .inr ⟨q, k, o, fun W => rmost_any W (i : Int) x2 (q : Int) 0 (.inr ⟨i, rfl, i1, i2, .inr ⟨h4, hq.symm, rfl⟩⟩), fun W T F U => CN.out W T F U k o 0 (.inr ⟨i, rfl, i1, i2, .inr ⟨h4, q, hq, hn, rfl⟩⟩), fun W U => DN.out W U i i1 i2 h4 q k o hq hn⟩
    clear CR CN DR DN ok ok2 ok3
    obtain ⟨f, hf⟩ : ∃ f, M.tb i = f := ⟨_, rfl⟩
    rw [hf] at CF
    clear hf
    rcases HN with ⟨CM, CN1⟩ | ⟨q, k, o, CM, CN1, DN⟩
    ·
      rcases HR with ⟨e1, e2, CR1⟩ | ⟨rfl | rfl, p, CR1, DR1⟩
      ·
        have d1 : (x1 != 1) = true := by simpa using e1
        have d2 : (x1 != 2) = true := by simpa using e2
        clear e1 e2
        have U := Up.refl w
        go_enter Tryz.func3, Tryz.ntmps3
        go_wp2_with fail
        obtain ⟨V1, hV1⟩ : ∃ V1, w.alloc (.cells #[.bool ng3, .slice A3 ln3 cp3, .int .i64 tw3, .int .i64 fv3] 25) = V1 := ⟨_, rfl⟩
        have B : Ob V1 w.heap.size 25 #[.bool ng3, .slice A3 ln3 cp3, .int .i64 tw3, .int .i64 fv3] := by rw [← hV1]; exact Ob.mk_ _ _ _
        have uV1 : Up w V1 := by rw [← hV1]; exact (Up.refl _).alloc _
        have ltB : w.heap.size ≤ w.heap.size := U.size
        rw [hV1]
        clear hV1
        replace U := U.trans uV1
        clear uV1
        refine (shown8_any _ (Lib.hid (TT.out.up U)) (Lib.hid (TF.out.up U))).mono ?_
        rintro _ w2 ⟨rfl, h2⟩
        replace U := U.trans h2
        replace B := B.up h2
        clear h2
        have B0 := B.get 0
        have B1 := B.get 1
        have B2 := B.get 2
        have B3 := B.get 3
        have Bf0 := B.fr 0
        have Bf1 := B.fr 1
        have Bf2 := B.fr 2
        have Bf3 := B.fr 3
        have Bl := B.lt
        simp only [List.getElem?_toArray, List.getElem?_cons_zero, List.getElem?_cons_succ] at B0 B1 B2 B3
        go_wp2_with fail
        clear B0 Bf0 B1 Bf1 B2 Bf2 B3 Bf3 Bl
        refine (CS3.out _ U).mono ?_
        rintro _ w3 ⟨rfl, h3⟩
        replace U := U.trans h3
        replace B := B.up h3
        clear h3
        go_upto_region 3 with (refine store_ob2 rfl 25 (.tmp 7) (.tmp 23) rfl _ #[.bool ng3, .slice A3 ln3 cp3, .int .i64 tw3, .int .i64 fv3] #[.bool ng3, .slice A3 mm3 cp3, .int .i64 t, .int .i64 g] rfl rfl 4 (by kernel_rfl) rfl rfl (by simp [Value.oneCell']) w U ltB 25 B ?_; clear U; intro V9 Z9 U ho; clear ho B; have B := Z9; clear Z9)
        have B0 := B.get 0
        have B1 := B.get 1
        have B2 := B.get 2
        have B3 := B.get 3
        have Bf0 := B.fr 0
        have Bf1 := B.fr 1
        have Bf2 := B.fr 2
        have Bf3 := B.fr 3
        have Bl := B.lt
        simp only [List.getElem?_toArray, List.getElem?_cons_zero, List.getElem?_cons_succ] at B0 B1 B2 B3
        go_wp2_with fail
        clear B0 Bf0 B1 Bf1 B2 Bf2 B3 Bf3 Bl
        refine (CR1.out _ (TT.out.up U) (TF.out.up U) U).mono ?_
        rintro _ w4 ⟨rfl, h4⟩
        replace U := U.trans h4
        replace B := B.up h4
        clear h4
        have B0 := B.get 0
        have B1 := B.get 1
        have B2 := B.get 2
        have B3 := B.get 3
        have Bf0 := B.fr 0
        have Bf1 := B.fr 1
        have Bf2 := B.fr 2
        have Bf3 := B.fr 3
        have Bl := B.lt
        simp only [List.getElem?_toArray, List.getElem?_cons_zero, List.getElem?_cons_succ] at B0 B1 B2 B3
        go_wp2_with fail
        clear B0 Bf0 B1 Bf1 B2 Bf2 B3 Bf3 Bl
        refine (CN1.out _ (TT.out.up U) (TF.out.up U) U).mono ?_
        rintro _ w5 ⟨rfl, h5⟩
        replace U := U.trans h5
        replace B := B.up h5
        clear h5
        go_wp2_with fail
        refine (CF.out _).mono ?_
        rintro _ w6 ⟨rfl, h6⟩
        replace U := U.trans h6
        replace B := B.up h6
        clear h6
        go_wp2_with fail
        obtain ⟨V7, hV7⟩ : ∃ V7, w6.alloc (.cells #[.int .i64 f.k, .int .i64 f.W, .int .i64 f.m, .int .i64 f.b, .int .u64 f.t, .int .u64 f.n, .int .u64 f.x] 35) = V7 := ⟨_, rfl⟩
        have C : Bf V7 w6.heap.size 35 f := by rw [← hV7]; exact Bf.mk_ w6 f 35
        have ltC : w.heap.size ≤ w6.heap.size := U.size
        have uV7 : Up w6 V7 := by rw [← hV7]; exact (Up.refl _).alloc _
        rw [hV7]
        clear hV7
        replace U := U.trans uV7
        replace B := B.up uV7
        clear uV7
        refine (CM.out _).mono ?_
        rintro _ w8 ⟨rfl, h8⟩
        replace U := U.trans h8
        replace C := C.up h8
        replace B := B.up h8
        clear h8
        have B0 := B.get 0
        have B1 := B.get 1
        have B2 := B.get 2
        have B3 := B.get 3
        have Bf0 := B.fr 0
        have Bf1 := B.fr 1
        have Bf2 := B.fr 2
        have Bf3 := B.fr 3
        have Bl := B.lt
        simp only [List.getElem?_toArray, List.getElem?_cons_zero, List.getElem?_cons_succ] at B0 B1 B2 B3
        go_wp2_with fail
        clear B0 Bf0 B1 Bf1 B2 Bf2 B3 Bf3 Bl
        first | go_ret | refine bodyPost_ret (v := .bool true) (by simp [results, Tryz.results3, go_sem]) rfl ?_
        exact ⟨by first | rfl | simp, by first | exact U | exact U.alloc _ | exact U.drewN _ | exact U.drew⟩
      ·
        have dp : (p == p) = true := by simp
        have U := Up.refl w
        go_enter Tryz.func3, Tryz.ntmps3
        go_wp2_with fail
        obtain ⟨V1, hV1⟩ : ∃ V1, w.alloc (.cells #[.bool ng3, .slice A3 ln3 cp3, .int .i64 tw3, .int .i64 fv3] 25) = V1 := ⟨_, rfl⟩
        have B : Ob V1 w.heap.size 25 #[.bool ng3, .slice A3 ln3 cp3, .int .i64 tw3, .int .i64 fv3] := by rw [← hV1]; exact Ob.mk_ _ _ _
        have uV1 : Up w V1 := by rw [← hV1]; exact (Up.refl _).alloc _
        have ltB : w.heap.size ≤ w.heap.size := U.size
        rw [hV1]
        clear hV1
        replace U := U.trans uV1
        clear uV1
        refine (shown8_any _ (Lib.hid (TT.out.up U)) (Lib.hid (TF.out.up U))).mono ?_
        rintro _ w2 ⟨rfl, h2⟩
        replace U := U.trans h2
        replace B := B.up h2
        clear h2
        have B0 := B.get 0
        have B1 := B.get 1
        have B2 := B.get 2
        have B3 := B.get 3
        have Bf0 := B.fr 0
        have Bf1 := B.fr 1
        have Bf2 := B.fr 2
        have Bf3 := B.fr 3
        have Bl := B.lt
        simp only [List.getElem?_toArray, List.getElem?_cons_zero, List.getElem?_cons_succ] at B0 B1 B2 B3
        go_wp2_with fail
        clear B0 Bf0 B1 Bf1 B2 Bf2 B3 Bf3 Bl
        refine (CS3.out _ U).mono ?_
        rintro _ w3 ⟨rfl, h3⟩
        replace U := U.trans h3
        replace B := B.up h3
        clear h3
        go_upto_region 3 with (refine store_ob2 rfl 25 (.tmp 7) (.tmp 23) rfl _ #[.bool ng3, .slice A3 ln3 cp3, .int .i64 tw3, .int .i64 fv3] #[.bool ng3, .slice A3 mm3 cp3, .int .i64 t, .int .i64 g] rfl rfl 4 (by kernel_rfl) rfl rfl (by simp [Value.oneCell']) w U ltB 25 B ?_; clear U; intro V9 Z9 U ho; clear ho B; have B := Z9; clear Z9)
        have B0 := B.get 0
        have B1 := B.get 1
        have B2 := B.get 2
        have B3 := B.get 3
        have Bf0 := B.fr 0
        have Bf1 := B.fr 1
        have Bf2 := B.fr 2
        have Bf3 := B.fr 3
        have Bl := B.lt
        simp only [List.getElem?_toArray, List.getElem?_cons_zero, List.getElem?_cons_succ] at B0 B1 B2 B3
        go_wp2_with fail
        clear B0 Bf0 B1 Bf1 B2 Bf2 B3 Bf3 Bl
        refine (CR1.out _ (TT.out.up U) (TF.out.up U) U).mono ?_
        rintro _ w4 ⟨rfl, h4⟩
        replace U := U.trans h4
        replace B := B.up h4
        clear h4
        have B0 := B.get 0
        have B1 := B.get 1
        have B2 := B.get 2
        have B3 := B.get 3
        have Bf0 := B.fr 0
        have Bf1 := B.fr 1
        have Bf2 := B.fr 2
        have Bf3 := B.fr 3
        have Bl := B.lt
        simp only [List.getElem?_toArray, List.getElem?_cons_zero, List.getElem?_cons_succ] at B0 B1 B2 B3
        go_wp2_with fail
        clear B0 Bf0 B1 Bf1 B2 Bf2 B3 Bf3 Bl
        refine (CN1.out _ (TT.out.up U) (TF.out.up U) U).mono ?_
        rintro _ w5 ⟨rfl, h5⟩
        replace U := U.trans h5
        replace B := B.up h5
        clear h5
        go_wp2_with fail
        refine (CF.out _).mono ?_
        rintro _ w6 ⟨rfl, h6⟩
        replace U := U.trans h6
        replace B := B.up h6
        clear h6
        go_wp2_with fail
        obtain ⟨V7, hV7⟩ : ∃ V7, w6.alloc (.cells #[.int .i64 f.k, .int .i64 f.W, .int .i64 f.m, .int .i64 f.b, .int .u64 f.t, .int .u64 f.n, .int .u64 f.x] 35) = V7 := ⟨_, rfl⟩
        have C : Bf V7 w6.heap.size 35 f := by rw [← hV7]; exact Bf.mk_ w6 f 35
        have ltC : w.heap.size ≤ w6.heap.size := U.size
        have uV7 : Up w6 V7 := by rw [← hV7]; exact (Up.refl _).alloc _
        rw [hV7]
        clear hV7
        replace U := U.trans uV7
        replace B := B.up uV7
        clear uV7
        refine (CM.out _).mono ?_
        rintro _ w8 ⟨rfl, h8⟩
        replace U := U.trans h8
        replace C := C.up h8
        replace B := B.up h8
        clear h8
        have B0 := B.get 0
        have B1 := B.get 1
        have B2 := B.get 2
        have B3 := B.get 3
        have Bf0 := B.fr 0
        have Bf1 := B.fr 1
        have Bf2 := B.fr 2
        have Bf3 := B.fr 3
        have Bl := B.lt
        simp only [List.getElem?_toArray, List.getElem?_cons_zero, List.getElem?_cons_succ] at B0 B1 B2 B3
        go_wp2_with fail
        clear B0 Bf0 B1 Bf1 B2 Bf2 B3 Bf3 Bl
        refine (DR1.out _ U).mono ?_
        rintro _ w9 ⟨rfl, h9⟩
        replace U := U.trans h9
        replace C := C.up h9
        replace B := B.up h9
        clear h9
        go_wp2_with fail
        first | go_ret | refine bodyPost_ret (v := .bool true) (by simp [results, Tryz.results3, go_sem]) rfl ?_
        exact ⟨by first | rfl | simp, by first | exact U | exact U.alloc _ | exact U.drewN _ | exact U.drew⟩
      ·
        have dp : (p == p) = true := by simp
        have U := Up.refl w
        go_enter Tryz.func3, Tryz.ntmps3
        go_wp2_with fail
        obtain ⟨V1, hV1⟩ : ∃ V1, w.alloc (.cells #[.bool ng3, .slice A3 ln3 cp3, .int .i64 tw3, .int .i64 fv3] 25) = V1 := ⟨_, rfl⟩
        have B : Ob V1 w.heap.size 25 #[.bool ng3, .slice A3 ln3 cp3, .int .i64 tw3, .int .i64 fv3] := by rw [← hV1]; exact Ob.mk_ _ _ _
        have uV1 : Up w V1 := by rw [← hV1]; exact (Up.refl _).alloc _
        have ltB : w.heap.size ≤ w.heap.size := U.size
        rw [hV1]
        clear hV1
        replace U := U.trans uV1
        clear uV1
        refine (shown8_any _ (Lib.hid (TT.out.up U)) (Lib.hid (TF.out.up U))).mono ?_
        rintro _ w2 ⟨rfl, h2⟩
        replace U := U.trans h2
        replace B := B.up h2
        clear h2
        have B0 := B.get 0
        have B1 := B.get 1
        have B2 := B.get 2
        have B3 := B.get 3
        have Bf0 := B.fr 0
        have Bf1 := B.fr 1
        have Bf2 := B.fr 2
        have Bf3 := B.fr 3
        have Bl := B.lt
        simp only [List.getElem?_toArray, List.getElem?_cons_zero, List.getElem?_cons_succ] at B0 B1 B2 B3
        go_wp2_with fail
        clear B0 Bf0 B1 Bf1 B2 Bf2 B3 Bf3 Bl
        refine (CS3.out _ U).mono ?_
        rintro _ w3 ⟨rfl, h3⟩
        replace U := U.trans h3
        replace B := B.up h3
        clear h3
        go_upto_region 3 with (refine store_ob2 rfl 25 (.tmp 7) (.tmp 23) rfl _ #[.bool ng3, .slice A3 ln3 cp3, .int .i64 tw3, .int .i64 fv3] #[.bool ng3, .slice A3 mm3 cp3, .int .i64 t, .int .i64 g] rfl rfl 4 (by kernel_rfl) rfl rfl (by simp [Value.oneCell']) w U ltB 25 B ?_; clear U; intro V9 Z9 U ho; clear ho B; have B := Z9; clear Z9)
        have B0 := B.get 0
        have B1 := B.get 1
        have B2 := B.get 2
        have B3 := B.get 3
        have Bf0 := B.fr 0
        have Bf1 := B.fr 1
        have Bf2 := B.fr 2
        have Bf3 := B.fr 3
        have Bl := B.lt
        simp only [List.getElem?_toArray, List.getElem?_cons_zero, List.getElem?_cons_succ] at B0 B1 B2 B3
        go_wp2_with fail
        clear B0 Bf0 B1 Bf1 B2 Bf2 B3 Bf3 Bl
        refine (CR1.out _ (TT.out.up U) (TF.out.up U) U).mono ?_
        rintro _ w4 ⟨rfl, h4⟩
        replace U := U.trans h4
        replace B := B.up h4
        clear h4
        have B0 := B.get 0
        have B1 := B.get 1
        have B2 := B.get 2
        have B3 := B.get 3
        have Bf0 := B.fr 0
        have Bf1 := B.fr 1
        have Bf2 := B.fr 2
        have Bf3 := B.fr 3
        have Bl := B.lt
        simp only [List.getElem?_toArray, List.getElem?_cons_zero, List.getElem?_cons_succ] at B0 B1 B2 B3
        go_wp2_with fail
        clear B0 Bf0 B1 Bf1 B2 Bf2 B3 Bf3 Bl
        refine (CN1.out _ (TT.out.up U) (TF.out.up U) U).mono ?_
        rintro _ w5 ⟨rfl, h5⟩
        replace U := U.trans h5
        replace B := B.up h5
        clear h5
        go_wp2_with fail
        refine (CF.out _).mono ?_
        rintro _ w6 ⟨rfl, h6⟩
        replace U := U.trans h6
        replace B := B.up h6
        clear h6
        go_wp2_with fail
        obtain ⟨V7, hV7⟩ : ∃ V7, w6.alloc (.cells #[.int .i64 f.k, .int .i64 f.W, .int .i64 f.m, .int .i64 f.b, .int .u64 f.t, .int .u64 f.n, .int .u64 f.x] 35) = V7 := ⟨_, rfl⟩
        have C : Bf V7 w6.heap.size 35 f := by rw [← hV7]; exact Bf.mk_ w6 f 35
        have ltC : w.heap.size ≤ w6.heap.size := U.size
        have uV7 : Up w6 V7 := by rw [← hV7]; exact (Up.refl _).alloc _
        rw [hV7]
        clear hV7
        replace U := U.trans uV7
        replace B := B.up uV7
        clear uV7
        refine (CM.out _).mono ?_
        rintro _ w8 ⟨rfl, h8⟩
        replace U := U.trans h8
        replace C := C.up h8
        replace B := B.up h8
        clear h8
        have B0 := B.get 0
        have B1 := B.get 1
        have B2 := B.get 2
        have B3 := B.get 3
        have Bf0 := B.fr 0
        have Bf1 := B.fr 1
        have Bf2 := B.fr 2
        have Bf3 := B.fr 3
        have Bl := B.lt
        simp only [List.getElem?_toArray, List.getElem?_cons_zero, List.getElem?_cons_succ] at B0 B1 B2 B3
        go_wp2_with fail
        clear B0 Bf0 B1 Bf1 B2 Bf2 B3 Bf3 Bl
        refine (DR1.out _ U).mono ?_
        rintro _ w9 ⟨rfl, h9⟩
        replace U := U.trans h9
        replace C := C.up h9
        replace B := B.up h9
        clear h9
        go_wp2_with fail
        first | go_ret | refine bodyPost_ret (v := .bool true) (by simp [results, Tryz.results3, go_sem]) rfl ?_
        exact ⟨by first | rfl | simp, by first | exact U | exact U.alloc _ | exact U.drewN _ | exact U.drew⟩
    ·
      have dk : ((k : Int) != (k : Int)) = false := by simp
      have do_ : (o != o) = false := by simp
      rcases HR with ⟨e1, e2, CR1⟩ | ⟨rfl | rfl, p, CR1, DR1⟩
      ·
        have d1 : (x1 != 1) = true := by simpa using e1
        have d2 : (x1 != 2) = true := by simpa using e2
        clear e1 e2
        have U := Up.refl w
        go_enter Tryz.func3, Tryz.ntmps3
        go_wp2_with fail
        obtain ⟨V1, hV1⟩ : ∃ V1, w.alloc (.cells #[.bool ng3, .slice A3 ln3 cp3, .int .i64 tw3, .int .i64 fv3] 25) = V1 := ⟨_, rfl⟩
        have B : Ob V1 w.heap.size 25 #[.bool ng3, .slice A3 ln3 cp3, .int .i64 tw3, .int .i64 fv3] := by rw [← hV1]; exact Ob.mk_ _ _ _
        have uV1 : Up w V1 := by rw [← hV1]; exact (Up.refl _).alloc _
        have ltB : w.heap.size ≤ w.heap.size := U.size
        rw [hV1]
        clear hV1
        replace U := U.trans uV1
        clear uV1
        refine (shown8_any _ (Lib.hid (TT.out.up U)) (Lib.hid (TF.out.up U))).mono ?_
        rintro _ w2 ⟨rfl, h2⟩
        replace U := U.trans h2
        replace B := B.up h2
        clear h2
        have B0 := B.get 0
        have B1 := B.get 1
        have B2 := B.get 2
        have B3 := B.get 3
        have Bf0 := B.fr 0
        have Bf1 := B.fr 1
        have Bf2 := B.fr 2
        have Bf3 := B.fr 3
        have Bl := B.lt
        simp only [List.getElem?_toArray, List.getElem?_cons_zero, List.getElem?_cons_succ] at B0 B1 B2 B3
        go_wp2_with fail
        clear B0 Bf0 B1 Bf1 B2 Bf2 B3 Bf3 Bl
        refine (CS3.out _ U).mono ?_
        rintro _ w3 ⟨rfl, h3⟩
        replace U := U.trans h3
        replace B := B.up h3
        clear h3
        go_upto_region 3 with (refine store_ob2 rfl 25 (.tmp 7) (.tmp 23) rfl _ #[.bool ng3, .slice A3 ln3 cp3, .int .i64 tw3, .int .i64 fv3] #[.bool ng3, .slice A3 mm3 cp3, .int .i64 t, .int .i64 g] rfl rfl 4 (by kernel_rfl) rfl rfl (by simp [Value.oneCell']) w U ltB 25 B ?_; clear U; intro V9 Z9 U ho; clear ho B; have B := Z9; clear Z9)
        have B0 := B.get 0
        have B1 := B.get 1
        have B2 := B.get 2
        have B3 := B.get 3
        have Bf0 := B.fr 0
        have Bf1 := B.fr 1
        have Bf2 := B.fr 2
        have Bf3 := B.fr 3
        have Bl := B.lt
        simp only [List.getElem?_toArray, List.getElem?_cons_zero, List.getElem?_cons_succ] at B0 B1 B2 B3
        go_wp2_with fail
        clear B0 Bf0 B1 Bf1 B2 Bf2 B3 Bf3 Bl
        refine (CR1.out _ (TT.out.up U) (TF.out.up U) U).mono ?_
        rintro _ w4 ⟨rfl, h4⟩
        replace U := U.trans h4
        replace B := B.up h4
        clear h4
        have B0 := B.get 0
        have B1 := B.get 1
        have B2 := B.get 2
        have B3 := B.get 3
        have Bf0 := B.fr 0
        have Bf1 := B.fr 1
        have Bf2 := B.fr 2
        have Bf3 := B.fr 3
        have Bl := B.lt
        simp only [List.getElem?_toArray, List.getElem?_cons_zero, List.getElem?_cons_succ] at B0 B1 B2 B3
        go_wp2_with fail
        clear B0 Bf0 B1 Bf1 B2 Bf2 B3 Bf3 Bl
        refine (CN1.out _ (TT.out.up U) (TF.out.up U) U).mono ?_
        rintro _ w5 ⟨rfl, h5⟩
        replace U := U.trans h5
        replace B := B.up h5
        clear h5
        go_wp2_with fail
        refine (CF.out _).mono ?_
        rintro _ w6 ⟨rfl, h6⟩
        replace U := U.trans h6
        replace B := B.up h6
        clear h6
        go_wp2_with fail
        obtain ⟨V7, hV7⟩ : ∃ V7, w6.alloc (.cells #[.int .i64 f.k, .int .i64 f.W, .int .i64 f.m, .int .i64 f.b, .int .u64 f.t, .int .u64 f.n, .int .u64 f.x] 35) = V7 := ⟨_, rfl⟩
        have C : Bf V7 w6.heap.size 35 f := by rw [← hV7]; exact Bf.mk_ w6 f 35
        have ltC : w.heap.size ≤ w6.heap.size := U.size
        have uV7 : Up w6 V7 := by rw [← hV7]; exact (Up.refl _).alloc _
        rw [hV7]
        clear hV7
        replace U := U.trans uV7
        replace B := B.up uV7
        clear uV7
        refine (CM.out _).mono ?_
        rintro _ w8 ⟨rfl, h8⟩
        replace U := U.trans h8
        replace C := C.up h8
        replace B := B.up h8
        clear h8
        have B0 := B.get 0
        have B1 := B.get 1
        have B2 := B.get 2
        have B3 := B.get 3
        have Bf0 := B.fr 0
        have Bf1 := B.fr 1
        have Bf2 := B.fr 2
        have Bf3 := B.fr 3
        have Bl := B.lt
        simp only [List.getElem?_toArray, List.getElem?_cons_zero, List.getElem?_cons_succ] at B0 B1 B2 B3
        go_wp2_with fail
        clear B0 Bf0 B1 Bf1 B2 Bf2 B3 Bf3 Bl
        refine (DN.out _ U).mono ?_
        rintro _ w9 ⟨rfl, h9⟩
        replace U := U.trans h9
        replace C := C.up h9
        replace B := B.up h9
        clear h9
        have B0 := B.get 0
        have B1 := B.get 1
        have B2 := B.get 2
        have B3 := B.get 3
        have Bf0 := B.fr 0
        have Bf1 := B.fr 1
        have Bf2 := B.fr 2
        have Bf3 := B.fr 3
        have Bl := B.lt
        simp only [List.getElem?_toArray, List.getElem?_cons_zero, List.getElem?_cons_succ] at B0 B1 B2 B3
        go_wp2_with fail
        clear B0 Bf0 B1 Bf1 B2 Bf2 B3 Bf3 Bl
        first | go_ret | refine bodyPost_ret (v := .bool true) (by simp [results, Tryz.results3, go_sem]) rfl ?_
        exact ⟨by first | rfl | simp, by first | exact U | exact U.alloc _ | exact U.drewN _ | exact U.drew⟩
      ·
        have dp : (p == p) = true := by simp
        have U := Up.refl w
        go_enter Tryz.func3, Tryz.ntmps3
        go_wp2_with fail
        obtain ⟨V1, hV1⟩ : ∃ V1, w.alloc (.cells #[.bool ng3, .slice A3 ln3 cp3, .int .i64 tw3, .int .i64 fv3] 25) = V1 := ⟨_, rfl⟩
        have B : Ob V1 w.heap.size 25 #[.bool ng3, .slice A3 ln3 cp3, .int .i64 tw3, .int .i64 fv3] := by rw [← hV1]; exact Ob.mk_ _ _ _
        have uV1 : Up w V1 := by rw [← hV1]; exact (Up.refl _).alloc _
        have ltB : w.heap.size ≤ w.heap.size := U.size
        rw [hV1]
        clear hV1
        replace U := U.trans uV1
        clear uV1
        refine (shown8_any _ (Lib.hid (TT.out.up U)) (Lib.hid (TF.out.up U))).mono ?_
        rintro _ w2 ⟨rfl, h2⟩
        replace U := U.trans h2
        replace B := B.up h2
        clear h2
        have B0 := B.get 0
        have B1 := B.get 1
        have B2 := B.get 2
        have B3 := B.get 3
        have Bf0 := B.fr 0
        have Bf1 := B.fr 1
        have Bf2 := B.fr 2
        have Bf3 := B.fr 3
        have Bl := B.lt
        simp only [List.getElem?_toArray, List.getElem?_cons_zero, List.getElem?_cons_succ] at B0 B1 B2 B3
        go_wp2_with fail
        clear B0 Bf0 B1 Bf1 B2 Bf2 B3 Bf3 Bl
        refine (CS3.out _ U).mono ?_
        rintro _ w3 ⟨rfl, h3⟩
        replace U := U.trans h3
        replace B := B.up h3
        clear h3
        go_upto_region 3 with (refine store_ob2 rfl 25 (.tmp 7) (.tmp 23) rfl _ #[.bool ng3, .slice A3 ln3 cp3, .int .i64 tw3, .int .i64 fv3] #[.bool ng3, .slice A3 mm3 cp3, .int .i64 t, .int .i64 g] rfl rfl 4 (by kernel_rfl) rfl rfl (by simp [Value.oneCell']) w U ltB 25 B ?_; clear U; intro V9 Z9 U ho; clear ho B; have B := Z9; clear Z9)
        have B0 := B.get 0
        have B1 := B.get 1
        have B2 := B.get 2
        have B3 := B.get 3
        have Bf0 := B.fr 0
        have Bf1 := B.fr 1
        have Bf2 := B.fr 2
        have Bf3 := B.fr 3
        have Bl := B.lt
        simp only [List.getElem?_toArray, List.getElem?_cons_zero, List.getElem?_cons_succ] at B0 B1 B2 B3
        go_wp2_with fail
        clear B0 Bf0 B1 Bf1 B2 Bf2 B3 Bf3 Bl
        refine (CR1.out _ (TT.out.up U) (TF.out.up U) U).mono ?_
        rintro _ w4 ⟨rfl, h4⟩
        replace U := U.trans h4
        replace B := B.up h4
        clear h4
        have B0 := B.get 0
        have B1 := B.get 1
        have B2 := B.get 2
        have B3 := B.get 3
        have Bf0 := B.fr 0
        have Bf1 := B.fr 1
        have Bf2 := B.fr 2
        have Bf3 := B.fr 3
        have Bl := B.lt
        simp only [List.getElem?_toArray, List.getElem?_cons_zero, List.getElem?_cons_succ] at B0 B1 B2 B3
        go_wp2_with fail
        clear B0 Bf0 B1 Bf1 B2 Bf2 B3 Bf3 Bl
        refine (CN1.out _ (TT.out.up U) (TF.out.up U) U).mono ?_
        rintro _ w5 ⟨rfl, h5⟩
        replace U := U.trans h5
        replace B := B.up h5
        clear h5
        go_wp2_with fail
        refine (CF.out _).mono ?_
        rintro _ w6 ⟨rfl, h6⟩
        replace U := U.trans h6
        replace B := B.up h6
        clear h6
        go_wp2_with fail
        obtain ⟨V7, hV7⟩ : ∃ V7, w6.alloc (.cells #[.int .i64 f.k, .int .i64 f.W, .int .i64 f.m, .int .i64 f.b, .int .u64 f.t, .int .u64 f.n, .int .u64 f.x] 35) = V7 := ⟨_, rfl⟩
        have C : Bf V7 w6.heap.size 35 f := by rw [← hV7]; exact Bf.mk_ w6 f 35
        have ltC : w.heap.size ≤ w6.heap.size := U.size
        have uV7 : Up w6 V7 := by rw [← hV7]; exact (Up.refl _).alloc _
        rw [hV7]
        clear hV7
        replace U := U.trans uV7
        replace B := B.up uV7
        clear uV7
        refine (CM.out _).mono ?_
        rintro _ w8 ⟨rfl, h8⟩
        replace U := U.trans h8
        replace C := C.up h8
        replace B := B.up h8
        clear h8
        have B0 := B.get 0
        have B1 := B.get 1
        have B2 := B.get 2
        have B3 := B.get 3
        have Bf0 := B.fr 0
        have Bf1 := B.fr 1
        have Bf2 := B.fr 2
        have Bf3 := B.fr 3
        have Bl := B.lt
        simp only [List.getElem?_toArray, List.getElem?_cons_zero, List.getElem?_cons_succ] at B0 B1 B2 B3
        go_wp2_with fail
        clear B0 Bf0 B1 Bf1 B2 Bf2 B3 Bf3 Bl
        refine (DN.out _ U).mono ?_
        rintro _ w9 ⟨rfl, h9⟩
        replace U := U.trans h9
        replace C := C.up h9
        replace B := B.up h9
        clear h9
        have B0 := B.get 0
        have B1 := B.get 1
        have B2 := B.get 2
        have B3 := B.get 3
        have Bf0 := B.fr 0
        have Bf1 := B.fr 1
        have Bf2 := B.fr 2
        have Bf3 := B.fr 3
        have Bl := B.lt
        simp only [List.getElem?_toArray, List.getElem?_cons_zero, List.getElem?_cons_succ] at B0 B1 B2 B3
        go_wp2_with fail
        clear B0 Bf0 B1 Bf1 B2 Bf2 B3 Bf3 Bl
        refine (DR1.out _ U).mono ?_
        rintro _ w10 ⟨rfl, h10⟩
        replace U := U.trans h10
        replace C := C.up h10
        replace B := B.up h10
        clear h10
        go_wp2_with fail
        first | go_ret | refine bodyPost_ret (v := .bool true) (by simp [results, Tryz.results3, go_sem]) rfl ?_
        exact ⟨by first | rfl | simp, by first | exact U | exact U.alloc _ | exact U.drewN _ | exact U.drew⟩
      ·
        have dp : (p == p) = true := by simp
        have U := Up.refl w
        go_enter Tryz.func3, Tryz.ntmps3
        go_wp2_with fail
        obtain ⟨V1, hV1⟩ : ∃ V1, w.alloc (.cells #[.bool ng3, .slice A3 ln3 cp3, .int .i64 tw3, .int .i64 fv3] 25) = V1 := ⟨_, rfl⟩
        have B : Ob V1 w.heap.size 25 #[.bool ng3, .slice A3 ln3 cp3, .int .i64 tw3, .int .i64 fv3] := by rw [← hV1]; exact Ob.mk_ _ _ _
        have uV1 : Up w V1 := by rw [← hV1]; exact (Up.refl _).alloc _
        have ltB : w.heap.size ≤ w.heap.size := U.size
        rw [hV1]
        clear hV1
        replace U := U.trans uV1
        clear uV1
        refine (shown8_any _ (Lib.hid (TT.out.up U)) (Lib.hid (TF.out.up U))).mono ?_
        rintro _ w2 ⟨rfl, h2⟩
        replace U := U.trans h2
        replace B := B.up h2
        clear h2
        have B0 := B.get 0
        have B1 := B.get 1
        have B2 := B.get 2
        have B3 := B.get 3
        have Bf0 := B.fr 0
        have Bf1 := B.fr 1
        have Bf2 := B.fr 2
        have Bf3 := B.fr 3
        have Bl := B.lt
        simp only [List.getElem?_toArray, List.getElem?_cons_zero, List.getElem?_cons_succ] at B0 B1 B2 B3
        go_wp2_with fail
        clear B0 Bf0 B1 Bf1 B2 Bf2 B3 Bf3 Bl
        refine (CS3.out _ U).mono ?_
        rintro _ w3 ⟨rfl, h3⟩
        replace U := U.trans h3
        replace B := B.up h3
        clear h3
        go_upto_region 3 with (refine store_ob2 rfl 25 (.tmp 7) (.tmp 23) rfl _ #[.bool ng3, .slice A3 ln3 cp3, .int .i64 tw3, .int .i64 fv3] #[.bool ng3, .slice A3 mm3 cp3, .int .i64 t, .int .i64 g] rfl rfl 4 (by kernel_rfl) rfl rfl (by simp [Value.oneCell']) w U ltB 25 B ?_; clear U; intro V9 Z9 U ho; clear ho B; have B := Z9; clear Z9)
        have B0 := B.get 0
        have B1 := B.get 1
        have B2 := B.get 2
        have B3 := B.get 3
        have Bf0 := B.fr 0
        have Bf1 := B.fr 1
        have Bf2 := B.fr 2
        have Bf3 := B.fr 3
        have Bl := B.lt
        simp only [List.getElem?_toArray, List.getElem?_cons_zero, List.getElem?_cons_succ] at B0 B1 B2 B3
        go_wp2_with fail
        clear B0 Bf0 B1 Bf1 B2 Bf2 B3 Bf3 Bl
        refine (CR1.out _ (TT.out.up U) (TF.out.up U) U).mono ?_
        rintro _ w4 ⟨rfl, h4⟩
        replace U := U.trans h4
        replace B := B.up h4
        clear h4
        have B0 := B.get 0
        have B1 := B.get 1
        have B2 := B.get 2
        have B3 := B.get 3
        have Bf0 := B.fr 0
        have Bf1 := B.fr 1
        have Bf2 := B.fr 2
        have Bf3 := B.fr 3
        have Bl := B.lt
        simp only [List.getElem?_toArray, List.getElem?_cons_zero, List.getElem?_cons_succ] at B0 B1 B2 B3
        go_wp2_with fail
        clear B0 Bf0 B1 Bf1 B2 Bf2 B3 Bf3 Bl
        refine (CN1.out _ (TT.out.up U) (TF.out.up U) U).mono ?_
        rintro _ w5 ⟨rfl, h5⟩
        replace U := U.trans h5
        replace B := B.up h5
        clear h5
        go_wp2_with fail
        refine (CF.out _).mono ?_
        rintro _ w6 ⟨rfl, h6⟩
        replace U := U.trans h6
        replace B := B.up h6
        clear h6
        go_wp2_with fail
        obtain ⟨V7, hV7⟩ : ∃ V7, w6.alloc (.cells #[.int .i64 f.k, .int .i64 f.W, .int .i64 f.m, .int .i64 f.b, .int .u64 f.t, .int .u64 f.n, .int .u64 f.x] 35) = V7 := ⟨_, rfl⟩
        have C : Bf V7 w6.heap.size 35 f := by rw [← hV7]; exact Bf.mk_ w6 f 35
        have ltC : w.heap.size ≤ w6.heap.size := U.size
        have uV7 : Up w6 V7 := by rw [← hV7]; exact (Up.refl _).alloc _
        rw [hV7]
        clear hV7
        replace U := U.trans uV7
        replace B := B.up uV7
        clear uV7
        refine (CM.out _).mono ?_
        rintro _ w8 ⟨rfl, h8⟩
        replace U := U.trans h8
        replace C := C.up h8
        replace B := B.up h8
        clear h8
        have B0 := B.get 0
        have B1 := B.get 1
        have B2 := B.get 2
        have B3 := B.get 3
        have Bf0 := B.fr 0
        have Bf1 := B.fr 1
        have Bf2 := B.fr 2
        have Bf3 := B.fr 3
        have Bl := B.lt
        simp only [List.getElem?_toArray, List.getElem?_cons_zero, List.getElem?_cons_succ] at B0 B1 B2 B3
        go_wp2_with fail
        clear B0 Bf0 B1 Bf1 B2 Bf2 B3 Bf3 Bl
        refine (DN.out _ U).mono ?_
        rintro _ w9 ⟨rfl, h9⟩
        replace U := U.trans h9
        replace C := C.up h9
        replace B := B.up h9
        clear h9
        have B0 := B.get 0
        have B1 := B.get 1
        have B2 := B.get 2
        have B3 := B.get 3
        have Bf0 := B.fr 0
        have Bf1 := B.fr 1
        have Bf2 := B.fr 2
        have Bf3 := B.fr 3
        have Bl := B.lt
        simp only [List.getElem?_toArray, List.getElem?_cons_zero, List.getElem?_cons_succ] at B0 B1 B2 B3
        go_wp2_with fail
        clear B0 Bf0 B1 Bf1 B2 Bf2 B3 Bf3 Bl
        refine (DR1.out _ U).mono ?_
        rintro _ w10 ⟨rfl, h10⟩
        replace U := U.trans h10
        replace C := C.up h10
        replace B := B.up h10
        clear h10
        go_wp2_with fail
        first | go_ret | refine bodyPost_ret (v := .bool true) (by simp [results, Tryz.results3, go_sem]) rfl ?_
        exact ⟨by first | rfl | simp, by first | exact U | exact U.alloc _ | exact U.drewN _ | exact U.drew⟩
end Go.Proofs.YtlogglhonlannaaGreatDoor
