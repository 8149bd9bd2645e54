/-
  Package round: Round.
-/
import Derived.Test.YtlogglhonlannaaGreatDoorRs
namespace Go.Proofs.YtlogglhonlannaaGreatDoor
open Go.RowKit
set_option linter.unusedSimpArgs false
set_option linter.unusedVariables false

set_option maxHeartbeats 1000000 in
set_option maxRecDepth 100000 in
theorem rnd_round (w : World) (TT : Hid (Tz w)) (TF : Hid (TabF w)) (ii mode : Int) (lo s : Nat) (neg : Bool) (v : Value) (t g : Int) (a : Nat) (h : Nt w lo s v a) (hs : s ≤ 1000000) (bt : -5000 ≤ t ∧ t ≤ 5000) (bg : -5000 ≤ g ∧ g ≤ 5000) (h128 : a < 18446744073709551616 ^ 128) (p x : Int) (hr : M.Rc ii mode neg (M.sz a t g) p x) : Calls Tryz.prog 7 #[.int .i64 ii, .int .i64 mode, xv neg v t g] w (Wn p x w) := by
  rcases hr with ⟨e, rfl, rfl⟩ | ⟨i, rfl, i1, i2, ⟨hm, rfl, rfl⟩ | ⟨hm, hr, rfl⟩⟩
  ·
    have CO := Lib.hid (fun W => of_out W ii e)
    clear h hs bt bg h128 e
    have U := Up.refl w
    go_enter Tryz.func7, Tryz.ntmps7
    go_wp2_with fail
    obtain ⟨V1, hV1⟩ : ∃ V1, w.alloc (.cells #[.bool neg, v, .int .i64 t, .int .i64 g] 25) = V1 := ⟨_, rfl⟩
    have B : Ob V1 w.heap.size 25 #[.bool neg, v, .int .i64 t, .int .i64 g] := by rw [← hV1]; exact Ob.mk_ _ _ _
    have uV1 : Up w V1 := by rw [← hV1]; exact (Up.refl _).alloc _
    have ltB : w.heap.size ≤ w.heap.size := U.size
    rw [hV1]
    clear hV1
    replace U := U.trans uV1
    clear uV1
    refine (CO.out _).mono ?_
    rintro _ w2 ⟨rfl, h2⟩
    replace U := U.trans h2
    replace B := B.up h2
    clear h2
    go_wp2_with fail
    obtain ⟨V3, hV3⟩ : ∃ V3, w2.alloc (.cells #[.int .i64 0, .int .i64 0, .int .i64 0, .int .i64 0, .int .u64 0, .int .u64 0, .int .u64 0] 54) = V3 := ⟨_, rfl⟩
    have C : Bf V3 w2.heap.size 54 ⟨0, 0, 0, 0, 0, 0, 0⟩ := by rw [← hV3]; exact Bf.mk_ w2 ⟨0, 0, 0, 0, 0, 0, 0⟩ 54
    have ltC : w.heap.size ≤ w2.heap.size := U.size
    have uV3 : Up w2 V3 := by rw [← hV3]; exact (Up.refl _).alloc _
    rw [hV3]
    clear hV3
    replace U := U.trans uV3
    replace B := B.up uV3
    clear uV3
    go_wp2_with fail
    go_ret2
    exact ⟨rfl, U⟩
  ·
    obtain ⟨f, hf⟩ : ∃ f, M.tb i = f := ⟨_, rfl⟩
    have CO := Lib.hid (fun W (F : TabF W) => of_in W F i f (Lib.hid hf) i1 i2)
    have CI := Lib.hid (fun W => ismode_any W mode false (decide_eq_false hm))
    clear h hs bt bg h128 hm hf
    have U := Up.refl w
    go_enter Tryz.func7, Tryz.ntmps7
    go_wp2_with fail
    obtain ⟨V1, hV1⟩ : ∃ V1, w.alloc (.cells #[.bool neg, v, .int .i64 t, .int .i64 g] 25) = V1 := ⟨_, rfl⟩
    have B : Ob V1 w.heap.size 25 #[.bool neg, v, .int .i64 t, .int .i64 g] := by rw [← hV1]; exact Ob.mk_ _ _ _
    have uV1 : Up w V1 := by rw [← hV1]; exact (Up.refl _).alloc _
    have ltB : w.heap.size ≤ w.heap.size := U.size
    rw [hV1]
    clear hV1
    replace U := U.trans uV1
    clear uV1
    refine (CO.out _ (TF.out.up U)).mono ?_
    rintro _ w2 ⟨rfl, h2⟩
    replace U := U.trans h2
    replace B := B.up h2
    clear h2
    go_wp2_with fail
    obtain ⟨V3, hV3⟩ : ∃ V3, w2.alloc (.cells #[.int .i64 f.k, .int .i64 f.W, .int .i64 f.m, .int .i64 f.b, .int .u64 f.t, .int .u64 f.n, .int .u64 f.x] 54) = V3 := ⟨_, rfl⟩
    have C : Bf V3 w2.heap.size 54 f := by rw [← hV3]; exact Bf.mk_ w2 f 54
    have ltC : w.heap.size ≤ w2.heap.size := U.size
    have uV3 : Up w2 V3 := by rw [← hV3]; exact (Up.refl _).alloc _
    rw [hV3]
    clear hV3
    replace U := U.trans uV3
    replace B := B.up uV3
    clear uV3
    refine (CI.out _).mono ?_
    rintro _ _ ⟨rfl, rfl⟩
    go_wp2_with fail
    go_ret2
    exact ⟨rfl, U⟩
  ·
    have ok := M.ok i i1 i2
    have ok2 := M.ok2 i i1 i2
    have ok3 := M.ok3 i i1 i2
    have CI := Lib.hid (fun W => ismode_any W mode true (decide_eq_true hm))
    have CR := Lib.hid (fun W (U : Up w W) => right_nt W lo s neg v a t g (h.up U) true (decide_eq_true ⟨h128, by unfold M.pw; omega, by unfold M.pw; omega⟩))
    have CZ := Lib.hid (fun W (U : Up w W) (r : Bool) (hr : Hid (decide (a = 0) = r)) => isnought_any W lo s neg v t g a (h.up U) r hr)
    have CN := Lib.hid (fun W (T : Tz W) (F : TabF W) (U : Up w W) (k : Nat) (o : Bool) (x : Int) (hn : M.Nc (i : Int) neg (M.sz a t g) k o x) => rnd_nearest W (Lib.hid T) (Lib.hid F) (i : Int) neg lo s neg v t g a (h.up U) hs bt bg h128 k o x hn)
    have CP := Lib.hid (fun W (F : TabF W) (k : Nat) (kb : k < 18446744073709551616) (q x : Int) (h : M.Pc (i : Int) neg k q x) => vpattern_any W (Lib.hid F) (i : Int) neg k kb q x h)
    have X0 : M.sz a t g = 0 ↔ a = 0 := M.sz_zero
    obtain ⟨X, hX⟩ : ∃ X, M.sz a t g = X := ⟨_, rfl⟩
    rw [hX] at hr CN X0
    clear hX
    obtain ⟨f, hf⟩ : ∃ f, M.tb i = f := ⟨_, rfl⟩
    have CO := Lib.hid (fun W (F : TabF W) => of_in W F i f (Lib.hid hf) i1 i2)
    have HF := Lib.hid hf
    rw [hf] at ok ok2 ok3 hr
    clear h hs bt bg h128 hm hf
    rcases hr with ⟨h4, hnx, rfl⟩ | ⟨h4, q, k, o, hq, hn, hp⟩
    ·
      have d1 : (f.k == 4) = true := by simpa using h4
      cases neg
      ·
        have a0 : a = 0 := X0.1 (by simpa using hnx)
        have CZ1 := Lib.hid (fun W (U : Up w W) => CZ.out W U true (decide_eq_true a0))
        clear CZ CN CP X0 ok ok2 ok3 hnx a0 h4
        have U := Up.refl w
        go_enter Tryz.func7, Tryz.ntmps7
        go_wp2_with fail
        obtain ⟨V1, hV1⟩ : ∃ V1, w.alloc (.cells #[.bool false, v, .int .i64 t, .int .i64 g] 25) = V1 := ⟨_, rfl⟩
        have B : Ob V1 w.heap.size 25 #[.bool false, v, .int .i64 t, .int .i64 g] := by rw [← hV1]; exact Ob.mk_ _ _ _
        have uV1 : Up w V1 := by rw [← hV1]; exact (Up.refl _).alloc _
        have ltB : w.heap.size ≤ w.heap.size := U.size
        rw [hV1]
        clear hV1
        replace U := U.trans uV1
        clear uV1
        refine (CO.out _ (TF.out.up U)).mono ?_
        rintro _ w2 ⟨rfl, h2⟩
        replace U := U.trans h2
        replace B := B.up h2
        clear h2
        go_wp2_with fail
        obtain ⟨V3, hV3⟩ : ∃ V3, w2.alloc (.cells #[.int .i64 f.k, .int .i64 f.W, .int .i64 f.m, .int .i64 f.b, .int .u64 f.t, .int .u64 f.n, .int .u64 f.x] 54) = V3 := ⟨_, rfl⟩
        have C : Bf V3 w2.heap.size 54 f := by rw [← hV3]; exact Bf.mk_ w2 f 54
        have ltC : w.heap.size ≤ w2.heap.size := U.size
        have uV3 : Up w2 V3 := by rw [← hV3]; exact (Up.refl _).alloc _
        rw [hV3]
        clear hV3
        replace U := U.trans uV3
        replace B := B.up uV3
        clear uV3
        refine (CI.out _).mono ?_
        rintro _ _ ⟨rfl, rfl⟩
        have B0 := B.get 0
        have B1 := B.get 1
        have B2 := B.get 2
        have B3 := B.get 3
        have Bf0 := B.fr 0
        have Bf1 := B.fr 1
        have Bf2 := B.fr 2
        have Bf3 := B.fr 3
        have Bl := B.lt
        simp only [List.getElem?_toArray, List.getElem?_cons_zero, List.getElem?_cons_succ] at B0 B1 B2 B3
        go_wp2_with fail
        clear B0 Bf0 B1 Bf1 B2 Bf2 B3 Bf3 Bl
        refine (CR.out _ U).mono ?_
        rintro _ w4 ⟨rfl, h4⟩
        replace U := U.trans h4
        replace C := C.up h4
        replace B := B.up h4
        clear h4
        obtain ⟨C0, C1, C2, C3, C4, C5, C6⟩ := Bf.cs C
        have C7 := Bf.lt C
        simp only [Nat.zero_add] at C0 C1 C2 C3 C4 C5 C6 C7
        have B0 := B.get 0
        have B1 := B.get 1
        have B2 := B.get 2
        have B3 := B.get 3
        have Bf0 := B.fr 0
        have Bf1 := B.fr 1
        have Bf2 := B.fr 2
        have Bf3 := B.fr 3
        have Bl := B.lt
        simp only [List.getElem?_toArray, List.getElem?_cons_zero, List.getElem?_cons_succ] at B0 B1 B2 B3
        go_wp2_with fail
        clear C0 C1 C2 C3 C4 C5 C6 C7
        clear B0 Bf0 B1 Bf1 B2 Bf2 B3 Bf3 Bl
        refine (CZ1.out _ U).mono ?_
        rintro _ w5 ⟨rfl, h5⟩
        replace U := U.trans h5
        replace C := C.up h5
        replace B := B.up h5
        clear h5
        obtain ⟨C0, C1, C2, C3, C4, C5, C6⟩ := Bf.cs C
        have C7 := Bf.lt C
        simp only [Nat.zero_add] at C0 C1 C2 C3 C4 C5 C6 C7
        have B0 := B.get 0
        have B1 := B.get 1
        have B2 := B.get 2
        have B3 := B.get 3
        have Bf0 := B.fr 0
        have Bf1 := B.fr 1
        have Bf2 := B.fr 2
        have Bf3 := B.fr 3
        have Bl := B.lt
        simp only [List.getElem?_toArray, List.getElem?_cons_zero, List.getElem?_cons_succ] at B0 B1 B2 B3
        go_wp2_with fail
        clear C0 C1 C2 C3 C4 C5 C6 C7
        clear B0 Bf0 B1 Bf1 B2 Bf2 B3 Bf3 Bl
        go_ret2
        exact ⟨rfl, U⟩
      ·
        clear CZ CN CP X0 ok ok2 ok3 hnx h4
        have U := Up.refl w
        go_enter Tryz.func7, Tryz.ntmps7
        go_wp2_with fail
        obtain ⟨V1, hV1⟩ : ∃ V1, w.alloc (.cells #[.bool true, v, .int .i64 t, .int .i64 g] 25) = V1 := ⟨_, rfl⟩
        have B : Ob V1 w.heap.size 25 #[.bool true, v, .int .i64 t, .int .i64 g] := by rw [← hV1]; exact Ob.mk_ _ _ _
        have uV1 : Up w V1 := by rw [← hV1]; exact (Up.refl _).alloc _
        have ltB : w.heap.size ≤ w.heap.size := U.size
        rw [hV1]
        clear hV1
        replace U := U.trans uV1
        clear uV1
        refine (CO.out _ (TF.out.up U)).mono ?_
        rintro _ w2 ⟨rfl, h2⟩
        replace U := U.trans h2
        replace B := B.up h2
        clear h2
        go_wp2_with fail
        obtain ⟨V3, hV3⟩ : ∃ V3, w2.alloc (.cells #[.int .i64 f.k, .int .i64 f.W, .int .i64 f.m, .int .i64 f.b, .int .u64 f.t, .int .u64 f.n, .int .u64 f.x] 54) = V3 := ⟨_, rfl⟩
        have C : Bf V3 w2.heap.size 54 f := by rw [← hV3]; exact Bf.mk_ w2 f 54
        have ltC : w.heap.size ≤ w2.heap.size := U.size
        have uV3 : Up w2 V3 := by rw [← hV3]; exact (Up.refl _).alloc _
        rw [hV3]
        clear hV3
        replace U := U.trans uV3
        replace B := B.up uV3
        clear uV3
        refine (CI.out _).mono ?_
        rintro _ _ ⟨rfl, rfl⟩
        have B0 := B.get 0
        have B1 := B.get 1
        have B2 := B.get 2
        have B3 := B.get 3
        have Bf0 := B.fr 0
        have Bf1 := B.fr 1
        have Bf2 := B.fr 2
        have Bf3 := B.fr 3
        have Bl := B.lt
        simp only [List.getElem?_toArray, List.getElem?_cons_zero, List.getElem?_cons_succ] at B0 B1 B2 B3
        go_wp2_with fail
        clear B0 Bf0 B1 Bf1 B2 Bf2 B3 Bf3 Bl
        refine (CR.out _ U).mono ?_
        rintro _ w4 ⟨rfl, h4⟩
        replace U := U.trans h4
        replace C := C.up h4
        replace B := B.up h4
        clear h4
        obtain ⟨C0, C1, C2, C3, C4, C5, C6⟩ := Bf.cs C
        have C7 := Bf.lt C
        simp only [Nat.zero_add] at C0 C1 C2 C3 C4 C5 C6 C7
        have B0 := B.get 0
        have B1 := B.get 1
        have B2 := B.get 2
        have B3 := B.get 3
        have Bf0 := B.fr 0
        have Bf1 := B.fr 1
        have Bf2 := B.fr 2
        have Bf3 := B.fr 3
        have Bl := B.lt
        simp only [List.getElem?_toArray, List.getElem?_cons_zero, List.getElem?_cons_succ] at B0 B1 B2 B3
        go_wp2_with fail
        clear C0 C1 C2 C3 C4 C5 C6 C7
        clear B0 Bf0 B1 Bf1 B2 Bf2 B3 Bf3 Bl
        go_ret2
        exact ⟨rfl, U⟩
    ·
      obtain ⟨q', hq', q3, qb, qt⟩ := M.mst_rng ok ok2 ok3 neg
      obtain rfl : q = q' := by omega
      have kq : k ≤ q := by
        rcases hn with ⟨_, rfl, _⟩ | ⟨_, h, _⟩
        · exact Nat.le_refl _
        · exact h
      have h4' : ¬ (f.k = 4 ∧ neg = true) := fun e => h4 ⟨e.1, .inl e.2⟩
      have CN1 := Lib.hid (fun W T F (U : Up w W) => CN.out W T F U k o 0 (.inr ⟨i, rfl, i1, i2, .inr ⟨by rw [HF.out]; exact h4', q, by rw [HF.out]; exact hq, by rw [HF.out]; exact hn, rfl⟩⟩))
      have CP1 : Hid (∀ W, TabF W → Calls Tryz.prog 24 #[.int .i64 (i : Int), .bool neg, u64 k] W (Wn (M.pat f neg k) 0 W)) := fun W F => CP.out W F k (by omega) _ 0 (.inr ⟨i, rfl, i1, i2, .inr ⟨by rw [HF.out]; exact h4', .inr ⟨by rw [HF.out, hq]; omega, by rw [HF.out], rfl⟩⟩⟩)
      have CS := Lib.hid (fun W (r : Bool) (hr : Hid (r = true ↔ M.st f mode)) => rnd_stays W f mode r hr)
      have CL := Lib.hid (fun W => rnd_large W f ok ok3 neg _ rfl)
      obtain ⟨y, hy⟩ : ∃ y, M.pat f neg k = y := ⟨_, rfl⟩
      obtain ⟨l, hl⟩ : ∃ l, M.tl f neg = l := ⟨_, rfl⟩
      rw [hy] at CP1 hp
      rw [hl] at CL hp
      have kb : k < 18446744073709551616 := by omega
      have K4 : ((f.k == 4) = false) ∨ ((f.k == 4) = true ∧ neg = false ∧ a ≠ 0) := by
        by_cases e : f.k = 4
        · refine .inr ⟨by simpa using e, ?_, fun a0 => h4 ⟨e, .inr (X0.2 a0)⟩⟩
          cases neg
          · rfl
          · exact absurd ⟨e, .inl rfl⟩ h4
        · exact .inl (by simpa using e)
      clear hy hl hn hq hq' h4 h4' q3 qt kq CN CP ok ok2 ok3 X0 HF
      rcases hp with ⟨rfl, hs, rfl⟩ | ⟨hs, rfl⟩
      ·
        have CS1 := Lib.hid (fun W => CS.out W false ⟨fun e => (by cases e), fun e => absurd e hs⟩)
        clear CS hs CP1
        rcases K4 with d1 | ⟨d1, rfl, a0⟩
        ·
          clear CZ
          have U := Up.refl w
          go_enter Tryz.func7, Tryz.ntmps7
          go_wp2_with fail
          obtain ⟨V1, hV1⟩ : ∃ V1, w.alloc (.cells #[.bool neg, v, .int .i64 t, .int .i64 g] 25) = V1 := ⟨_, rfl⟩
          have B : Ob V1 w.heap.size 25 #[.bool neg, v, .int .i64 t, .int .i64 g] := by rw [← hV1]; exact Ob.mk_ _ _ _
          have uV1 : Up w V1 := by rw [← hV1]; exact (Up.refl _).alloc _
          have ltB : w.heap.size ≤ w.heap.size := U.size
          rw [hV1]
          clear hV1
          replace U := U.trans uV1
          clear uV1
          refine (CO.out _ (TF.out.up U)).mono ?_
          rintro _ w2 ⟨rfl, h2⟩
          replace U := U.trans h2
          replace B := B.up h2
          clear h2
          go_wp2_with fail
          obtain ⟨V3, hV3⟩ : ∃ V3, w2.alloc (.cells #[.int .i64 f.k, .int .i64 f.W, .int .i64 f.m, .int .i64 f.b, .int .u64 f.t, .int .u64 f.n, .int .u64 f.x] 54) = V3 := ⟨_, rfl⟩
          have C : Bf V3 w2.heap.size 54 f := by rw [← hV3]; exact Bf.mk_ w2 f 54
          have ltC : w.heap.size ≤ w2.heap.size := U.size
          have uV3 : Up w2 V3 := by rw [← hV3]; exact (Up.refl _).alloc _
          rw [hV3]
          clear hV3
          replace U := U.trans uV3
          replace B := B.up uV3
          clear uV3
          refine (CI.out _).mono ?_
          rintro _ _ ⟨rfl, rfl⟩
          have B0 := B.get 0
          have B1 := B.get 1
          have B2 := B.get 2
          have B3 := B.get 3
          have Bf0 := B.fr 0
          have Bf1 := B.fr 1
          have Bf2 := B.fr 2
          have Bf3 := B.fr 3
          have Bl := B.lt
          simp only [List.getElem?_toArray, List.getElem?_cons_zero, List.getElem?_cons_succ] at B0 B1 B2 B3
          go_wp2_with fail
          clear B0 Bf0 B1 Bf1 B2 Bf2 B3 Bf3 Bl
          refine (CR.out _ U).mono ?_
          rintro _ w4 ⟨rfl, h4⟩
          replace U := U.trans h4
          replace C := C.up h4
          replace B := B.up h4
          clear h4
          obtain ⟨C0, C1, C2, C3, C4, C5, C6⟩ := Bf.cs C
          have C7 := Bf.lt C
          simp only [Nat.zero_add] at C0 C1 C2 C3 C4 C5 C6 C7
          have B0 := B.get 0
          have B1 := B.get 1
          have B2 := B.get 2
          have B3 := B.get 3
          have Bf0 := B.fr 0
          have Bf1 := B.fr 1
          have Bf2 := B.fr 2
          have Bf3 := B.fr 3
          have Bl := B.lt
          simp only [List.getElem?_toArray, List.getElem?_cons_zero, List.getElem?_cons_succ] at B0 B1 B2 B3
          go_wp2_with fail
          clear C0 C1 C2 C3 C4 C5 C6 C7
          clear B0 Bf0 B1 Bf1 B2 Bf2 B3 Bf3 Bl
          refine (CN1.out _ (TT.out.up U) (TF.out.up U) U).mono ?_
          rintro _ w5 ⟨rfl, h5⟩
          replace U := U.trans h5
          replace C := C.up h5
          replace B := B.up h5
          clear h5
          obtain ⟨C0, C1, C2, C3, C4, C5, C6⟩ := Bf.cs C
          have C7 := Bf.lt C
          simp only [Nat.zero_add] at C0 C1 C2 C3 C4 C5 C6 C7
          have B0 := B.get 0
          have B1 := B.get 1
          have B2 := B.get 2
          have B3 := B.get 3
          have Bf0 := B.fr 0
          have Bf1 := B.fr 1
          have Bf2 := B.fr 2
          have Bf3 := B.fr 3
          have Bl := B.lt
          simp only [List.getElem?_toArray, List.getElem?_cons_zero, List.getElem?_cons_succ] at B0 B1 B2 B3
          go_wp2_with fail
          clear C0 C1 C2 C3 C4 C5 C6 C7
          clear B0 Bf0 B1 Bf1 B2 Bf2 B3 Bf3 Bl
          refine (CS1.out _).mono ?_
          rintro _ w6 ⟨rfl, h6⟩
          replace U := U.trans h6
          replace C := C.up h6
          replace B := B.up h6
          clear h6
          obtain ⟨C0, C1, C2, C3, C4, C5, C6⟩ := Bf.cs C
          have C7 := Bf.lt C
          simp only [Nat.zero_add] at C0 C1 C2 C3 C4 C5 C6 C7
          have B0 := B.get 0
          have B1 := B.get 1
          have B2 := B.get 2
          have B3 := B.get 3
          have Bf0 := B.fr 0
          have Bf1 := B.fr 1
          have Bf2 := B.fr 2
          have Bf3 := B.fr 3
          have Bl := B.lt
          simp only [List.getElem?_toArray, List.getElem?_cons_zero, List.getElem?_cons_succ] at B0 B1 B2 B3
          go_wp2_with fail
          clear C0 C1 C2 C3 C4 C5 C6 C7
          clear B0 Bf0 B1 Bf1 B2 Bf2 B3 Bf3 Bl
          refine (CL.out _).mono ?_
          rintro _ w7 ⟨rfl, h7⟩
          replace U := U.trans h7
          replace C := C.up h7
          replace B := B.up h7
          clear h7
          obtain ⟨C0, C1, C2, C3, C4, C5, C6⟩ := Bf.cs C
          have C7 := Bf.lt C
          simp only [Nat.zero_add] at C0 C1 C2 C3 C4 C5 C6 C7
          have B0 := B.get 0
          have B1 := B.get 1
          have B2 := B.get 2
          have B3 := B.get 3
          have Bf0 := B.fr 0
          have Bf1 := B.fr 1
          have Bf2 := B.fr 2
          have Bf3 := B.fr 3
          have Bl := B.lt
          simp only [List.getElem?_toArray, List.getElem?_cons_zero, List.getElem?_cons_succ] at B0 B1 B2 B3
          go_wp2_with fail
          clear C0 C1 C2 C3 C4 C5 C6 C7
          clear B0 Bf0 B1 Bf1 B2 Bf2 B3 Bf3 Bl
          go_ret2
          exact ⟨rfl, U⟩
        ·
          have CZ1 := Lib.hid (fun W (U : Up w W) => CZ.out W U false (decide_eq_false a0))
          clear CZ a0
          have U := Up.refl w
          go_enter Tryz.func7, Tryz.ntmps7
          go_wp2_with fail
          obtain ⟨V1, hV1⟩ : ∃ V1, w.alloc (.cells #[.bool false, v, .int .i64 t, .int .i64 g] 25) = V1 := ⟨_, rfl⟩
          have B : Ob V1 w.heap.size 25 #[.bool false, v, .int .i64 t, .int .i64 g] := by rw [← hV1]; exact Ob.mk_ _ _ _
          have uV1 : Up w V1 := by rw [← hV1]; exact (Up.refl _).alloc _
          have ltB : w.heap.size ≤ w.heap.size := U.size
          rw [hV1]
          clear hV1
          replace U := U.trans uV1
          clear uV1
          refine (CO.out _ (TF.out.up U)).mono ?_
          rintro _ w2 ⟨rfl, h2⟩
          replace U := U.trans h2
          replace B := B.up h2
          clear h2
          go_wp2_with fail
          obtain ⟨V3, hV3⟩ : ∃ V3, w2.alloc (.cells #[.int .i64 f.k, .int .i64 f.W, .int .i64 f.m, .int .i64 f.b, .int .u64 f.t, .int .u64 f.n, .int .u64 f.x] 54) = V3 := ⟨_, rfl⟩
          have C : Bf V3 w2.heap.size 54 f := by rw [← hV3]; exact Bf.mk_ w2 f 54
          have ltC : w.heap.size ≤ w2.heap.size := U.size
          have uV3 : Up w2 V3 := by rw [← hV3]; exact (Up.refl _).alloc _
          rw [hV3]
          clear hV3
          replace U := U.trans uV3
          replace B := B.up uV3
          clear uV3
          refine (CI.out _).mono ?_
          rintro _ _ ⟨rfl, rfl⟩
          have B0 := B.get 0
          have B1 := B.get 1
          have B2 := B.get 2
          have B3 := B.get 3
          have Bf0 := B.fr 0
          have Bf1 := B.fr 1
          have Bf2 := B.fr 2
          have Bf3 := B.fr 3
          have Bl := B.lt
          simp only [List.getElem?_toArray, List.getElem?_cons_zero, List.getElem?_cons_succ] at B0 B1 B2 B3
          go_wp2_with fail
          clear B0 Bf0 B1 Bf1 B2 Bf2 B3 Bf3 Bl
          refine (CR.out _ U).mono ?_
          rintro _ w4 ⟨rfl, h4⟩
          replace U := U.trans h4
          replace C := C.up h4
          replace B := B.up h4
          clear h4
          obtain ⟨C0, C1, C2, C3, C4, C5, C6⟩ := Bf.cs C
          have C7 := Bf.lt C
          simp only [Nat.zero_add] at C0 C1 C2 C3 C4 C5 C6 C7
          have B0 := B.get 0
          have B1 := B.get 1
          have B2 := B.get 2
          have B3 := B.get 3
          have Bf0 := B.fr 0
          have Bf1 := B.fr 1
          have Bf2 := B.fr 2
          have Bf3 := B.fr 3
          have Bl := B.lt
          simp only [List.getElem?_toArray, List.getElem?_cons_zero, List.getElem?_cons_succ] at B0 B1 B2 B3
          go_wp2_with fail
          clear C0 C1 C2 C3 C4 C5 C6 C7
          clear B0 Bf0 B1 Bf1 B2 Bf2 B3 Bf3 Bl
          refine (CZ1.out _ U).mono ?_
          rintro _ w5 ⟨rfl, h5⟩
          replace U := U.trans h5
          replace C := C.up h5
          replace B := B.up h5
          clear h5
          obtain ⟨C0, C1, C2, C3, C4, C5, C6⟩ := Bf.cs C
          have C7 := Bf.lt C
          simp only [Nat.zero_add] at C0 C1 C2 C3 C4 C5 C6 C7
          have B0 := B.get 0
          have B1 := B.get 1
          have B2 := B.get 2
          have B3 := B.get 3
          have Bf0 := B.fr 0
          have Bf1 := B.fr 1
          have Bf2 := B.fr 2
          have Bf3 := B.fr 3
          have Bl := B.lt
          simp only [List.getElem?_toArray, List.getElem?_cons_zero, List.getElem?_cons_succ] at B0 B1 B2 B3
          go_wp2_with fail
          clear C0 C1 C2 C3 C4 C5 C6 C7
          clear B0 Bf0 B1 Bf1 B2 Bf2 B3 Bf3 Bl
          refine (CN1.out _ (TT.out.up U) (TF.out.up U) U).mono ?_
          rintro _ w6 ⟨rfl, h6⟩
          replace U := U.trans h6
          replace C := C.up h6
          replace B := B.up h6
          clear h6
          obtain ⟨C0, C1, C2, C3, C4, C5, C6⟩ := Bf.cs C
          have C7 := Bf.lt C
          simp only [Nat.zero_add] at C0 C1 C2 C3 C4 C5 C6 C7
          have B0 := B.get 0
          have B1 := B.get 1
          have B2 := B.get 2
          have B3 := B.get 3
          have Bf0 := B.fr 0
          have Bf1 := B.fr 1
          have Bf2 := B.fr 2
          have Bf3 := B.fr 3
          have Bl := B.lt
          simp only [List.getElem?_toArray, List.getElem?_cons_zero, List.getElem?_cons_succ] at B0 B1 B2 B3
          go_wp2_with fail
          clear C0 C1 C2 C3 C4 C5 C6 C7
          clear B0 Bf0 B1 Bf1 B2 Bf2 B3 Bf3 Bl
          refine (CS1.out _).mono ?_
          rintro _ w7 ⟨rfl, h7⟩
          replace U := U.trans h7
          replace C := C.up h7
          replace B := B.up h7
          clear h7
          obtain ⟨C0, C1, C2, C3, C4, C5, C6⟩ := Bf.cs C
          have C7 := Bf.lt C
          simp only [Nat.zero_add] at C0 C1 C2 C3 C4 C5 C6 C7
          have B0 := B.get 0
          have B1 := B.get 1
          have B2 := B.get 2
          have B3 := B.get 3
          have Bf0 := B.fr 0
          have Bf1 := B.fr 1
          have Bf2 := B.fr 2
          have Bf3 := B.fr 3
          have Bl := B.lt
          simp only [List.getElem?_toArray, List.getElem?_cons_zero, List.getElem?_cons_succ] at B0 B1 B2 B3
          go_wp2_with fail
          clear C0 C1 C2 C3 C4 C5 C6 C7
          clear B0 Bf0 B1 Bf1 B2 Bf2 B3 Bf3 Bl
          refine (CL.out _).mono ?_
          rintro _ w8 ⟨rfl, h8⟩
          replace U := U.trans h8
          replace C := C.up h8
          replace B := B.up h8
          clear h8
          obtain ⟨C0, C1, C2, C3, C4, C5, C6⟩ := Bf.cs C
          have C7 := Bf.lt C
          simp only [Nat.zero_add] at C0 C1 C2 C3 C4 C5 C6 C7
          have B0 := B.get 0
          have B1 := B.get 1
          have B2 := B.get 2
          have B3 := B.get 3
          have Bf0 := B.fr 0
          have Bf1 := B.fr 1
          have Bf2 := B.fr 2
          have Bf3 := B.fr 3
          have Bl := B.lt
          simp only [List.getElem?_toArray, List.getElem?_cons_zero, List.getElem?_cons_succ] at B0 B1 B2 B3
          go_wp2_with fail
          clear C0 C1 C2 C3 C4 C5 C6 C7
          clear B0 Bf0 B1 Bf1 B2 Bf2 B3 Bf3 Bl
          go_ret2
          exact ⟨rfl, U⟩
      ·
        clear CL
        cases o
        ·
          clear CS hs
          rcases K4 with d1 | ⟨d1, rfl, a0⟩
          ·
            clear CZ
            have U := Up.refl w
            go_enter Tryz.func7, Tryz.ntmps7
            go_wp2_with fail
            obtain ⟨V1, hV1⟩ : ∃ V1, w.alloc (.cells #[.bool neg, v, .int .i64 t, .int .i64 g] 25) = V1 := ⟨_, rfl⟩
            have B : Ob V1 w.heap.size 25 #[.bool neg, v, .int .i64 t, .int .i64 g] := by rw [← hV1]; exact Ob.mk_ _ _ _
            have uV1 : Up w V1 := by rw [← hV1]; exact (Up.refl _).alloc _
            have ltB : w.heap.size ≤ w.heap.size := U.size
            rw [hV1]
            clear hV1
            replace U := U.trans uV1
            clear uV1
            refine (CO.out _ (TF.out.up U)).mono ?_
            rintro _ w2 ⟨rfl, h2⟩
            replace U := U.trans h2
            replace B := B.up h2
            clear h2
            go_wp2_with fail
            obtain ⟨V3, hV3⟩ : ∃ V3, w2.alloc (.cells #[.int .i64 f.k, .int .i64 f.W, .int .i64 f.m, .int .i64 f.b, .int .u64 f.t, .int .u64 f.n, .int .u64 f.x] 54) = V3 := ⟨_, rfl⟩
            have C : Bf V3 w2.heap.size 54 f := by rw [← hV3]; exact Bf.mk_ w2 f 54
            have ltC : w.heap.size ≤ w2.heap.size := U.size
            have uV3 : Up w2 V3 := by rw [← hV3]; exact (Up.refl _).alloc _
            rw [hV3]
            clear hV3
            replace U := U.trans uV3
            replace B := B.up uV3
            clear uV3
            refine (CI.out _).mono ?_
            rintro _ _ ⟨rfl, rfl⟩
            have B0 := B.get 0
            have B1 := B.get 1
            have B2 := B.get 2
            have B3 := B.get 3
            have Bf0 := B.fr 0
            have Bf1 := B.fr 1
            have Bf2 := B.fr 2
            have Bf3 := B.fr 3
            have Bl := B.lt
            simp only [List.getElem?_toArray, List.getElem?_cons_zero, List.getElem?_cons_succ] at B0 B1 B2 B3
            go_wp2_with fail
            clear B0 Bf0 B1 Bf1 B2 Bf2 B3 Bf3 Bl
            refine (CR.out _ U).mono ?_
            rintro _ w4 ⟨rfl, h4⟩
            replace U := U.trans h4
            replace C := C.up h4
            replace B := B.up h4
            clear h4
            obtain ⟨C0, C1, C2, C3, C4, C5, C6⟩ := Bf.cs C
            have C7 := Bf.lt C
            simp only [Nat.zero_add] at C0 C1 C2 C3 C4 C5 C6 C7
            have B0 := B.get 0
            have B1 := B.get 1
            have B2 := B.get 2
            have B3 := B.get 3
            have Bf0 := B.fr 0
            have Bf1 := B.fr 1
            have Bf2 := B.fr 2
            have Bf3 := B.fr 3
            have Bl := B.lt
            simp only [List.getElem?_toArray, List.getElem?_cons_zero, List.getElem?_cons_succ] at B0 B1 B2 B3
            go_wp2_with fail
            clear C0 C1 C2 C3 C4 C5 C6 C7
            clear B0 Bf0 B1 Bf1 B2 Bf2 B3 Bf3 Bl
            refine (CN1.out _ (TT.out.up U) (TF.out.up U) U).mono ?_
            rintro _ w5 ⟨rfl, h5⟩
            replace U := U.trans h5
            replace C := C.up h5
            replace B := B.up h5
            clear h5
            obtain ⟨C0, C1, C2, C3, C4, C5, C6⟩ := Bf.cs C
            have C7 := Bf.lt C
            simp only [Nat.zero_add] at C0 C1 C2 C3 C4 C5 C6 C7
            have B0 := B.get 0
            have B1 := B.get 1
            have B2 := B.get 2
            have B3 := B.get 3
            have Bf0 := B.fr 0
            have Bf1 := B.fr 1
            have Bf2 := B.fr 2
            have Bf3 := B.fr 3
            have Bl := B.lt
            simp only [List.getElem?_toArray, List.getElem?_cons_zero, List.getElem?_cons_succ] at B0 B1 B2 B3
            go_wp2_with fail
            clear C0 C1 C2 C3 C4 C5 C6 C7
            clear B0 Bf0 B1 Bf1 B2 Bf2 B3 Bf3 Bl
            refine (CP1.out _ (TF.out.up U)).mono ?_
            rintro _ w6 ⟨rfl, h6⟩
            replace U := U.trans h6
            replace C := C.up h6
            replace B := B.up h6
            clear h6
            obtain ⟨C0, C1, C2, C3, C4, C5, C6⟩ := Bf.cs C
            have C7 := Bf.lt C
            simp only [Nat.zero_add] at C0 C1 C2 C3 C4 C5 C6 C7
            have B0 := B.get 0
            have B1 := B.get 1
            have B2 := B.get 2
            have B3 := B.get 3
            have Bf0 := B.fr 0
            have Bf1 := B.fr 1
            have Bf2 := B.fr 2
            have Bf3 := B.fr 3
            have Bl := B.lt
            simp only [List.getElem?_toArray, List.getElem?_cons_zero, List.getElem?_cons_succ] at B0 B1 B2 B3
            go_wp2_with fail
            clear C0 C1 C2 C3 C4 C5 C6 C7
            clear B0 Bf0 B1 Bf1 B2 Bf2 B3 Bf3 Bl
            go_ret2
            exact ⟨rfl, U⟩
          ·
            have CZ1 := Lib.hid (fun W (U : Up w W) => CZ.out W U false (decide_eq_false a0))
            clear CZ a0
            have U := Up.refl w
            go_enter Tryz.func7, Tryz.ntmps7
            go_wp2_with fail
            obtain ⟨V1, hV1⟩ : ∃ V1, w.alloc (.cells #[.bool false, v, .int .i64 t, .int .i64 g] 25) = V1 := ⟨_, rfl⟩
            have B : Ob V1 w.heap.size 25 #[.bool false, v, .int .i64 t, .int .i64 g] := by rw [← hV1]; exact Ob.mk_ _ _ _
            have uV1 : Up w V1 := by rw [← hV1]; exact (Up.refl _).alloc _
            have ltB : w.heap.size ≤ w.heap.size := U.size
            rw [hV1]
            clear hV1
            replace U := U.trans uV1
            clear uV1
            refine (CO.out _ (TF.out.up U)).mono ?_
            rintro _ w2 ⟨rfl, h2⟩
            replace U := U.trans h2
            replace B := B.up h2
            clear h2
            go_wp2_with fail
            obtain ⟨V3, hV3⟩ : ∃ V3, w2.alloc (.cells #[.int .i64 f.k, .int .i64 f.W, .int .i64 f.m, .int .i64 f.b, .int .u64 f.t, .int .u64 f.n, .int .u64 f.x] 54) = V3 := ⟨_, rfl⟩
            have C : Bf V3 w2.heap.size 54 f := by rw [← hV3]; exact Bf.mk_ w2 f 54
            have ltC : w.heap.size ≤ w2.heap.size := U.size
            have uV3 : Up w2 V3 := by rw [← hV3]; exact (Up.refl _).alloc _
            rw [hV3]
            clear hV3
            replace U := U.trans uV3
            replace B := B.up uV3
            clear uV3
            refine (CI.out _).mono ?_
            rintro _ _ ⟨rfl, rfl⟩
            have B0 := B.get 0
            have B1 := B.get 1
            have B2 := B.get 2
            have B3 := B.get 3
            have Bf0 := B.fr 0
            have Bf1 := B.fr 1
            have Bf2 := B.fr 2
            have Bf3 := B.fr 3
            have Bl := B.lt
            simp only [List.getElem?_toArray, List.getElem?_cons_zero, List.getElem?_cons_succ] at B0 B1 B2 B3
            go_wp2_with fail
            clear B0 Bf0 B1 Bf1 B2 Bf2 B3 Bf3 Bl
            refine (CR.out _ U).mono ?_
            rintro _ w4 ⟨rfl, h4⟩
            replace U := U.trans h4
            replace C := C.up h4
            replace B := B.up h4
            clear h4
            obtain ⟨C0, C1, C2, C3, C4, C5, C6⟩ := Bf.cs C
            have C7 := Bf.lt C
            simp only [Nat.zero_add] at C0 C1 C2 C3 C4 C5 C6 C7
            have B0 := B.get 0
            have B1 := B.get 1
            have B2 := B.get 2
            have B3 := B.get 3
            have Bf0 := B.fr 0
            have Bf1 := B.fr 1
            have Bf2 := B.fr 2
            have Bf3 := B.fr 3
            have Bl := B.lt
            simp only [List.getElem?_toArray, List.getElem?_cons_zero, List.getElem?_cons_succ] at B0 B1 B2 B3
            go_wp2_with fail
            clear C0 C1 C2 C3 C4 C5 C6 C7
            clear B0 Bf0 B1 Bf1 B2 Bf2 B3 Bf3 Bl
            refine (CZ1.out _ U).mono ?_
            rintro _ w5 ⟨rfl, h5⟩
            replace U := U.trans h5
            replace C := C.up h5
            replace B := B.up h5
            clear h5
            obtain ⟨C0, C1, C2, C3, C4, C5, C6⟩ := Bf.cs C
            have C7 := Bf.lt C
            simp only [Nat.zero_add] at C0 C1 C2 C3 C4 C5 C6 C7
            have B0 := B.get 0
            have B1 := B.get 1
            have B2 := B.get 2
            have B3 := B.get 3
            have Bf0 := B.fr 0
            have Bf1 := B.fr 1
            have Bf2 := B.fr 2
            have Bf3 := B.fr 3
            have Bl := B.lt
            simp only [List.getElem?_toArray, List.getElem?_cons_zero, List.getElem?_cons_succ] at B0 B1 B2 B3
            go_wp2_with fail
            clear C0 C1 C2 C3 C4 C5 C6 C7
            clear B0 Bf0 B1 Bf1 B2 Bf2 B3 Bf3 Bl
            refine (CN1.out _ (TT.out.up U) (TF.out.up U) U).mono ?_
            rintro _ w6 ⟨rfl, h6⟩
            replace U := U.trans h6
            replace C := C.up h6
            replace B := B.up h6
            clear h6
            obtain ⟨C0, C1, C2, C3, C4, C5, C6⟩ := Bf.cs C
            have C7 := Bf.lt C
            simp only [Nat.zero_add] at C0 C1 C2 C3 C4 C5 C6 C7
            have B0 := B.get 0
            have B1 := B.get 1
            have B2 := B.get 2
            have B3 := B.get 3
            have Bf0 := B.fr 0
            have Bf1 := B.fr 1
            have Bf2 := B.fr 2
            have Bf3 := B.fr 3
            have Bl := B.lt
            simp only [List.getElem?_toArray, List.getElem?_cons_zero, List.getElem?_cons_succ] at B0 B1 B2 B3
            go_wp2_with fail
            clear C0 C1 C2 C3 C4 C5 C6 C7
            clear B0 Bf0 B1 Bf1 B2 Bf2 B3 Bf3 Bl
            refine (CP1.out _ (TF.out.up U)).mono ?_
            rintro _ w7 ⟨rfl, h7⟩
            replace U := U.trans h7
            replace C := C.up h7
            replace B := B.up h7
            clear h7
            obtain ⟨C0, C1, C2, C3, C4, C5, C6⟩ := Bf.cs C
            have C7 := Bf.lt C
            simp only [Nat.zero_add] at C0 C1 C2 C3 C4 C5 C6 C7
            have B0 := B.get 0
            have B1 := B.get 1
            have B2 := B.get 2
            have B3 := B.get 3
            have Bf0 := B.fr 0
            have Bf1 := B.fr 1
            have Bf2 := B.fr 2
            have Bf3 := B.fr 3
            have Bl := B.lt
            simp only [List.getElem?_toArray, List.getElem?_cons_zero, List.getElem?_cons_succ] at B0 B1 B2 B3
            go_wp2_with fail
            clear C0 C1 C2 C3 C4 C5 C6 C7
            clear B0 Bf0 B1 Bf1 B2 Bf2 B3 Bf3 Bl
            go_ret2
            exact ⟨rfl, U⟩
        ·
          have hs2 : M.st f mode := Classical.byContradiction (fun e => hs ⟨rfl, e⟩)
          have CS1 := Lib.hid (fun W => CS.out W true ⟨fun _ => hs2, fun _ => rfl⟩)
          clear CS hs hs2
          rcases K4 with d1 | ⟨d1, rfl, a0⟩
          ·
            clear CZ
            have U := Up.refl w
            go_enter Tryz.func7, Tryz.ntmps7
            go_wp2_with fail
            obtain ⟨V1, hV1⟩ : ∃ V1, w.alloc (.cells #[.bool neg, v, .int .i64 t, .int .i64 g] 25) = V1 := ⟨_, rfl⟩
            have B : Ob V1 w.heap.size 25 #[.bool neg, v, .int .i64 t, .int .i64 g] := by rw [← hV1]; exact Ob.mk_ _ _ _
            have uV1 : Up w V1 := by rw [← hV1]; exact (Up.refl _).alloc _
            have ltB : w.heap.size ≤ w.heap.size := U.size
            rw [hV1]
            clear hV1
            replace U := U.trans uV1
            clear uV1
            refine (CO.out _ (TF.out.up U)).mono ?_
            rintro _ w2 ⟨rfl, h2⟩
            replace U := U.trans h2
            replace B := B.up h2
            clear h2
            go_wp2_with fail
            obtain ⟨V3, hV3⟩ : ∃ V3, w2.alloc (.cells #[.int .i64 f.k, .int .i64 f.W, .int .i64 f.m, .int .i64 f.b, .int .u64 f.t, .int .u64 f.n, .int .u64 f.x] 54) = V3 := ⟨_, rfl⟩
            have C : Bf V3 w2.heap.size 54 f := by rw [← hV3]; exact Bf.mk_ w2 f 54
            have ltC : w.heap.size ≤ w2.heap.size := U.size
            have uV3 : Up w2 V3 := by rw [← hV3]; exact (Up.refl _).alloc _
            rw [hV3]
            clear hV3
            replace U := U.trans uV3
            replace B := B.up uV3
            clear uV3
            refine (CI.out _).mono ?_
            rintro _ _ ⟨rfl, rfl⟩
            have B0 := B.get 0
            have B1 := B.get 1
            have B2 := B.get 2
            have B3 := B.get 3
            have Bf0 := B.fr 0
            have Bf1 := B.fr 1
            have Bf2 := B.fr 2
            have Bf3 := B.fr 3
            have Bl := B.lt
            simp only [List.getElem?_toArray, List.getElem?_cons_zero, List.getElem?_cons_succ] at B0 B1 B2 B3
            go_wp2_with fail
            clear B0 Bf0 B1 Bf1 B2 Bf2 B3 Bf3 Bl
            refine (CR.out _ U).mono ?_
            rintro _ w4 ⟨rfl, h4⟩
            replace U := U.trans h4
            replace C := C.up h4
            replace B := B.up h4
            clear h4
            obtain ⟨C0, C1, C2, C3, C4, C5, C6⟩ := Bf.cs C
            have C7 := Bf.lt C
            simp only [Nat.zero_add] at C0 C1 C2 C3 C4 C5 C6 C7
            have B0 := B.get 0
            have B1 := B.get 1
            have B2 := B.get 2
            have B3 := B.get 3
            have Bf0 := B.fr 0
            have Bf1 := B.fr 1
            have Bf2 := B.fr 2
            have Bf3 := B.fr 3
            have Bl := B.lt
            simp only [List.getElem?_toArray, List.getElem?_cons_zero, List.getElem?_cons_succ] at B0 B1 B2 B3
            go_wp2_with fail
            clear C0 C1 C2 C3 C4 C5 C6 C7
            clear B0 Bf0 B1 Bf1 B2 Bf2 B3 Bf3 Bl
            refine (CN1.out _ (TT.out.up U) (TF.out.up U) U).mono ?_
            rintro _ w5 ⟨rfl, h5⟩
            replace U := U.trans h5
            replace C := C.up h5
            replace B := B.up h5
            clear h5
            obtain ⟨C0, C1, C2, C3, C4, C5, C6⟩ := Bf.cs C
            have C7 := Bf.lt C
            simp only [Nat.zero_add] at C0 C1 C2 C3 C4 C5 C6 C7
            have B0 := B.get 0
            have B1 := B.get 1
            have B2 := B.get 2
            have B3 := B.get 3
            have Bf0 := B.fr 0
            have Bf1 := B.fr 1
            have Bf2 := B.fr 2
            have Bf3 := B.fr 3
            have Bl := B.lt
            simp only [List.getElem?_toArray, List.getElem?_cons_zero, List.getElem?_cons_succ] at B0 B1 B2 B3
            go_wp2_with fail
            clear C0 C1 C2 C3 C4 C5 C6 C7
            clear B0 Bf0 B1 Bf1 B2 Bf2 B3 Bf3 Bl
            refine (CS1.out _).mono ?_
            rintro _ w6 ⟨rfl, h6⟩
            replace U := U.trans h6
            replace C := C.up h6
            replace B := B.up h6
            clear h6
            obtain ⟨C0, C1, C2, C3, C4, C5, C6⟩ := Bf.cs C
            have C7 := Bf.lt C
            simp only [Nat.zero_add] at C0 C1 C2 C3 C4 C5 C6 C7
            have B0 := B.get 0
            have B1 := B.get 1
            have B2 := B.get 2
            have B3 := B.get 3
            have Bf0 := B.fr 0
            have Bf1 := B.fr 1
            have Bf2 := B.fr 2
            have Bf3 := B.fr 3
            have Bl := B.lt
            simp only [List.getElem?_toArray, List.getElem?_cons_zero, List.getElem?_cons_succ] at B0 B1 B2 B3
            go_wp2_with fail
            clear C0 C1 C2 C3 C4 C5 C6 C7
            clear B0 Bf0 B1 Bf1 B2 Bf2 B3 Bf3 Bl
            refine (CP1.out _ (TF.out.up U)).mono ?_
            rintro _ w7 ⟨rfl, h7⟩
            replace U := U.trans h7
            replace C := C.up h7
            replace B := B.up h7
            clear h7
            obtain ⟨C0, C1, C2, C3, C4, C5, C6⟩ := Bf.cs C
            have C7 := Bf.lt C
            simp only [Nat.zero_add] at C0 C1 C2 C3 C4 C5 C6 C7
            have B0 := B.get 0
            have B1 := B.get 1
            have B2 := B.get 2
            have B3 := B.get 3
            have Bf0 := B.fr 0
            have Bf1 := B.fr 1
            have Bf2 := B.fr 2
            have Bf3 := B.fr 3
            have Bl := B.lt
            simp only [List.getElem?_toArray, List.getElem?_cons_zero, List.getElem?_cons_succ] at B0 B1 B2 B3
            go_wp2_with fail
            clear C0 C1 C2 C3 C4 C5 C6 C7
            clear B0 Bf0 B1 Bf1 B2 Bf2 B3 Bf3 Bl
            go_ret2
            exact ⟨rfl, U⟩
          ·
            have CZ1 := Lib.hid (fun W (U : Up w W) => CZ.out W U false (decide_eq_false a0))
            clear CZ a0
            have U := Up.refl w
            go_enter Tryz.func7, Tryz.ntmps7
            go_wp2_with fail
            obtain ⟨V1, hV1⟩ : ∃ V1, w.alloc (.cells #[.bool false, v, .int .i64 t, .int .i64 g] 25) = V1 := ⟨_, rfl⟩
            have B : Ob V1 w.heap.size 25 #[.bool false, v, .int .i64 t, .int .i64 g] := by rw [← hV1]; exact Ob.mk_ _ _ _
            have uV1 : Up w V1 := by rw [← hV1]; exact (Up.refl _).alloc _
            have ltB : w.heap.size ≤ w.heap.size := U.size
            rw [hV1]
            clear hV1
            replace U := U.trans uV1
            clear uV1
            refine (CO.out _ (TF.out.up U)).mono ?_
            rintro _ w2 ⟨rfl, h2⟩
            replace U := U.trans h2
            replace B := B.up h2
            clear h2
            go_wp2_with fail
            obtain ⟨V3, hV3⟩ : ∃ V3, w2.alloc (.cells #[.int .i64 f.k, .int .i64 f.W, .int .i64 f.m, .int .i64 f.b, .int .u64 f.t, .int .u64 f.n, .int .u64 f.x] 54) = V3 := ⟨_, rfl⟩
            have C : Bf V3 w2.heap.size 54 f := by rw [← hV3]; exact Bf.mk_ w2 f 54
            have ltC : w.heap.size ≤ w2.heap.size := U.size
            have uV3 : Up w2 V3 := by rw [← hV3]; exact (Up.refl _).alloc _
            rw [hV3]
            clear hV3
            replace U := U.trans uV3
            replace B := B.up uV3
            clear uV3
            refine (CI.out _).mono ?_
            rintro _ _ ⟨rfl, rfl⟩
            have B0 := B.get 0
            have B1 := B.get 1
            have B2 := B.get 2
            have B3 := B.get 3
            have Bf0 := B.fr 0
            have Bf1 := B.fr 1
            have Bf2 := B.fr 2
            have Bf3 := B.fr 3
            have Bl := B.lt
            simp only [List.getElem?_toArray, List.getElem?_cons_zero, List.getElem?_cons_succ] at B0 B1 B2 B3
            go_wp2_with fail
            clear B0 Bf0 B1 Bf1 B2 Bf2 B3 Bf3 Bl
            refine (CR.out _ U).mono ?_
            rintro _ w4 ⟨rfl, h4⟩
            replace U := U.trans h4
            replace C := C.up h4
            replace B := B.up h4
            clear h4
            obtain ⟨C0, C1, C2, C3, C4, C5, C6⟩ := Bf.cs C
            have C7 := Bf.lt C
            simp only [Nat.zero_add] at C0 C1 C2 C3 C4 C5 C6 C7
            have B0 := B.get 0
            have B1 := B.get 1
            have B2 := B.get 2
            have B3 := B.get 3
            have Bf0 := B.fr 0
            have Bf1 := B.fr 1
            have Bf2 := B.fr 2
            have Bf3 := B.fr 3
            have Bl := B.lt
            simp only [List.getElem?_toArray, List.getElem?_cons_zero, List.getElem?_cons_succ] at B0 B1 B2 B3
            go_wp2_with fail
            clear C0 C1 C2 C3 C4 C5 C6 C7
            clear B0 Bf0 B1 Bf1 B2 Bf2 B3 Bf3 Bl
            refine (CZ1.out _ U).mono ?_
            rintro _ w5 ⟨rfl, h5⟩
            replace U := U.trans h5
            replace C := C.up h5
            replace B := B.up h5
            clear h5
            obtain ⟨C0, C1, C2, C3, C4, C5, C6⟩ := Bf.cs C
            have C7 := Bf.lt C
            simp only [Nat.zero_add] at C0 C1 C2 C3 C4 C5 C6 C7
            have B0 := B.get 0
            have B1 := B.get 1
            have B2 := B.get 2
            have B3 := B.get 3
            have Bf0 := B.fr 0
            have Bf1 := B.fr 1
            have Bf2 := B.fr 2
            have Bf3 := B.fr 3
            have Bl := B.lt
            simp only [List.getElem?_toArray, List.getElem?_cons_zero, List.getElem?_cons_succ] at B0 B1 B2 B3
            go_wp2_with fail
            clear C0 C1 C2 C3 C4 C5 C6 C7
            clear B0 Bf0 B1 Bf1 B2 Bf2 B3 Bf3 Bl
            refine (CN1.out _ (TT.out.up U) (TF.out.up U) U).mono ?_
            rintro _ w6 ⟨rfl, h6⟩
            replace U := U.trans h6
            replace C := C.up h6
            replace B := B.up h6
            clear h6
            obtain ⟨C0, C1, C2, C3, C4, C5, C6⟩ := Bf.cs C
            have C7 := Bf.lt C
            simp only [Nat.zero_add] at C0 C1 C2 C3 C4 C5 C6 C7
            have B0 := B.get 0
            have B1 := B.get 1
            have B2 := B.get 2
            have B3 := B.get 3
            have Bf0 := B.fr 0
            have Bf1 := B.fr 1
            have Bf2 := B.fr 2
            have Bf3 := B.fr 3
            have Bl := B.lt
            simp only [List.getElem?_toArray, List.getElem?_cons_zero, List.getElem?_cons_succ] at B0 B1 B2 B3
            go_wp2_with fail
            clear C0 C1 C2 C3 C4 C5 C6 C7
            clear B0 Bf0 B1 Bf1 B2 Bf2 B3 Bf3 Bl
            refine (CS1.out _).mono ?_
            rintro _ w7 ⟨rfl, h7⟩
            replace U := U.trans h7
            replace C := C.up h7
            replace B := B.up h7
            clear h7
            obtain ⟨C0, C1, C2, C3, C4, C5, C6⟩ := Bf.cs C
            have C7 := Bf.lt C
            simp only [Nat.zero_add] at C0 C1 C2 C3 C4 C5 C6 C7
            have B0 := B.get 0
            have B1 := B.get 1
            have B2 := B.get 2
            have B3 := B.get 3
            have Bf0 := B.fr 0
            have Bf1 := B.fr 1
            have Bf2 := B.fr 2
            have Bf3 := B.fr 3
            have Bl := B.lt
            simp only [List.getElem?_toArray, List.getElem?_cons_zero, List.getElem?_cons_succ] at B0 B1 B2 B3
            go_wp2_with fail
            clear C0 C1 C2 C3 C4 C5 C6 C7
            clear B0 Bf0 B1 Bf1 B2 Bf2 B3 Bf3 Bl
            refine (CP1.out _ (TF.out.up U)).mono ?_
            rintro _ w8 ⟨rfl, h8⟩
            replace U := U.trans h8
            replace C := C.up h8
            replace B := B.up h8
            clear h8
            obtain ⟨C0, C1, C2, C3, C4, C5, C6⟩ := Bf.cs C
            have C7 := Bf.lt C
            simp only [Nat.zero_add] at C0 C1 C2 C3 C4 C5 C6 C7
            have B0 := B.get 0
            have B1 := B.get 1
            have B2 := B.get 2
            have B3 := B.get 3
            have Bf0 := B.fr 0
            have Bf1 := B.fr 1
            have Bf2 := B.fr 2
            have Bf3 := B.fr 3
            have Bl := B.lt
            simp only [List.getElem?_toArray, List.getElem?_cons_zero, List.getElem?_cons_succ] at B0 B1 B2 B3
            go_wp2_with fail
            clear C0 C1 C2 C3 C4 C5 C6 C7
            clear B0 Bf0 B1 Bf1 B2 Bf2 B3 Bf3 Bl
            go_ret2
            exact ⟨rfl, U⟩
end Go.Proofs.YtlogglhonlannaaGreatDoor
