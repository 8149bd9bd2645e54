/-
  The reference of layer 8: Round.
-/
import Derived.Test.YtlogglhonlannaaGreatDoorZb
namespace Go.Proofs.YtlogglhonlannaaGreatDoor
open Go.RowKit
set_option linter.unusedSimpArgs false
set_option linter.unusedVariables false

set_option maxHeartbeats 2000000 in
set_option maxRecDepth 100000 in
theorem rround8_any (w : World) (i : Nat) (f : M.Fm) (hf : Hid (M.tb i = f)) (i1 : 1 ≤ i) (i2 : i ≤ 14) (mode : Int) (lo s : Nat) (neg : Bool) (v : Value) (t g : Int) (a : Nat) (h : Nt w lo s v a) (hs : s ≤ 100000) (bt : -5000 ≤ t ∧ t ≤ 5000) (bg : -5000 ≤ g ∧ g ≤ 5000) (p : Int) (hp : M.Rv f mode neg (M.sz a t g) p) : Calls Tryz.prog 12 #[.int .i64 (i : Int), .int .i64 mode, xv neg v t g] w (Wz p w) := by
  have ok := M.ok i i1 i2
  have ok2 := M.ok2 i i1 i2
  have ok3 := M.ok3 i i1 i2
  rw [hf.out] at ok ok2 ok3
  have X0 : M.sz a t g = 0 ↔ a = 0 := M.sz_zero
  have CF := Lib.hid (fun W => rof_in W i f hf i1 i2)
  have CZ := Lib.hid (fun W (U : Up w W) (r : Bool) (hr : Hid (decide (a = 0) = r)) => rnone_any W lo s neg v t g a (h.up U) r hr)
  have CN := Lib.hid (fun W (U : Up w W) (h4 : ¬ (f.k = 4 ∧ neg = true)) (q k : Nat) (o : Bool) (hq : M.mst f neg = q) (hn : M.Nr f q (M.sz a t g) k o) => rnearest8_any W i f hf i1 i2 neg h4 lo s neg v t g a (h.up U) hs bt bg q k o hq hn)
  have CP := Lib.hid (fun W (k : Nat) (kb : k < 18446744073709551616) (y : Int) (hy : M.Pc (i : Int) neg k y 0) => rpattern_any W (i : Int) neg k kb y 0 hy)
  obtain ⟨X, hX⟩ : ∃ X, M.sz a t g = X := ⟨_, rfl⟩
  rw [hX] at hp CN X0
  clear hX h hs bt bg
  rcases hp with ⟨h4, hnx, rfl⟩ | ⟨h4, q, k, o, hq, hn, hp⟩
  ·
    have d1 : (f.k == 4) = true := by simpa using h4
    by_cases a0 : a = 0
    ·
      have CZ1 := Lib.hid (fun W U => CZ.out W U true (decide_eq_true a0))
      clear CZ CN CP X0 ok ok2 ok3 hnx a0 h4 hf
      have U := Up.refl w
      go_enter Tryz.func12, Tryz.ntmps12
      go_wp2_with fail
      obtain ⟨V1, hV1⟩ : ∃ V1, w.alloc (.cells #[.bool neg, v, .int .i64 t, .int .i64 g] 25) = V1 := ⟨_, rfl⟩
      have B : Ob V1 w.heap.size 25 #[.bool neg, v, .int .i64 t, .int .i64 g] := by rw [← hV1]; exact Ob.mk_ _ _ _
      have uV1 : Up w V1 := by rw [← hV1]; exact (Up.refl _).alloc _
      have ltB : w.heap.size ≤ w.heap.size := U.size
      rw [hV1]
      clear hV1
      replace U := U.trans uV1
      clear uV1
      refine (CF.out _).mono ?_
      rintro _ w2 ⟨rfl, h2⟩
      replace U := U.trans h2
      replace B := B.up h2
      clear h2
      have B0 := B.get 0
      have B1 := B.get 1
      have B2 := B.get 2
      have B3 := B.get 3
      have Bf0 := B.fr 0
      have Bf1 := B.fr 1
      have Bf2 := B.fr 2
      have Bf3 := B.fr 3
      have Bl := B.lt
      simp only [List.getElem?_toArray, List.getElem?_cons_zero, List.getElem?_cons_succ] at B0 B1 B2 B3
      go_wp2_with fail
      clear B0 Bf0 B1 Bf1 B2 Bf2 B3 Bf3 Bl
      obtain ⟨V3, hV3⟩ : ∃ V3, w2.alloc (.cells #[.int .i64 f.k, .int .i64 f.W, .int .i64 f.m, .int .i64 f.b, .int .u64 f.t, .int .u64 f.n, .int .u64 f.x] 35) = V3 := ⟨_, rfl⟩
      have C : Bf V3 w2.heap.size 35 f := by rw [← hV3]; exact Bf.mk_ w2 f 35
      have ltC : w.heap.size ≤ w2.heap.size := U.size
      have uV3 : Up w2 V3 := by rw [← hV3]; exact (Up.refl _).alloc _
      rw [hV3]
      clear hV3
      replace U := U.trans uV3
      replace B := B.up uV3
      clear uV3
      refine (CZ1.out _ U).mono ?_
      rintro _ w4 ⟨rfl, h4⟩
      replace U := U.trans h4
      replace C := C.up h4
      replace B := B.up h4
      clear h4
      obtain ⟨C0, C1, C2, C3, C4, C5, C6⟩ := Bf.cs C
      have C7 := Bf.lt C
      simp only [Nat.zero_add] at C0 C1 C2 C3 C4 C5 C6 C7
      have B0 := B.get 0
      have B1 := B.get 1
      have B2 := B.get 2
      have B3 := B.get 3
      have Bf0 := B.fr 0
      have Bf1 := B.fr 1
      have Bf2 := B.fr 2
      have Bf3 := B.fr 3
      have Bl := B.lt
      simp only [List.getElem?_toArray, List.getElem?_cons_zero, List.getElem?_cons_succ] at B0 B1 B2 B3
      go_wp2_with fail
      clear C0 C1 C2 C3 C4 C5 C6 C7
      clear B0 Bf0 B1 Bf1 B2 Bf2 B3 Bf3 Bl
      go_ret
      exact ⟨rfl, U⟩
    ·
      obtain rfl : neg = true := by
        rcases hnx with e | e
        · exact e
        · exact absurd (X0.1 e) a0
      have CZ1 := Lib.hid (fun W U => CZ.out W U false (decide_eq_false a0))
      clear CZ CN CP X0 ok ok2 ok3 hnx a0 h4 hf
      have U := Up.refl w
      go_enter Tryz.func12, Tryz.ntmps12
      go_wp2_with fail
      obtain ⟨V1, hV1⟩ : ∃ V1, w.alloc (.cells #[.bool true, v, .int .i64 t, .int .i64 g] 25) = V1 := ⟨_, rfl⟩
      have B : Ob V1 w.heap.size 25 #[.bool true, v, .int .i64 t, .int .i64 g] := by rw [← hV1]; exact Ob.mk_ _ _ _
      have uV1 : Up w V1 := by rw [← hV1]; exact (Up.refl _).alloc _
      have ltB : w.heap.size ≤ w.heap.size := U.size
      rw [hV1]
      clear hV1
      replace U := U.trans uV1
      clear uV1
      refine (CF.out _).mono ?_
      rintro _ w2 ⟨rfl, h2⟩
      replace U := U.trans h2
      replace B := B.up h2
      clear h2
      have B0 := B.get 0
      have B1 := B.get 1
      have B2 := B.get 2
      have B3 := B.get 3
      have Bf0 := B.fr 0
      have Bf1 := B.fr 1
      have Bf2 := B.fr 2
      have Bf3 := B.fr 3
      have Bl := B.lt
      simp only [List.getElem?_toArray, List.getElem?_cons_zero, List.getElem?_cons_succ] at B0 B1 B2 B3
      go_wp2_with fail
      clear B0 Bf0 B1 Bf1 B2 Bf2 B3 Bf3 Bl
      obtain ⟨V3, hV3⟩ : ∃ V3, w2.alloc (.cells #[.int .i64 f.k, .int .i64 f.W, .int .i64 f.m, .int .i64 f.b, .int .u64 f.t, .int .u64 f.n, .int .u64 f.x] 35) = V3 := ⟨_, rfl⟩
      have C : Bf V3 w2.heap.size 35 f := by rw [← hV3]; exact Bf.mk_ w2 f 35
      have ltC : w.heap.size ≤ w2.heap.size := U.size
      have uV3 : Up w2 V3 := by rw [← hV3]; exact (Up.refl _).alloc _
      rw [hV3]
      clear hV3
      replace U := U.trans uV3
      replace B := B.up uV3
      clear uV3
      refine (CZ1.out _ U).mono ?_
      rintro _ w4 ⟨rfl, h4⟩
      replace U := U.trans h4
      replace C := C.up h4
      replace B := B.up h4
      clear h4
      obtain ⟨C0, C1, C2, C3, C4, C5, C6⟩ := Bf.cs C
      have C7 := Bf.lt C
      simp only [Nat.zero_add] at C0 C1 C2 C3 C4 C5 C6 C7
      have B0 := B.get 0
      have B1 := B.get 1
      have B2 := B.get 2
      have B3 := B.get 3
      have Bf0 := B.fr 0
      have Bf1 := B.fr 1
      have Bf2 := B.fr 2
      have Bf3 := B.fr 3
      have Bl := B.lt
      simp only [List.getElem?_toArray, List.getElem?_cons_zero, List.getElem?_cons_succ] at B0 B1 B2 B3
      go_wp2_with fail
      clear C0 C1 C2 C3 C4 C5 C6 C7
      clear B0 Bf0 B1 Bf1 B2 Bf2 B3 Bf3 Bl
      go_ret
      exact ⟨rfl, U⟩
  ·
    obtain ⟨q', hq', q3, qb, qt⟩ := M.mst_rng ok ok2 ok3 neg
    obtain rfl : q = q' := by omega
    have kq : k ≤ q := by
      rcases hn with ⟨_, rfl, _⟩ | ⟨_, h, _⟩
      · exact Nat.le_refl _
      · exact h
    have h4' : ¬ (f.k = 4 ∧ neg = true) := fun e => h4 ⟨e.1, .inl e.2⟩
    have CN1 := Lib.hid (fun W (U : Up w W) => CN.out W U h4' q k o hq hn)
    have CP1 := Lib.hid (fun W => CP.out W k (by omega) (M.pat f neg k) (.inr ⟨i, rfl, i1, i2, .inr ⟨by rw [hf.out]; exact h4', .inr ⟨by rw [hf.out, hq]; omega, by rw [hf.out], rfl⟩⟩⟩))
    obtain ⟨y, hy⟩ : ∃ y, M.pat f neg k = y := ⟨_, rfl⟩
    rw [hy] at CP1 hp
    obtain ⟨zr, hzr⟩ : ∃ zr, decide (a = 0) = zr := ⟨_, rfl⟩
    have CZ1 := Lib.hid (fun W U => CZ.out W U zr hzr)
    have kb : k < 18446744073709551616 := by omega
    have K4 : ((f.k == 4) = false) ∨ ((f.k == 4) = true ∧ neg = false ∧ zr = false) := by
      by_cases e : f.k = 4
      · refine .inr ⟨by simpa using e, ?_, ?_⟩
        · cases neg
          · rfl
          · exact absurd ⟨e, .inl rfl⟩ h4
        · rw [← hzr]
          exact decide_eq_false (fun a0 => h4 ⟨e, .inr (X0.2 a0)⟩)
      · exact .inl (by simpa using e)
    have HP : (o = false ∧ p = y) ∨ (o = true ∧ f.k = 1 ∧ p = y) ∨ (o = true ∧ f.k ≠ 1 ∧ mode = 1 ∧ p = y) ∨ (o = true ∧ f.k ≠ 1 ∧ mode ≠ 1 ∧ f.n = 0 ∧ f.x = 0 ∧ p = y) ∨ (o = true ∧ f.k ≠ 1 ∧ mode ≠ 1 ∧ f.n = 0 ∧ f.x ≠ 0 ∧ p = f.x) ∨ (o = true ∧ f.k ≠ 1 ∧ mode ≠ 1 ∧ f.n ≠ 0 ∧ p = if neg = true then f.n + M.half f else f.n) := by
      rcases hp with ⟨ho, hs, rfl⟩ | ⟨hs, rfl⟩
      · unfold M.st at hs
        unfold M.tl
        by_cases n0 : f.n = 0
        · rw [if_pos n0]
          exact .inr (.inr (.inr (.inr (.inl ⟨ho, fun e => hs (.inr (.inl e)), fun e => hs (.inl e), n0, fun e => hs (.inr (.inr ⟨n0, e⟩)), rfl⟩))))
        · rw [if_neg n0]
          exact .inr (.inr (.inr (.inr (.inr ⟨ho, fun e => hs (.inr (.inl e)), fun e => hs (.inl e), n0, rfl⟩))))
      · cases o with
        | false => exact .inl ⟨rfl, rfl⟩
        | true =>
          have h5 : M.st f mode := Classical.byContradiction (fun e => hs ⟨rfl, e⟩)
          unfold M.st at h5
          by_cases k1 : f.k = 1
          · exact .inr (.inl ⟨rfl, k1, rfl⟩)
          · by_cases m1 : mode = 1
            · exact .inr (.inr (.inl ⟨rfl, k1, m1, rfl⟩))
            · exact .inr (.inr (.inr (.inl ⟨rfl, k1, m1, by omega, by omega, rfl⟩)))
    obtain ⟨S, hS⟩ : ∃ z, M.sgn f = z := ⟨_, rfl⟩
    have CS := Lib.hid (fun W => rsign_any W f ok S (Lib.hid hS))
    have SF : f.n ≠ 0 → IntKind.u64.wrap (f.n + S) = f.n + M.half f := fun e => by
      obtain ⟨k2, _, n2⟩ := ok3.most e
      have e2 := ((M.sgn_ok ok).2 (by omega)).1
      rw [hS] at e2
      rw [e2]
      have := ok.hm
      have := ok.n
      simp [IntKind.wrap, IntKind.bits, IntKind.signed]
      omega
    clear hy hn hq hq' h4 h4' q3 qt kq CN CP CZ hzr ok ok2 ok3 X0 hf hp hS
    rcases HP with ⟨rfl, rfl⟩ | ⟨rfl, c1, rfl⟩ | ⟨rfl, c1, rfl, rfl⟩ | ⟨rfl, c1, c2, c3, c4, rfl⟩ | ⟨rfl, c1, c2, c3, c4, rfl⟩ | ⟨rfl, c1, c2, c3, hp⟩
    ·
      clear CS SF
      rcases K4 with d1 | ⟨d1, rfl, rfl⟩
      ·
        have U := Up.refl w
        go_enter Tryz.func12, Tryz.ntmps12
        go_wp2_with fail
        obtain ⟨V1, hV1⟩ : ∃ V1, w.alloc (.cells #[.bool neg, v, .int .i64 t, .int .i64 g] 25) = V1 := ⟨_, rfl⟩
        have B : Ob V1 w.heap.size 25 #[.bool neg, v, .int .i64 t, .int .i64 g] := by rw [← hV1]; exact Ob.mk_ _ _ _
        have uV1 : Up w V1 := by rw [← hV1]; exact (Up.refl _).alloc _
        have ltB : w.heap.size ≤ w.heap.size := U.size
        rw [hV1]
        clear hV1
        replace U := U.trans uV1
        clear uV1
        refine (CF.out _).mono ?_
        rintro _ w2 ⟨rfl, h2⟩
        replace U := U.trans h2
        replace B := B.up h2
        clear h2
        have B0 := B.get 0
        have B1 := B.get 1
        have B2 := B.get 2
        have B3 := B.get 3
        have Bf0 := B.fr 0
        have Bf1 := B.fr 1
        have Bf2 := B.fr 2
        have Bf3 := B.fr 3
        have Bl := B.lt
        simp only [List.getElem?_toArray, List.getElem?_cons_zero, List.getElem?_cons_succ] at B0 B1 B2 B3
        go_wp2_with fail
        clear B0 Bf0 B1 Bf1 B2 Bf2 B3 Bf3 Bl
        obtain ⟨V3, hV3⟩ : ∃ V3, w2.alloc (.cells #[.int .i64 f.k, .int .i64 f.W, .int .i64 f.m, .int .i64 f.b, .int .u64 f.t, .int .u64 f.n, .int .u64 f.x] 35) = V3 := ⟨_, rfl⟩
        have C : Bf V3 w2.heap.size 35 f := by rw [← hV3]; exact Bf.mk_ w2 f 35
        have ltC : w.heap.size ≤ w2.heap.size := U.size
        have uV3 : Up w2 V3 := by rw [← hV3]; exact (Up.refl _).alloc _
        rw [hV3]
        clear hV3
        replace U := U.trans uV3
        replace B := B.up uV3
        clear uV3
        refine (CZ1.out _ U).mono ?_
        rintro _ w4 ⟨rfl, h4⟩
        replace U := U.trans h4
        replace C := C.up h4
        replace B := B.up h4
        clear h4
        obtain ⟨C0, C1, C2, C3, C4, C5, C6⟩ := Bf.cs C
        have C7 := Bf.lt C
        simp only [Nat.zero_add] at C0 C1 C2 C3 C4 C5 C6 C7
        have B0 := B.get 0
        have B1 := B.get 1
        have B2 := B.get 2
        have B3 := B.get 3
        have Bf0 := B.fr 0
        have Bf1 := B.fr 1
        have Bf2 := B.fr 2
        have Bf3 := B.fr 3
        have Bl := B.lt
        simp only [List.getElem?_toArray, List.getElem?_cons_zero, List.getElem?_cons_succ] at B0 B1 B2 B3
        go_wp2_with fail
        clear C0 C1 C2 C3 C4 C5 C6 C7
        clear B0 Bf0 B1 Bf1 B2 Bf2 B3 Bf3 Bl
        refine (CN1.out _ U).mono ?_
        rintro _ w5 ⟨rfl, h5⟩
        replace U := U.trans h5
        replace C := C.up h5
        replace B := B.up h5
        clear h5
        obtain ⟨C0, C1, C2, C3, C4, C5, C6⟩ := Bf.cs C
        have C7 := Bf.lt C
        simp only [Nat.zero_add] at C0 C1 C2 C3 C4 C5 C6 C7
        have B0 := B.get 0
        have B1 := B.get 1
        have B2 := B.get 2
        have B3 := B.get 3
        have Bf0 := B.fr 0
        have Bf1 := B.fr 1
        have Bf2 := B.fr 2
        have Bf3 := B.fr 3
        have Bl := B.lt
        simp only [List.getElem?_toArray, List.getElem?_cons_zero, List.getElem?_cons_succ] at B0 B1 B2 B3
        go_wp2_with fail
        clear C0 C1 C2 C3 C4 C5 C6 C7
        clear B0 Bf0 B1 Bf1 B2 Bf2 B3 Bf3 Bl
        refine (CP1.out _).mono ?_
        rintro _ w6 ⟨rfl, h6⟩
        replace U := U.trans h6
        replace C := C.up h6
        replace B := B.up h6
        clear h6
        obtain ⟨C0, C1, C2, C3, C4, C5, C6⟩ := Bf.cs C
        have C7 := Bf.lt C
        simp only [Nat.zero_add] at C0 C1 C2 C3 C4 C5 C6 C7
        have B0 := B.get 0
        have B1 := B.get 1
        have B2 := B.get 2
        have B3 := B.get 3
        have Bf0 := B.fr 0
        have Bf1 := B.fr 1
        have Bf2 := B.fr 2
        have Bf3 := B.fr 3
        have Bl := B.lt
        simp only [List.getElem?_toArray, List.getElem?_cons_zero, List.getElem?_cons_succ] at B0 B1 B2 B3
        go_wp2_with fail
        clear C0 C1 C2 C3 C4 C5 C6 C7
        clear B0 Bf0 B1 Bf1 B2 Bf2 B3 Bf3 Bl
        go_ret
        exact ⟨by first | rfl | simp, U⟩
      ·
        have U := Up.refl w
        go_enter Tryz.func12, Tryz.ntmps12
        go_wp2_with fail
        obtain ⟨V1, hV1⟩ : ∃ V1, w.alloc (.cells #[.bool false, v, .int .i64 t, .int .i64 g] 25) = V1 := ⟨_, rfl⟩
        have B : Ob V1 w.heap.size 25 #[.bool false, v, .int .i64 t, .int .i64 g] := by rw [← hV1]; exact Ob.mk_ _ _ _
        have uV1 : Up w V1 := by rw [← hV1]; exact (Up.refl _).alloc _
        have ltB : w.heap.size ≤ w.heap.size := U.size
        rw [hV1]
        clear hV1
        replace U := U.trans uV1
        clear uV1
        refine (CF.out _).mono ?_
        rintro _ w2 ⟨rfl, h2⟩
        replace U := U.trans h2
        replace B := B.up h2
        clear h2
        have B0 := B.get 0
        have B1 := B.get 1
        have B2 := B.get 2
        have B3 := B.get 3
        have Bf0 := B.fr 0
        have Bf1 := B.fr 1
        have Bf2 := B.fr 2
        have Bf3 := B.fr 3
        have Bl := B.lt
        simp only [List.getElem?_toArray, List.getElem?_cons_zero, List.getElem?_cons_succ] at B0 B1 B2 B3
        go_wp2_with fail
        clear B0 Bf0 B1 Bf1 B2 Bf2 B3 Bf3 Bl
        obtain ⟨V3, hV3⟩ : ∃ V3, w2.alloc (.cells #[.int .i64 f.k, .int .i64 f.W, .int .i64 f.m, .int .i64 f.b, .int .u64 f.t, .int .u64 f.n, .int .u64 f.x] 35) = V3 := ⟨_, rfl⟩
        have C : Bf V3 w2.heap.size 35 f := by rw [← hV3]; exact Bf.mk_ w2 f 35
        have ltC : w.heap.size ≤ w2.heap.size := U.size
        have uV3 : Up w2 V3 := by rw [← hV3]; exact (Up.refl _).alloc _
        rw [hV3]
        clear hV3
        replace U := U.trans uV3
        replace B := B.up uV3
        clear uV3
        refine (CZ1.out _ U).mono ?_
        rintro _ w4 ⟨rfl, h4⟩
        replace U := U.trans h4
        replace C := C.up h4
        replace B := B.up h4
        clear h4
        obtain ⟨C0, C1, C2, C3, C4, C5, C6⟩ := Bf.cs C
        have C7 := Bf.lt C
        simp only [Nat.zero_add] at C0 C1 C2 C3 C4 C5 C6 C7
        have B0 := B.get 0
        have B1 := B.get 1
        have B2 := B.get 2
        have B3 := B.get 3
        have Bf0 := B.fr 0
        have Bf1 := B.fr 1
        have Bf2 := B.fr 2
        have Bf3 := B.fr 3
        have Bl := B.lt
        simp only [List.getElem?_toArray, List.getElem?_cons_zero, List.getElem?_cons_succ] at B0 B1 B2 B3
        go_wp2_with fail
        clear C0 C1 C2 C3 C4 C5 C6 C7
        clear B0 Bf0 B1 Bf1 B2 Bf2 B3 Bf3 Bl
        refine (CN1.out _ U).mono ?_
        rintro _ w5 ⟨rfl, h5⟩
        replace U := U.trans h5
        replace C := C.up h5
        replace B := B.up h5
        clear h5
        obtain ⟨C0, C1, C2, C3, C4, C5, C6⟩ := Bf.cs C
        have C7 := Bf.lt C
        simp only [Nat.zero_add] at C0 C1 C2 C3 C4 C5 C6 C7
        have B0 := B.get 0
        have B1 := B.get 1
        have B2 := B.get 2
        have B3 := B.get 3
        have Bf0 := B.fr 0
        have Bf1 := B.fr 1
        have Bf2 := B.fr 2
        have Bf3 := B.fr 3
        have Bl := B.lt
        simp only [List.getElem?_toArray, List.getElem?_cons_zero, List.getElem?_cons_succ] at B0 B1 B2 B3
        go_wp2_with fail
        clear C0 C1 C2 C3 C4 C5 C6 C7
        clear B0 Bf0 B1 Bf1 B2 Bf2 B3 Bf3 Bl
        refine (CP1.out _).mono ?_
        rintro _ w6 ⟨rfl, h6⟩
        replace U := U.trans h6
        replace C := C.up h6
        replace B := B.up h6
        clear h6
        obtain ⟨C0, C1, C2, C3, C4, C5, C6⟩ := Bf.cs C
        have C7 := Bf.lt C
        simp only [Nat.zero_add] at C0 C1 C2 C3 C4 C5 C6 C7
        have B0 := B.get 0
        have B1 := B.get 1
        have B2 := B.get 2
        have B3 := B.get 3
        have Bf0 := B.fr 0
        have Bf1 := B.fr 1
        have Bf2 := B.fr 2
        have Bf3 := B.fr 3
        have Bl := B.lt
        simp only [List.getElem?_toArray, List.getElem?_cons_zero, List.getElem?_cons_succ] at B0 B1 B2 B3
        go_wp2_with fail
        clear C0 C1 C2 C3 C4 C5 C6 C7
        clear B0 Bf0 B1 Bf1 B2 Bf2 B3 Bf3 Bl
        go_ret
        exact ⟨by first | rfl | simp, U⟩
    ·
      have k1 : (f.k == 1) = true := by simpa using c1
      clear CS SF c1
      rcases K4 with d1 | ⟨d1, rfl, rfl⟩
      ·
        have U := Up.refl w
        go_enter Tryz.func12, Tryz.ntmps12
        go_wp2_with fail
        obtain ⟨V1, hV1⟩ : ∃ V1, w.alloc (.cells #[.bool neg, v, .int .i64 t, .int .i64 g] 25) = V1 := ⟨_, rfl⟩
        have B : Ob V1 w.heap.size 25 #[.bool neg, v, .int .i64 t, .int .i64 g] := by rw [← hV1]; exact Ob.mk_ _ _ _
        have uV1 : Up w V1 := by rw [← hV1]; exact (Up.refl _).alloc _
        have ltB : w.heap.size ≤ w.heap.size := U.size
        rw [hV1]
        clear hV1
        replace U := U.trans uV1
        clear uV1
        refine (CF.out _).mono ?_
        rintro _ w2 ⟨rfl, h2⟩
        replace U := U.trans h2
        replace B := B.up h2
        clear h2
        have B0 := B.get 0
        have B1 := B.get 1
        have B2 := B.get 2
        have B3 := B.get 3
        have Bf0 := B.fr 0
        have Bf1 := B.fr 1
        have Bf2 := B.fr 2
        have Bf3 := B.fr 3
        have Bl := B.lt
        simp only [List.getElem?_toArray, List.getElem?_cons_zero, List.getElem?_cons_succ] at B0 B1 B2 B3
        go_wp2_with fail
        clear B0 Bf0 B1 Bf1 B2 Bf2 B3 Bf3 Bl
        obtain ⟨V3, hV3⟩ : ∃ V3, w2.alloc (.cells #[.int .i64 f.k, .int .i64 f.W, .int .i64 f.m, .int .i64 f.b, .int .u64 f.t, .int .u64 f.n, .int .u64 f.x] 35) = V3 := ⟨_, rfl⟩
        have C : Bf V3 w2.heap.size 35 f := by rw [← hV3]; exact Bf.mk_ w2 f 35
        have ltC : w.heap.size ≤ w2.heap.size := U.size
        have uV3 : Up w2 V3 := by rw [← hV3]; exact (Up.refl _).alloc _
        rw [hV3]
        clear hV3
        replace U := U.trans uV3
        replace B := B.up uV3
        clear uV3
        refine (CZ1.out _ U).mono ?_
        rintro _ w4 ⟨rfl, h4⟩
        replace U := U.trans h4
        replace C := C.up h4
        replace B := B.up h4
        clear h4
        obtain ⟨C0, C1, C2, C3, C4, C5, C6⟩ := Bf.cs C
        have C7 := Bf.lt C
        simp only [Nat.zero_add] at C0 C1 C2 C3 C4 C5 C6 C7
        have B0 := B.get 0
        have B1 := B.get 1
        have B2 := B.get 2
        have B3 := B.get 3
        have Bf0 := B.fr 0
        have Bf1 := B.fr 1
        have Bf2 := B.fr 2
        have Bf3 := B.fr 3
        have Bl := B.lt
        simp only [List.getElem?_toArray, List.getElem?_cons_zero, List.getElem?_cons_succ] at B0 B1 B2 B3
        go_wp2_with fail
        clear C0 C1 C2 C3 C4 C5 C6 C7
        clear B0 Bf0 B1 Bf1 B2 Bf2 B3 Bf3 Bl
        refine (CN1.out _ U).mono ?_
        rintro _ w5 ⟨rfl, h5⟩
        replace U := U.trans h5
        replace C := C.up h5
        replace B := B.up h5
        clear h5
        obtain ⟨C0, C1, C2, C3, C4, C5, C6⟩ := Bf.cs C
        have C7 := Bf.lt C
        simp only [Nat.zero_add] at C0 C1 C2 C3 C4 C5 C6 C7
        have B0 := B.get 0
        have B1 := B.get 1
        have B2 := B.get 2
        have B3 := B.get 3
        have Bf0 := B.fr 0
        have Bf1 := B.fr 1
        have Bf2 := B.fr 2
        have Bf3 := B.fr 3
        have Bl := B.lt
        simp only [List.getElem?_toArray, List.getElem?_cons_zero, List.getElem?_cons_succ] at B0 B1 B2 B3
        go_wp2_with fail
        clear C0 C1 C2 C3 C4 C5 C6 C7
        clear B0 Bf0 B1 Bf1 B2 Bf2 B3 Bf3 Bl
        refine (CP1.out _).mono ?_
        rintro _ w6 ⟨rfl, h6⟩
        replace U := U.trans h6
        replace C := C.up h6
        replace B := B.up h6
        clear h6
        obtain ⟨C0, C1, C2, C3, C4, C5, C6⟩ := Bf.cs C
        have C7 := Bf.lt C
        simp only [Nat.zero_add] at C0 C1 C2 C3 C4 C5 C6 C7
        have B0 := B.get 0
        have B1 := B.get 1
        have B2 := B.get 2
        have B3 := B.get 3
        have Bf0 := B.fr 0
        have Bf1 := B.fr 1
        have Bf2 := B.fr 2
        have Bf3 := B.fr 3
        have Bl := B.lt
        simp only [List.getElem?_toArray, List.getElem?_cons_zero, List.getElem?_cons_succ] at B0 B1 B2 B3
        go_wp2_with fail
        clear C0 C1 C2 C3 C4 C5 C6 C7
        clear B0 Bf0 B1 Bf1 B2 Bf2 B3 Bf3 Bl
        go_ret
        exact ⟨by first | rfl | simp, U⟩
      ·
        have U := Up.refl w
        go_enter Tryz.func12, Tryz.ntmps12
        go_wp2_with fail
        obtain ⟨V1, hV1⟩ : ∃ V1, w.alloc (.cells #[.bool false, v, .int .i64 t, .int .i64 g] 25) = V1 := ⟨_, rfl⟩
        have B : Ob V1 w.heap.size 25 #[.bool false, v, .int .i64 t, .int .i64 g] := by rw [← hV1]; exact Ob.mk_ _ _ _
        have uV1 : Up w V1 := by rw [← hV1]; exact (Up.refl _).alloc _
        have ltB : w.heap.size ≤ w.heap.size := U.size
        rw [hV1]
        clear hV1
        replace U := U.trans uV1
        clear uV1
        refine (CF.out _).mono ?_
        rintro _ w2 ⟨rfl, h2⟩
        replace U := U.trans h2
        replace B := B.up h2
        clear h2
        have B0 := B.get 0
        have B1 := B.get 1
        have B2 := B.get 2
        have B3 := B.get 3
        have Bf0 := B.fr 0
        have Bf1 := B.fr 1
        have Bf2 := B.fr 2
        have Bf3 := B.fr 3
        have Bl := B.lt
        simp only [List.getElem?_toArray, List.getElem?_cons_zero, List.getElem?_cons_succ] at B0 B1 B2 B3
        go_wp2_with fail
        clear B0 Bf0 B1 Bf1 B2 Bf2 B3 Bf3 Bl
        obtain ⟨V3, hV3⟩ : ∃ V3, w2.alloc (.cells #[.int .i64 f.k, .int .i64 f.W, .int .i64 f.m, .int .i64 f.b, .int .u64 f.t, .int .u64 f.n, .int .u64 f.x] 35) = V3 := ⟨_, rfl⟩
        have C : Bf V3 w2.heap.size 35 f := by rw [← hV3]; exact Bf.mk_ w2 f 35
        have ltC : w.heap.size ≤ w2.heap.size := U.size
        have uV3 : Up w2 V3 := by rw [← hV3]; exact (Up.refl _).alloc _
        rw [hV3]
        clear hV3
        replace U := U.trans uV3
        replace B := B.up uV3
        clear uV3
        refine (CZ1.out _ U).mono ?_
        rintro _ w4 ⟨rfl, h4⟩
        replace U := U.trans h4
        replace C := C.up h4
        replace B := B.up h4
        clear h4
        obtain ⟨C0, C1, C2, C3, C4, C5, C6⟩ := Bf.cs C
        have C7 := Bf.lt C
        simp only [Nat.zero_add] at C0 C1 C2 C3 C4 C5 C6 C7
        have B0 := B.get 0
        have B1 := B.get 1
        have B2 := B.get 2
        have B3 := B.get 3
        have Bf0 := B.fr 0
        have Bf1 := B.fr 1
        have Bf2 := B.fr 2
        have Bf3 := B.fr 3
        have Bl := B.lt
        simp only [List.getElem?_toArray, List.getElem?_cons_zero, List.getElem?_cons_succ] at B0 B1 B2 B3
        go_wp2_with fail
        clear C0 C1 C2 C3 C4 C5 C6 C7
        clear B0 Bf0 B1 Bf1 B2 Bf2 B3 Bf3 Bl
        refine (CN1.out _ U).mono ?_
        rintro _ w5 ⟨rfl, h5⟩
        replace U := U.trans h5
        replace C := C.up h5
        replace B := B.up h5
        clear h5
        obtain ⟨C0, C1, C2, C3, C4, C5, C6⟩ := Bf.cs C
        have C7 := Bf.lt C
        simp only [Nat.zero_add] at C0 C1 C2 C3 C4 C5 C6 C7
        have B0 := B.get 0
        have B1 := B.get 1
        have B2 := B.get 2
        have B3 := B.get 3
        have Bf0 := B.fr 0
        have Bf1 := B.fr 1
        have Bf2 := B.fr 2
        have Bf3 := B.fr 3
        have Bl := B.lt
        simp only [List.getElem?_toArray, List.getElem?_cons_zero, List.getElem?_cons_succ] at B0 B1 B2 B3
        go_wp2_with fail
        clear C0 C1 C2 C3 C4 C5 C6 C7
        clear B0 Bf0 B1 Bf1 B2 Bf2 B3 Bf3 Bl
        refine (CP1.out _).mono ?_
        rintro _ w6 ⟨rfl, h6⟩
        replace U := U.trans h6
        replace C := C.up h6
        replace B := B.up h6
        clear h6
        obtain ⟨C0, C1, C2, C3, C4, C5, C6⟩ := Bf.cs C
        have C7 := Bf.lt C
        simp only [Nat.zero_add] at C0 C1 C2 C3 C4 C5 C6 C7
        have B0 := B.get 0
        have B1 := B.get 1
        have B2 := B.get 2
        have B3 := B.get 3
        have Bf0 := B.fr 0
        have Bf1 := B.fr 1
        have Bf2 := B.fr 2
        have Bf3 := B.fr 3
        have Bl := B.lt
        simp only [List.getElem?_toArray, List.getElem?_cons_zero, List.getElem?_cons_succ] at B0 B1 B2 B3
        go_wp2_with fail
        clear C0 C1 C2 C3 C4 C5 C6 C7
        clear B0 Bf0 B1 Bf1 B2 Bf2 B3 Bf3 Bl
        go_ret
        exact ⟨by first | rfl | simp, U⟩
    ·
      have k1 : (f.k == 1) = false := by simpa using c1
      clear CS SF c1
      rcases K4 with d1 | ⟨d1, rfl, rfl⟩
      ·
        have U := Up.refl w
        go_enter Tryz.func12, Tryz.ntmps12
        go_wp2_with fail
        obtain ⟨V1, hV1⟩ : ∃ V1, w.alloc (.cells #[.bool neg, v, .int .i64 t, .int .i64 g] 25) = V1 := ⟨_, rfl⟩
        have B : Ob V1 w.heap.size 25 #[.bool neg, v, .int .i64 t, .int .i64 g] := by rw [← hV1]; exact Ob.mk_ _ _ _
        have uV1 : Up w V1 := by rw [← hV1]; exact (Up.refl _).alloc _
        have ltB : w.heap.size ≤ w.heap.size := U.size
        rw [hV1]
        clear hV1
        replace U := U.trans uV1
        clear uV1
        refine (CF.out _).mono ?_
        rintro _ w2 ⟨rfl, h2⟩
        replace U := U.trans h2
        replace B := B.up h2
        clear h2
        have B0 := B.get 0
        have B1 := B.get 1
        have B2 := B.get 2
        have B3 := B.get 3
        have Bf0 := B.fr 0
        have Bf1 := B.fr 1
        have Bf2 := B.fr 2
        have Bf3 := B.fr 3
        have Bl := B.lt
        simp only [List.getElem?_toArray, List.getElem?_cons_zero, List.getElem?_cons_succ] at B0 B1 B2 B3
        go_wp2_with fail
        clear B0 Bf0 B1 Bf1 B2 Bf2 B3 Bf3 Bl
        obtain ⟨V3, hV3⟩ : ∃ V3, w2.alloc (.cells #[.int .i64 f.k, .int .i64 f.W, .int .i64 f.m, .int .i64 f.b, .int .u64 f.t, .int .u64 f.n, .int .u64 f.x] 35) = V3 := ⟨_, rfl⟩
        have C : Bf V3 w2.heap.size 35 f := by rw [← hV3]; exact Bf.mk_ w2 f 35
        have ltC : w.heap.size ≤ w2.heap.size := U.size
        have uV3 : Up w2 V3 := by rw [← hV3]; exact (Up.refl _).alloc _
        rw [hV3]
        clear hV3
        replace U := U.trans uV3
        replace B := B.up uV3
        clear uV3
        refine (CZ1.out _ U).mono ?_
        rintro _ w4 ⟨rfl, h4⟩
        replace U := U.trans h4
        replace C := C.up h4
        replace B := B.up h4
        clear h4
        obtain ⟨C0, C1, C2, C3, C4, C5, C6⟩ := Bf.cs C
        have C7 := Bf.lt C
        simp only [Nat.zero_add] at C0 C1 C2 C3 C4 C5 C6 C7
        have B0 := B.get 0
        have B1 := B.get 1
        have B2 := B.get 2
        have B3 := B.get 3
        have Bf0 := B.fr 0
        have Bf1 := B.fr 1
        have Bf2 := B.fr 2
        have Bf3 := B.fr 3
        have Bl := B.lt
        simp only [List.getElem?_toArray, List.getElem?_cons_zero, List.getElem?_cons_succ] at B0 B1 B2 B3
        go_wp2_with fail
        clear C0 C1 C2 C3 C4 C5 C6 C7
        clear B0 Bf0 B1 Bf1 B2 Bf2 B3 Bf3 Bl
        refine (CN1.out _ U).mono ?_
        rintro _ w5 ⟨rfl, h5⟩
        replace U := U.trans h5
        replace C := C.up h5
        replace B := B.up h5
        clear h5
        obtain ⟨C0, C1, C2, C3, C4, C5, C6⟩ := Bf.cs C
        have C7 := Bf.lt C
        simp only [Nat.zero_add] at C0 C1 C2 C3 C4 C5 C6 C7
        have B0 := B.get 0
        have B1 := B.get 1
        have B2 := B.get 2
        have B3 := B.get 3
        have Bf0 := B.fr 0
        have Bf1 := B.fr 1
        have Bf2 := B.fr 2
        have Bf3 := B.fr 3
        have Bl := B.lt
        simp only [List.getElem?_toArray, List.getElem?_cons_zero, List.getElem?_cons_succ] at B0 B1 B2 B3
        go_wp2_with fail
        clear C0 C1 C2 C3 C4 C5 C6 C7
        clear B0 Bf0 B1 Bf1 B2 Bf2 B3 Bf3 Bl
        refine (CP1.out _).mono ?_
        rintro _ w6 ⟨rfl, h6⟩
        replace U := U.trans h6
        replace C := C.up h6
        replace B := B.up h6
        clear h6
        obtain ⟨C0, C1, C2, C3, C4, C5, C6⟩ := Bf.cs C
        have C7 := Bf.lt C
        simp only [Nat.zero_add] at C0 C1 C2 C3 C4 C5 C6 C7
        have B0 := B.get 0
        have B1 := B.get 1
        have B2 := B.get 2
        have B3 := B.get 3
        have Bf0 := B.fr 0
        have Bf1 := B.fr 1
        have Bf2 := B.fr 2
        have Bf3 := B.fr 3
        have Bl := B.lt
        simp only [List.getElem?_toArray, List.getElem?_cons_zero, List.getElem?_cons_succ] at B0 B1 B2 B3
        go_wp2_with fail
        clear C0 C1 C2 C3 C4 C5 C6 C7
        clear B0 Bf0 B1 Bf1 B2 Bf2 B3 Bf3 Bl
        go_ret
        exact ⟨by first | rfl | simp, U⟩
      ·
        have U := Up.refl w
        go_enter Tryz.func12, Tryz.ntmps12
        go_wp2_with fail
        obtain ⟨V1, hV1⟩ : ∃ V1, w.alloc (.cells #[.bool false, v, .int .i64 t, .int .i64 g] 25) = V1 := ⟨_, rfl⟩
        have B : Ob V1 w.heap.size 25 #[.bool false, v, .int .i64 t, .int .i64 g] := by rw [← hV1]; exact Ob.mk_ _ _ _
        have uV1 : Up w V1 := by rw [← hV1]; exact (Up.refl _).alloc _
        have ltB : w.heap.size ≤ w.heap.size := U.size
        rw [hV1]
        clear hV1
        replace U := U.trans uV1
        clear uV1
        refine (CF.out _).mono ?_
        rintro _ w2 ⟨rfl, h2⟩
        replace U := U.trans h2
        replace B := B.up h2
        clear h2
        have B0 := B.get 0
        have B1 := B.get 1
        have B2 := B.get 2
        have B3 := B.get 3
        have Bf0 := B.fr 0
        have Bf1 := B.fr 1
        have Bf2 := B.fr 2
        have Bf3 := B.fr 3
        have Bl := B.lt
        simp only [List.getElem?_toArray, List.getElem?_cons_zero, List.getElem?_cons_succ] at B0 B1 B2 B3
        go_wp2_with fail
        clear B0 Bf0 B1 Bf1 B2 Bf2 B3 Bf3 Bl
        obtain ⟨V3, hV3⟩ : ∃ V3, w2.alloc (.cells #[.int .i64 f.k, .int .i64 f.W, .int .i64 f.m, .int .i64 f.b, .int .u64 f.t, .int .u64 f.n, .int .u64 f.x] 35) = V3 := ⟨_, rfl⟩
        have C : Bf V3 w2.heap.size 35 f := by rw [← hV3]; exact Bf.mk_ w2 f 35
        have ltC : w.heap.size ≤ w2.heap.size := U.size
        have uV3 : Up w2 V3 := by rw [← hV3]; exact (Up.refl _).alloc _
        rw [hV3]
        clear hV3
        replace U := U.trans uV3
        replace B := B.up uV3
        clear uV3
        refine (CZ1.out _ U).mono ?_
        rintro _ w4 ⟨rfl, h4⟩
        replace U := U.trans h4
        replace C := C.up h4
        replace B := B.up h4
        clear h4
        obtain ⟨C0, C1, C2, C3, C4, C5, C6⟩ := Bf.cs C
        have C7 := Bf.lt C
        simp only [Nat.zero_add] at C0 C1 C2 C3 C4 C5 C6 C7
        have B0 := B.get 0
        have B1 := B.get 1
        have B2 := B.get 2
        have B3 := B.get 3
        have Bf0 := B.fr 0
        have Bf1 := B.fr 1
        have Bf2 := B.fr 2
        have Bf3 := B.fr 3
        have Bl := B.lt
        simp only [List.getElem?_toArray, List.getElem?_cons_zero, List.getElem?_cons_succ] at B0 B1 B2 B3
        go_wp2_with fail
        clear C0 C1 C2 C3 C4 C5 C6 C7
        clear B0 Bf0 B1 Bf1 B2 Bf2 B3 Bf3 Bl
        refine (CN1.out _ U).mono ?_
        rintro _ w5 ⟨rfl, h5⟩
        replace U := U.trans h5
        replace C := C.up h5
        replace B := B.up h5
        clear h5
        obtain ⟨C0, C1, C2, C3, C4, C5, C6⟩ := Bf.cs C
        have C7 := Bf.lt C
        simp only [Nat.zero_add] at C0 C1 C2 C3 C4 C5 C6 C7
        have B0 := B.get 0
        have B1 := B.get 1
        have B2 := B.get 2
        have B3 := B.get 3
        have Bf0 := B.fr 0
        have Bf1 := B.fr 1
        have Bf2 := B.fr 2
        have Bf3 := B.fr 3
        have Bl := B.lt
        simp only [List.getElem?_toArray, List.getElem?_cons_zero, List.getElem?_cons_succ] at B0 B1 B2 B3
        go_wp2_with fail
        clear C0 C1 C2 C3 C4 C5 C6 C7
        clear B0 Bf0 B1 Bf1 B2 Bf2 B3 Bf3 Bl
        refine (CP1.out _).mono ?_
        rintro _ w6 ⟨rfl, h6⟩
        replace U := U.trans h6
        replace C := C.up h6
        replace B := B.up h6
        clear h6
        obtain ⟨C0, C1, C2, C3, C4, C5, C6⟩ := Bf.cs C
        have C7 := Bf.lt C
        simp only [Nat.zero_add] at C0 C1 C2 C3 C4 C5 C6 C7
        have B0 := B.get 0
        have B1 := B.get 1
        have B2 := B.get 2
        have B3 := B.get 3
        have Bf0 := B.fr 0
        have Bf1 := B.fr 1
        have Bf2 := B.fr 2
        have Bf3 := B.fr 3
        have Bl := B.lt
        simp only [List.getElem?_toArray, List.getElem?_cons_zero, List.getElem?_cons_succ] at B0 B1 B2 B3
        go_wp2_with fail
        clear C0 C1 C2 C3 C4 C5 C6 C7
        clear B0 Bf0 B1 Bf1 B2 Bf2 B3 Bf3 Bl
        go_ret
        exact ⟨by first | rfl | simp, U⟩
    ·
      have k1 : (f.k == 1) = false := by simpa using c1
      have m1 : (mode == 1) = false := by simpa using c2
      have n0 : (f.n == 0) = true := by simpa using c3
      have x0 : (f.x == 0) = true := by simpa using c4
      clear CS SF c1 c2 c3 c4
      rcases K4 with d1 | ⟨d1, rfl, rfl⟩
      ·
        have U := Up.refl w
        go_enter Tryz.func12, Tryz.ntmps12
        go_wp2_with fail
        obtain ⟨V1, hV1⟩ : ∃ V1, w.alloc (.cells #[.bool neg, v, .int .i64 t, .int .i64 g] 25) = V1 := ⟨_, rfl⟩
        have B : Ob V1 w.heap.size 25 #[.bool neg, v, .int .i64 t, .int .i64 g] := by rw [← hV1]; exact Ob.mk_ _ _ _
        have uV1 : Up w V1 := by rw [← hV1]; exact (Up.refl _).alloc _
        have ltB : w.heap.size ≤ w.heap.size := U.size
        rw [hV1]
        clear hV1
        replace U := U.trans uV1
        clear uV1
        refine (CF.out _).mono ?_
        rintro _ w2 ⟨rfl, h2⟩
        replace U := U.trans h2
        replace B := B.up h2
        clear h2
        have B0 := B.get 0
        have B1 := B.get 1
        have B2 := B.get 2
        have B3 := B.get 3
        have Bf0 := B.fr 0
        have Bf1 := B.fr 1
        have Bf2 := B.fr 2
        have Bf3 := B.fr 3
        have Bl := B.lt
        simp only [List.getElem?_toArray, List.getElem?_cons_zero, List.getElem?_cons_succ] at B0 B1 B2 B3
        go_wp2_with fail
        clear B0 Bf0 B1 Bf1 B2 Bf2 B3 Bf3 Bl
        obtain ⟨V3, hV3⟩ : ∃ V3, w2.alloc (.cells #[.int .i64 f.k, .int .i64 f.W, .int .i64 f.m, .int .i64 f.b, .int .u64 f.t, .int .u64 f.n, .int .u64 f.x] 35) = V3 := ⟨_, rfl⟩
        have C : Bf V3 w2.heap.size 35 f := by rw [← hV3]; exact Bf.mk_ w2 f 35
        have ltC : w.heap.size ≤ w2.heap.size := U.size
        have uV3 : Up w2 V3 := by rw [← hV3]; exact (Up.refl _).alloc _
        rw [hV3]
        clear hV3
        replace U := U.trans uV3
        replace B := B.up uV3
        clear uV3
        refine (CZ1.out _ U).mono ?_
        rintro _ w4 ⟨rfl, h4⟩
        replace U := U.trans h4
        replace C := C.up h4
        replace B := B.up h4
        clear h4
        obtain ⟨C0, C1, C2, C3, C4, C5, C6⟩ := Bf.cs C
        have C7 := Bf.lt C
        simp only [Nat.zero_add] at C0 C1 C2 C3 C4 C5 C6 C7
        have B0 := B.get 0
        have B1 := B.get 1
        have B2 := B.get 2
        have B3 := B.get 3
        have Bf0 := B.fr 0
        have Bf1 := B.fr 1
        have Bf2 := B.fr 2
        have Bf3 := B.fr 3
        have Bl := B.lt
        simp only [List.getElem?_toArray, List.getElem?_cons_zero, List.getElem?_cons_succ] at B0 B1 B2 B3
        go_wp2_with fail
        clear C0 C1 C2 C3 C4 C5 C6 C7
        clear B0 Bf0 B1 Bf1 B2 Bf2 B3 Bf3 Bl
        refine (CN1.out _ U).mono ?_
        rintro _ w5 ⟨rfl, h5⟩
        replace U := U.trans h5
        replace C := C.up h5
        replace B := B.up h5
        clear h5
        obtain ⟨C0, C1, C2, C3, C4, C5, C6⟩ := Bf.cs C
        have C7 := Bf.lt C
        simp only [Nat.zero_add] at C0 C1 C2 C3 C4 C5 C6 C7
        have B0 := B.get 0
        have B1 := B.get 1
        have B2 := B.get 2
        have B3 := B.get 3
        have Bf0 := B.fr 0
        have Bf1 := B.fr 1
        have Bf2 := B.fr 2
        have Bf3 := B.fr 3
        have Bl := B.lt
        simp only [List.getElem?_toArray, List.getElem?_cons_zero, List.getElem?_cons_succ] at B0 B1 B2 B3
        go_wp2_with fail
        clear C0 C1 C2 C3 C4 C5 C6 C7
        clear B0 Bf0 B1 Bf1 B2 Bf2 B3 Bf3 Bl
        refine (CP1.out _).mono ?_
        rintro _ w6 ⟨rfl, h6⟩
        replace U := U.trans h6
        replace C := C.up h6
        replace B := B.up h6
        clear h6
        obtain ⟨C0, C1, C2, C3, C4, C5, C6⟩ := Bf.cs C
        have C7 := Bf.lt C
        simp only [Nat.zero_add] at C0 C1 C2 C3 C4 C5 C6 C7
        have B0 := B.get 0
        have B1 := B.get 1
        have B2 := B.get 2
        have B3 := B.get 3
        have Bf0 := B.fr 0
        have Bf1 := B.fr 1
        have Bf2 := B.fr 2
        have Bf3 := B.fr 3
        have Bl := B.lt
        simp only [List.getElem?_toArray, List.getElem?_cons_zero, List.getElem?_cons_succ] at B0 B1 B2 B3
        go_wp2_with fail
        clear C0 C1 C2 C3 C4 C5 C6 C7
        clear B0 Bf0 B1 Bf1 B2 Bf2 B3 Bf3 Bl
        go_ret
        exact ⟨by first | rfl | simp, U⟩
      ·
        have U := Up.refl w
        go_enter Tryz.func12, Tryz.ntmps12
        go_wp2_with fail
        obtain ⟨V1, hV1⟩ : ∃ V1, w.alloc (.cells #[.bool false, v, .int .i64 t, .int .i64 g] 25) = V1 := ⟨_, rfl⟩
        have B : Ob V1 w.heap.size 25 #[.bool false, v, .int .i64 t, .int .i64 g] := by rw [← hV1]; exact Ob.mk_ _ _ _
        have uV1 : Up w V1 := by rw [← hV1]; exact (Up.refl _).alloc _
        have ltB : w.heap.size ≤ w.heap.size := U.size
        rw [hV1]
        clear hV1
        replace U := U.trans uV1
        clear uV1
        refine (CF.out _).mono ?_
        rintro _ w2 ⟨rfl, h2⟩
        replace U := U.trans h2
        replace B := B.up h2
        clear h2
        have B0 := B.get 0
        have B1 := B.get 1
        have B2 := B.get 2
        have B3 := B.get 3
        have Bf0 := B.fr 0
        have Bf1 := B.fr 1
        have Bf2 := B.fr 2
        have Bf3 := B.fr 3
        have Bl := B.lt
        simp only [List.getElem?_toArray, List.getElem?_cons_zero, List.getElem?_cons_succ] at B0 B1 B2 B3
        go_wp2_with fail
        clear B0 Bf0 B1 Bf1 B2 Bf2 B3 Bf3 Bl
        obtain ⟨V3, hV3⟩ : ∃ V3, w2.alloc (.cells #[.int .i64 f.k, .int .i64 f.W, .int .i64 f.m, .int .i64 f.b, .int .u64 f.t, .int .u64 f.n, .int .u64 f.x] 35) = V3 := ⟨_, rfl⟩
        have C : Bf V3 w2.heap.size 35 f := by rw [← hV3]; exact Bf.mk_ w2 f 35
        have ltC : w.heap.size ≤ w2.heap.size := U.size
        have uV3 : Up w2 V3 := by rw [← hV3]; exact (Up.refl _).alloc _
        rw [hV3]
        clear hV3
        replace U := U.trans uV3
        replace B := B.up uV3
        clear uV3
        refine (CZ1.out _ U).mono ?_
        rintro _ w4 ⟨rfl, h4⟩
        replace U := U.trans h4
        replace C := C.up h4
        replace B := B.up h4
        clear h4
        obtain ⟨C0, C1, C2, C3, C4, C5, C6⟩ := Bf.cs C
        have C7 := Bf.lt C
        simp only [Nat.zero_add] at C0 C1 C2 C3 C4 C5 C6 C7
        have B0 := B.get 0
        have B1 := B.get 1
        have B2 := B.get 2
        have B3 := B.get 3
        have Bf0 := B.fr 0
        have Bf1 := B.fr 1
        have Bf2 := B.fr 2
        have Bf3 := B.fr 3
        have Bl := B.lt
        simp only [List.getElem?_toArray, List.getElem?_cons_zero, List.getElem?_cons_succ] at B0 B1 B2 B3
        go_wp2_with fail
        clear C0 C1 C2 C3 C4 C5 C6 C7
        clear B0 Bf0 B1 Bf1 B2 Bf2 B3 Bf3 Bl
        refine (CN1.out _ U).mono ?_
        rintro _ w5 ⟨rfl, h5⟩
        replace U := U.trans h5
        replace C := C.up h5
        replace B := B.up h5
        clear h5
        obtain ⟨C0, C1, C2, C3, C4, C5, C6⟩ := Bf.cs C
        have C7 := Bf.lt C
        simp only [Nat.zero_add] at C0 C1 C2 C3 C4 C5 C6 C7
        have B0 := B.get 0
        have B1 := B.get 1
        have B2 := B.get 2
        have B3 := B.get 3
        have Bf0 := B.fr 0
        have Bf1 := B.fr 1
        have Bf2 := B.fr 2
        have Bf3 := B.fr 3
        have Bl := B.lt
        simp only [List.getElem?_toArray, List.getElem?_cons_zero, List.getElem?_cons_succ] at B0 B1 B2 B3
        go_wp2_with fail
        clear C0 C1 C2 C3 C4 C5 C6 C7
        clear B0 Bf0 B1 Bf1 B2 Bf2 B3 Bf3 Bl
        refine (CP1.out _).mono ?_
        rintro _ w6 ⟨rfl, h6⟩
        replace U := U.trans h6
        replace C := C.up h6
        replace B := B.up h6
        clear h6
        obtain ⟨C0, C1, C2, C3, C4, C5, C6⟩ := Bf.cs C
        have C7 := Bf.lt C
        simp only [Nat.zero_add] at C0 C1 C2 C3 C4 C5 C6 C7
        have B0 := B.get 0
        have B1 := B.get 1
        have B2 := B.get 2
        have B3 := B.get 3
        have Bf0 := B.fr 0
        have Bf1 := B.fr 1
        have Bf2 := B.fr 2
        have Bf3 := B.fr 3
        have Bl := B.lt
        simp only [List.getElem?_toArray, List.getElem?_cons_zero, List.getElem?_cons_succ] at B0 B1 B2 B3
        go_wp2_with fail
        clear C0 C1 C2 C3 C4 C5 C6 C7
        clear B0 Bf0 B1 Bf1 B2 Bf2 B3 Bf3 Bl
        go_ret
        exact ⟨by first | rfl | simp, U⟩
    ·
      have k1 : (f.k == 1) = false := by simpa using c1
      have m1 : (mode == 1) = false := by simpa using c2
      have n0 : (f.n == 0) = true := by simpa using c3
      have x0 : (f.x == 0) = false := by simpa using c4
      clear CS SF c1 c2 c3 c4
      rcases K4 with d1 | ⟨d1, rfl, rfl⟩
      ·
        have U := Up.refl w
        go_enter Tryz.func12, Tryz.ntmps12
        go_wp2_with fail
        obtain ⟨V1, hV1⟩ : ∃ V1, w.alloc (.cells #[.bool neg, v, .int .i64 t, .int .i64 g] 25) = V1 := ⟨_, rfl⟩
        have B : Ob V1 w.heap.size 25 #[.bool neg, v, .int .i64 t, .int .i64 g] := by rw [← hV1]; exact Ob.mk_ _ _ _
        have uV1 : Up w V1 := by rw [← hV1]; exact (Up.refl _).alloc _
        have ltB : w.heap.size ≤ w.heap.size := U.size
        rw [hV1]
        clear hV1
        replace U := U.trans uV1
        clear uV1
        refine (CF.out _).mono ?_
        rintro _ w2 ⟨rfl, h2⟩
        replace U := U.trans h2
        replace B := B.up h2
        clear h2
        have B0 := B.get 0
        have B1 := B.get 1
        have B2 := B.get 2
        have B3 := B.get 3
        have Bf0 := B.fr 0
        have Bf1 := B.fr 1
        have Bf2 := B.fr 2
        have Bf3 := B.fr 3
        have Bl := B.lt
        simp only [List.getElem?_toArray, List.getElem?_cons_zero, List.getElem?_cons_succ] at B0 B1 B2 B3
        go_wp2_with fail
        clear B0 Bf0 B1 Bf1 B2 Bf2 B3 Bf3 Bl
        obtain ⟨V3, hV3⟩ : ∃ V3, w2.alloc (.cells #[.int .i64 f.k, .int .i64 f.W, .int .i64 f.m, .int .i64 f.b, .int .u64 f.t, .int .u64 f.n, .int .u64 f.x] 35) = V3 := ⟨_, rfl⟩
        have C : Bf V3 w2.heap.size 35 f := by rw [← hV3]; exact Bf.mk_ w2 f 35
        have ltC : w.heap.size ≤ w2.heap.size := U.size
        have uV3 : Up w2 V3 := by rw [← hV3]; exact (Up.refl _).alloc _
        rw [hV3]
        clear hV3
        replace U := U.trans uV3
        replace B := B.up uV3
        clear uV3
        refine (CZ1.out _ U).mono ?_
        rintro _ w4 ⟨rfl, h4⟩
        replace U := U.trans h4
        replace C := C.up h4
        replace B := B.up h4
        clear h4
        obtain ⟨C0, C1, C2, C3, C4, C5, C6⟩ := Bf.cs C
        have C7 := Bf.lt C
        simp only [Nat.zero_add] at C0 C1 C2 C3 C4 C5 C6 C7
        have B0 := B.get 0
        have B1 := B.get 1
        have B2 := B.get 2
        have B3 := B.get 3
        have Bf0 := B.fr 0
        have Bf1 := B.fr 1
        have Bf2 := B.fr 2
        have Bf3 := B.fr 3
        have Bl := B.lt
        simp only [List.getElem?_toArray, List.getElem?_cons_zero, List.getElem?_cons_succ] at B0 B1 B2 B3
        go_wp2_with fail
        clear C0 C1 C2 C3 C4 C5 C6 C7
        clear B0 Bf0 B1 Bf1 B2 Bf2 B3 Bf3 Bl
        refine (CN1.out _ U).mono ?_
        rintro _ w5 ⟨rfl, h5⟩
        replace U := U.trans h5
        replace C := C.up h5
        replace B := B.up h5
        clear h5
        obtain ⟨C0, C1, C2, C3, C4, C5, C6⟩ := Bf.cs C
        have C7 := Bf.lt C
        simp only [Nat.zero_add] at C0 C1 C2 C3 C4 C5 C6 C7
        have B0 := B.get 0
        have B1 := B.get 1
        have B2 := B.get 2
        have B3 := B.get 3
        have Bf0 := B.fr 0
        have Bf1 := B.fr 1
        have Bf2 := B.fr 2
        have Bf3 := B.fr 3
        have Bl := B.lt
        simp only [List.getElem?_toArray, List.getElem?_cons_zero, List.getElem?_cons_succ] at B0 B1 B2 B3
        go_wp2_with fail
        clear C0 C1 C2 C3 C4 C5 C6 C7
        clear B0 Bf0 B1 Bf1 B2 Bf2 B3 Bf3 Bl
        refine (CP1.out _).mono ?_
        rintro _ w6 ⟨rfl, h6⟩
        replace U := U.trans h6
        replace C := C.up h6
        replace B := B.up h6
        clear h6
        obtain ⟨C0, C1, C2, C3, C4, C5, C6⟩ := Bf.cs C
        have C7 := Bf.lt C
        simp only [Nat.zero_add] at C0 C1 C2 C3 C4 C5 C6 C7
        have B0 := B.get 0
        have B1 := B.get 1
        have B2 := B.get 2
        have B3 := B.get 3
        have Bf0 := B.fr 0
        have Bf1 := B.fr 1
        have Bf2 := B.fr 2
        have Bf3 := B.fr 3
        have Bl := B.lt
        simp only [List.getElem?_toArray, List.getElem?_cons_zero, List.getElem?_cons_succ] at B0 B1 B2 B3
        go_wp2_with fail
        clear C0 C1 C2 C3 C4 C5 C6 C7
        clear B0 Bf0 B1 Bf1 B2 Bf2 B3 Bf3 Bl
        go_ret
        exact ⟨by first | rfl | simp, U⟩
      ·
        have U := Up.refl w
        go_enter Tryz.func12, Tryz.ntmps12
        go_wp2_with fail
        obtain ⟨V1, hV1⟩ : ∃ V1, w.alloc (.cells #[.bool false, v, .int .i64 t, .int .i64 g] 25) = V1 := ⟨_, rfl⟩
        have B : Ob V1 w.heap.size 25 #[.bool false, v, .int .i64 t, .int .i64 g] := by rw [← hV1]; exact Ob.mk_ _ _ _
        have uV1 : Up w V1 := by rw [← hV1]; exact (Up.refl _).alloc _
        have ltB : w.heap.size ≤ w.heap.size := U.size
        rw [hV1]
        clear hV1
        replace U := U.trans uV1
        clear uV1
        refine (CF.out _).mono ?_
        rintro _ w2 ⟨rfl, h2⟩
        replace U := U.trans h2
        replace B := B.up h2
        clear h2
        have B0 := B.get 0
        have B1 := B.get 1
        have B2 := B.get 2
        have B3 := B.get 3
        have Bf0 := B.fr 0
        have Bf1 := B.fr 1
        have Bf2 := B.fr 2
        have Bf3 := B.fr 3
        have Bl := B.lt
        simp only [List.getElem?_toArray, List.getElem?_cons_zero, List.getElem?_cons_succ] at B0 B1 B2 B3
        go_wp2_with fail
        clear B0 Bf0 B1 Bf1 B2 Bf2 B3 Bf3 Bl
        obtain ⟨V3, hV3⟩ : ∃ V3, w2.alloc (.cells #[.int .i64 f.k, .int .i64 f.W, .int .i64 f.m, .int .i64 f.b, .int .u64 f.t, .int .u64 f.n, .int .u64 f.x] 35) = V3 := ⟨_, rfl⟩
        have C : Bf V3 w2.heap.size 35 f := by rw [← hV3]; exact Bf.mk_ w2 f 35
        have ltC : w.heap.size ≤ w2.heap.size := U.size
        have uV3 : Up w2 V3 := by rw [← hV3]; exact (Up.refl _).alloc _
        rw [hV3]
        clear hV3
        replace U := U.trans uV3
        replace B := B.up uV3
        clear uV3
        refine (CZ1.out _ U).mono ?_
        rintro _ w4 ⟨rfl, h4⟩
        replace U := U.trans h4
        replace C := C.up h4
        replace B := B.up h4
        clear h4
        obtain ⟨C0, C1, C2, C3, C4, C5, C6⟩ := Bf.cs C
        have C7 := Bf.lt C
        simp only [Nat.zero_add] at C0 C1 C2 C3 C4 C5 C6 C7
        have B0 := B.get 0
        have B1 := B.get 1
        have B2 := B.get 2
        have B3 := B.get 3
        have Bf0 := B.fr 0
        have Bf1 := B.fr 1
        have Bf2 := B.fr 2
        have Bf3 := B.fr 3
        have Bl := B.lt
        simp only [List.getElem?_toArray, List.getElem?_cons_zero, List.getElem?_cons_succ] at B0 B1 B2 B3
        go_wp2_with fail
        clear C0 C1 C2 C3 C4 C5 C6 C7
        clear B0 Bf0 B1 Bf1 B2 Bf2 B3 Bf3 Bl
        refine (CN1.out _ U).mono ?_
        rintro _ w5 ⟨rfl, h5⟩
        replace U := U.trans h5
        replace C := C.up h5
        replace B := B.up h5
        clear h5
        obtain ⟨C0, C1, C2, C3, C4, C5, C6⟩ := Bf.cs C
        have C7 := Bf.lt C
        simp only [Nat.zero_add] at C0 C1 C2 C3 C4 C5 C6 C7
        have B0 := B.get 0
        have B1 := B.get 1
        have B2 := B.get 2
        have B3 := B.get 3
        have Bf0 := B.fr 0
        have Bf1 := B.fr 1
        have Bf2 := B.fr 2
        have Bf3 := B.fr 3
        have Bl := B.lt
        simp only [List.getElem?_toArray, List.getElem?_cons_zero, List.getElem?_cons_succ] at B0 B1 B2 B3
        go_wp2_with fail
        clear C0 C1 C2 C3 C4 C5 C6 C7
        clear B0 Bf0 B1 Bf1 B2 Bf2 B3 Bf3 Bl
        refine (CP1.out _).mono ?_
        rintro _ w6 ⟨rfl, h6⟩
        replace U := U.trans h6
        replace C := C.up h6
        replace B := B.up h6
        clear h6
        obtain ⟨C0, C1, C2, C3, C4, C5, C6⟩ := Bf.cs C
        have C7 := Bf.lt C
        simp only [Nat.zero_add] at C0 C1 C2 C3 C4 C5 C6 C7
        have B0 := B.get 0
        have B1 := B.get 1
        have B2 := B.get 2
        have B3 := B.get 3
        have Bf0 := B.fr 0
        have Bf1 := B.fr 1
        have Bf2 := B.fr 2
        have Bf3 := B.fr 3
        have Bl := B.lt
        simp only [List.getElem?_toArray, List.getElem?_cons_zero, List.getElem?_cons_succ] at B0 B1 B2 B3
        go_wp2_with fail
        clear C0 C1 C2 C3 C4 C5 C6 C7
        clear B0 Bf0 B1 Bf1 B2 Bf2 B3 Bf3 Bl
        go_ret
        exact ⟨by first | rfl | simp, U⟩
    ·
      have k1 : (f.k == 1) = false := by simpa using c1
      have m1 : (mode == 1) = false := by simpa using c2
      have n0 : (f.n == 0) = false := by simpa using c3
      have SF1 := SF c3
      clear SF c1 c2 c3
      cases neg
      ·
        rw [if_neg (by simp)] at hp
        subst hp
        clear SF1 CS
        have K4 : (f.k == 4) = false ∨ (f.k == 4) = true ∧ zr = false := by
          rcases K4 with e | ⟨e, _, e2⟩
          · exact .inl e
          · exact .inr ⟨e, e2⟩
        rcases K4 with d1 | ⟨d1, rfl⟩
        ·
          have U := Up.refl w
          go_enter Tryz.func12, Tryz.ntmps12
          go_wp2_with fail
          obtain ⟨V1, hV1⟩ : ∃ V1, w.alloc (.cells #[.bool false, v, .int .i64 t, .int .i64 g] 25) = V1 := ⟨_, rfl⟩
          have B : Ob V1 w.heap.size 25 #[.bool false, v, .int .i64 t, .int .i64 g] := by rw [← hV1]; exact Ob.mk_ _ _ _
          have uV1 : Up w V1 := by rw [← hV1]; exact (Up.refl _).alloc _
          have ltB : w.heap.size ≤ w.heap.size := U.size
          rw [hV1]
          clear hV1
          replace U := U.trans uV1
          clear uV1
          refine (CF.out _).mono ?_
          rintro _ w2 ⟨rfl, h2⟩
          replace U := U.trans h2
          replace B := B.up h2
          clear h2
          have B0 := B.get 0
          have B1 := B.get 1
          have B2 := B.get 2
          have B3 := B.get 3
          have Bf0 := B.fr 0
          have Bf1 := B.fr 1
          have Bf2 := B.fr 2
          have Bf3 := B.fr 3
          have Bl := B.lt
          simp only [List.getElem?_toArray, List.getElem?_cons_zero, List.getElem?_cons_succ] at B0 B1 B2 B3
          go_wp2_with fail
          clear B0 Bf0 B1 Bf1 B2 Bf2 B3 Bf3 Bl
          obtain ⟨V3, hV3⟩ : ∃ V3, w2.alloc (.cells #[.int .i64 f.k, .int .i64 f.W, .int .i64 f.m, .int .i64 f.b, .int .u64 f.t, .int .u64 f.n, .int .u64 f.x] 35) = V3 := ⟨_, rfl⟩
          have C : Bf V3 w2.heap.size 35 f := by rw [← hV3]; exact Bf.mk_ w2 f 35
          have ltC : w.heap.size ≤ w2.heap.size := U.size
          have uV3 : Up w2 V3 := by rw [← hV3]; exact (Up.refl _).alloc _
          rw [hV3]
          clear hV3
          replace U := U.trans uV3
          replace B := B.up uV3
          clear uV3
          refine (CZ1.out _ U).mono ?_
          rintro _ w4 ⟨rfl, h4⟩
          replace U := U.trans h4
          replace C := C.up h4
          replace B := B.up h4
          clear h4
          obtain ⟨C0, C1, C2, C3, C4, C5, C6⟩ := Bf.cs C
          have C7 := Bf.lt C
          simp only [Nat.zero_add] at C0 C1 C2 C3 C4 C5 C6 C7
          have B0 := B.get 0
          have B1 := B.get 1
          have B2 := B.get 2
          have B3 := B.get 3
          have Bf0 := B.fr 0
          have Bf1 := B.fr 1
          have Bf2 := B.fr 2
          have Bf3 := B.fr 3
          have Bl := B.lt
          simp only [List.getElem?_toArray, List.getElem?_cons_zero, List.getElem?_cons_succ] at B0 B1 B2 B3
          go_wp2_with fail
          clear C0 C1 C2 C3 C4 C5 C6 C7
          clear B0 Bf0 B1 Bf1 B2 Bf2 B3 Bf3 Bl
          refine (CN1.out _ U).mono ?_
          rintro _ w5 ⟨rfl, h5⟩
          replace U := U.trans h5
          replace C := C.up h5
          replace B := B.up h5
          clear h5
          obtain ⟨C0, C1, C2, C3, C4, C5, C6⟩ := Bf.cs C
          have C7 := Bf.lt C
          simp only [Nat.zero_add] at C0 C1 C2 C3 C4 C5 C6 C7
          have B0 := B.get 0
          have B1 := B.get 1
          have B2 := B.get 2
          have B3 := B.get 3
          have Bf0 := B.fr 0
          have Bf1 := B.fr 1
          have Bf2 := B.fr 2
          have Bf3 := B.fr 3
          have Bl := B.lt
          simp only [List.getElem?_toArray, List.getElem?_cons_zero, List.getElem?_cons_succ] at B0 B1 B2 B3
          go_wp2_with fail
          clear C0 C1 C2 C3 C4 C5 C6 C7
          clear B0 Bf0 B1 Bf1 B2 Bf2 B3 Bf3 Bl
          refine (CP1.out _).mono ?_
          rintro _ w6 ⟨rfl, h6⟩
          replace U := U.trans h6
          replace C := C.up h6
          replace B := B.up h6
          clear h6
          obtain ⟨C0, C1, C2, C3, C4, C5, C6⟩ := Bf.cs C
          have C7 := Bf.lt C
          simp only [Nat.zero_add] at C0 C1 C2 C3 C4 C5 C6 C7
          have B0 := B.get 0
          have B1 := B.get 1
          have B2 := B.get 2
          have B3 := B.get 3
          have Bf0 := B.fr 0
          have Bf1 := B.fr 1
          have Bf2 := B.fr 2
          have Bf3 := B.fr 3
          have Bl := B.lt
          simp only [List.getElem?_toArray, List.getElem?_cons_zero, List.getElem?_cons_succ] at B0 B1 B2 B3
          go_wp2_with fail
          clear C0 C1 C2 C3 C4 C5 C6 C7
          clear B0 Bf0 B1 Bf1 B2 Bf2 B3 Bf3 Bl
          go_ret
          exact ⟨by first | rfl | simp, U⟩
        ·
          have U := Up.refl w
          go_enter Tryz.func12, Tryz.ntmps12
          go_wp2_with fail
          obtain ⟨V1, hV1⟩ : ∃ V1, w.alloc (.cells #[.bool false, v, .int .i64 t, .int .i64 g] 25) = V1 := ⟨_, rfl⟩
          have B : Ob V1 w.heap.size 25 #[.bool false, v, .int .i64 t, .int .i64 g] := by rw [← hV1]; exact Ob.mk_ _ _ _
          have uV1 : Up w V1 := by rw [← hV1]; exact (Up.refl _).alloc _
          have ltB : w.heap.size ≤ w.heap.size := U.size
          rw [hV1]
          clear hV1
          replace U := U.trans uV1
          clear uV1
          refine (CF.out _).mono ?_
          rintro _ w2 ⟨rfl, h2⟩
          replace U := U.trans h2
          replace B := B.up h2
          clear h2
          have B0 := B.get 0
          have B1 := B.get 1
          have B2 := B.get 2
          have B3 := B.get 3
          have Bf0 := B.fr 0
          have Bf1 := B.fr 1
          have Bf2 := B.fr 2
          have Bf3 := B.fr 3
          have Bl := B.lt
          simp only [List.getElem?_toArray, List.getElem?_cons_zero, List.getElem?_cons_succ] at B0 B1 B2 B3
          go_wp2_with fail
          clear B0 Bf0 B1 Bf1 B2 Bf2 B3 Bf3 Bl
          obtain ⟨V3, hV3⟩ : ∃ V3, w2.alloc (.cells #[.int .i64 f.k, .int .i64 f.W, .int .i64 f.m, .int .i64 f.b, .int .u64 f.t, .int .u64 f.n, .int .u64 f.x] 35) = V3 := ⟨_, rfl⟩
          have C : Bf V3 w2.heap.size 35 f := by rw [← hV3]; exact Bf.mk_ w2 f 35
          have ltC : w.heap.size ≤ w2.heap.size := U.size
          have uV3 : Up w2 V3 := by rw [← hV3]; exact (Up.refl _).alloc _
          rw [hV3]
          clear hV3
          replace U := U.trans uV3
          replace B := B.up uV3
          clear uV3
          refine (CZ1.out _ U).mono ?_
          rintro _ w4 ⟨rfl, h4⟩
          replace U := U.trans h4
          replace C := C.up h4
          replace B := B.up h4
          clear h4
          obtain ⟨C0, C1, C2, C3, C4, C5, C6⟩ := Bf.cs C
          have C7 := Bf.lt C
          simp only [Nat.zero_add] at C0 C1 C2 C3 C4 C5 C6 C7
          have B0 := B.get 0
          have B1 := B.get 1
          have B2 := B.get 2
          have B3 := B.get 3
          have Bf0 := B.fr 0
          have Bf1 := B.fr 1
          have Bf2 := B.fr 2
          have Bf3 := B.fr 3
          have Bl := B.lt
          simp only [List.getElem?_toArray, List.getElem?_cons_zero, List.getElem?_cons_succ] at B0 B1 B2 B3
          go_wp2_with fail
          clear C0 C1 C2 C3 C4 C5 C6 C7
          clear B0 Bf0 B1 Bf1 B2 Bf2 B3 Bf3 Bl
          refine (CN1.out _ U).mono ?_
          rintro _ w5 ⟨rfl, h5⟩
          replace U := U.trans h5
          replace C := C.up h5
          replace B := B.up h5
          clear h5
          obtain ⟨C0, C1, C2, C3, C4, C5, C6⟩ := Bf.cs C
          have C7 := Bf.lt C
          simp only [Nat.zero_add] at C0 C1 C2 C3 C4 C5 C6 C7
          have B0 := B.get 0
          have B1 := B.get 1
          have B2 := B.get 2
          have B3 := B.get 3
          have Bf0 := B.fr 0
          have Bf1 := B.fr 1
          have Bf2 := B.fr 2
          have Bf3 := B.fr 3
          have Bl := B.lt
          simp only [List.getElem?_toArray, List.getElem?_cons_zero, List.getElem?_cons_succ] at B0 B1 B2 B3
          go_wp2_with fail
          clear C0 C1 C2 C3 C4 C5 C6 C7
          clear B0 Bf0 B1 Bf1 B2 Bf2 B3 Bf3 Bl
          refine (CP1.out _).mono ?_
          rintro _ w6 ⟨rfl, h6⟩
          replace U := U.trans h6
          replace C := C.up h6
          replace B := B.up h6
          clear h6
          obtain ⟨C0, C1, C2, C3, C4, C5, C6⟩ := Bf.cs C
          have C7 := Bf.lt C
          simp only [Nat.zero_add] at C0 C1 C2 C3 C4 C5 C6 C7
          have B0 := B.get 0
          have B1 := B.get 1
          have B2 := B.get 2
          have B3 := B.get 3
          have Bf0 := B.fr 0
          have Bf1 := B.fr 1
          have Bf2 := B.fr 2
          have Bf3 := B.fr 3
          have Bl := B.lt
          simp only [List.getElem?_toArray, List.getElem?_cons_zero, List.getElem?_cons_succ] at B0 B1 B2 B3
          go_wp2_with fail
          clear C0 C1 C2 C3 C4 C5 C6 C7
          clear B0 Bf0 B1 Bf1 B2 Bf2 B3 Bf3 Bl
          go_ret
          exact ⟨by first | rfl | simp, U⟩
      ·
        rw [if_pos rfl] at hp
        subst hp
        obtain d1 : (f.k == 4) = false := by
          rcases K4 with e | ⟨_, e, _⟩
          · exact e
          · cases e
        clear K4
        have U := Up.refl w
        go_enter Tryz.func12, Tryz.ntmps12
        go_wp2_with fail
        obtain ⟨V1, hV1⟩ : ∃ V1, w.alloc (.cells #[.bool true, v, .int .i64 t, .int .i64 g] 25) = V1 := ⟨_, rfl⟩
        have B : Ob V1 w.heap.size 25 #[.bool true, v, .int .i64 t, .int .i64 g] := by rw [← hV1]; exact Ob.mk_ _ _ _
        have uV1 : Up w V1 := by rw [← hV1]; exact (Up.refl _).alloc _
        have ltB : w.heap.size ≤ w.heap.size := U.size
        rw [hV1]
        clear hV1
        replace U := U.trans uV1
        clear uV1
        refine (CF.out _).mono ?_
        rintro _ w2 ⟨rfl, h2⟩
        replace U := U.trans h2
        replace B := B.up h2
        clear h2
        have B0 := B.get 0
        have B1 := B.get 1
        have B2 := B.get 2
        have B3 := B.get 3
        have Bf0 := B.fr 0
        have Bf1 := B.fr 1
        have Bf2 := B.fr 2
        have Bf3 := B.fr 3
        have Bl := B.lt
        simp only [List.getElem?_toArray, List.getElem?_cons_zero, List.getElem?_cons_succ] at B0 B1 B2 B3
        go_wp2_with fail
        clear B0 Bf0 B1 Bf1 B2 Bf2 B3 Bf3 Bl
        obtain ⟨V3, hV3⟩ : ∃ V3, w2.alloc (.cells #[.int .i64 f.k, .int .i64 f.W, .int .i64 f.m, .int .i64 f.b, .int .u64 f.t, .int .u64 f.n, .int .u64 f.x] 35) = V3 := ⟨_, rfl⟩
        have C : Bf V3 w2.heap.size 35 f := by rw [← hV3]; exact Bf.mk_ w2 f 35
        have ltC : w.heap.size ≤ w2.heap.size := U.size
        have uV3 : Up w2 V3 := by rw [← hV3]; exact (Up.refl _).alloc _
        rw [hV3]
        clear hV3
        replace U := U.trans uV3
        replace B := B.up uV3
        clear uV3
        refine (CZ1.out _ U).mono ?_
        rintro _ w4 ⟨rfl, h4⟩
        replace U := U.trans h4
        replace C := C.up h4
        replace B := B.up h4
        clear h4
        obtain ⟨C0, C1, C2, C3, C4, C5, C6⟩ := Bf.cs C
        have C7 := Bf.lt C
        simp only [Nat.zero_add] at C0 C1 C2 C3 C4 C5 C6 C7
        have B0 := B.get 0
        have B1 := B.get 1
        have B2 := B.get 2
        have B3 := B.get 3
        have Bf0 := B.fr 0
        have Bf1 := B.fr 1
        have Bf2 := B.fr 2
        have Bf3 := B.fr 3
        have Bl := B.lt
        simp only [List.getElem?_toArray, List.getElem?_cons_zero, List.getElem?_cons_succ] at B0 B1 B2 B3
        go_wp2_with fail
        clear C0 C1 C2 C3 C4 C5 C6 C7
        clear B0 Bf0 B1 Bf1 B2 Bf2 B3 Bf3 Bl
        refine (CN1.out _ U).mono ?_
        rintro _ w5 ⟨rfl, h5⟩
        replace U := U.trans h5
        replace C := C.up h5
        replace B := B.up h5
        clear h5
        obtain ⟨C0, C1, C2, C3, C4, C5, C6⟩ := Bf.cs C
        have C7 := Bf.lt C
        simp only [Nat.zero_add] at C0 C1 C2 C3 C4 C5 C6 C7
        have B0 := B.get 0
        have B1 := B.get 1
        have B2 := B.get 2
        have B3 := B.get 3
        have Bf0 := B.fr 0
        have Bf1 := B.fr 1
        have Bf2 := B.fr 2
        have Bf3 := B.fr 3
        have Bl := B.lt
        simp only [List.getElem?_toArray, List.getElem?_cons_zero, List.getElem?_cons_succ] at B0 B1 B2 B3
        go_wp2_with fail
        clear C0 C1 C2 C3 C4 C5 C6 C7
        clear B0 Bf0 B1 Bf1 B2 Bf2 B3 Bf3 Bl
        refine (CP1.out _).mono ?_
        rintro _ w6 ⟨rfl, h6⟩
        replace U := U.trans h6
        replace C := C.up h6
        replace B := B.up h6
        clear h6
        obtain ⟨C0, C1, C2, C3, C4, C5, C6⟩ := Bf.cs C
        have C7 := Bf.lt C
        simp only [Nat.zero_add] at C0 C1 C2 C3 C4 C5 C6 C7
        have B0 := B.get 0
        have B1 := B.get 1
        have B2 := B.get 2
        have B3 := B.get 3
        have Bf0 := B.fr 0
        have Bf1 := B.fr 1
        have Bf2 := B.fr 2
        have Bf3 := B.fr 3
        have Bl := B.lt
        simp only [List.getElem?_toArray, List.getElem?_cons_zero, List.getElem?_cons_succ] at B0 B1 B2 B3
        go_upto_region 12 with fail
        clear B0 Bf0 B1 Bf1 B2 Bf2 B3 Bf3 Bl
        go_region_held3 (fun w' => w'.cell? ⟨w2.heap.size, 0, none⟩ = some (.int .i64 f.k) ∧ w'.cell? ⟨w2.heap.size, 1, none⟩ = some (.int .i64 f.W) ∧ w'.cell? ⟨w2.heap.size, 2, none⟩ = some (.int .i64 f.m) ∧ w'.cell? ⟨w2.heap.size, 3, none⟩ = some (.int .i64 f.b) ∧ w'.cell? ⟨w2.heap.size, 4, none⟩ = some (.int .u64 f.t) ∧ w'.cell? ⟨w2.heap.size, 5, none⟩ = some (.int .u64 f.n) ∧ w'.cell? ⟨w2.heap.size, 6, none⟩ = some (.int .u64 f.x)) (go_keep) ((go_at_call 33; (with_reducible refine (CS.out _).mono ?_); rintro _ w30 ⟨rfl, h30⟩; have uw30 : Up w6 w30 := Up.trans (by first | with_reducible assumption | exact (Up.refl w6).drewN 1) h30; have cc0 := cell_up_ uw30 C0; have cc1 := cell_up_ uw30 C1; have cc2 := cell_up_ uw30 C2; have cc3 := cell_up_ uw30 C3; have cc4 := cell_up_ uw30 C4; have cc5 := cell_up_ uw30 C5; have cc6 := cell_up_ uw30 C6))
        clear C0 cc0 C1 cc1 C2 cc2 C3 cc3 C4 cc4 C5 cc5 C6 cc6
        go_wp2_with fail
        go_ret
        exact ⟨by first | rfl | exact ret_int SF1, U.trans uw30⟩
end Go.Proofs.YtlogglhonlannaaGreatDoor
