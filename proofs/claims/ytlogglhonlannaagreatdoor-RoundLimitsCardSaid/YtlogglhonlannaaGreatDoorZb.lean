/-
  The reference of layer 8: Nearest.
-/
import Derived.Test.YtlogglhonlannaaGreatDoorZa
namespace Go.Proofs.YtlogglhonlannaaGreatDoor
open Go.RowKit
set_option linter.unusedSimpArgs false
set_option linter.unusedVariables false

set_option maxHeartbeats 1000000 in
set_option maxRecDepth 100000 in
theorem rnearest8_any (w : World) (i : Nat) (f : M.Fm) (hf : Hid (M.tb i = f)) (i1 : 1 ≤ i) (i2 : i ≤ 14) (sg : Bool) (h4 : ¬ (f.k = 4 ∧ sg = true)) (lo s : Nat) (neg : Bool) (v : Value) (t g : Int) (a : Nat) (h : Nt w lo s v a) (hs : s ≤ 100000) (bt : -5000 ≤ t ∧ t ≤ 5000) (bg : -5000 ≤ g ∧ g ≤ 5000) (q k : Nat) (o : Bool) (hq : M.mst f sg = q) (hn : M.Nr f q (M.sz a t g) k o) : Calls Tryz.prog 11 #[.int .i64 (i : Int), .bool sg, xv neg v t g] w (Kx k o w) := by
  have ok := M.ok i i1 i2
  have ok2 := M.ok2 i i1 i2
  have ok3 := M.ok3 i i1 i2
  have CM := Lib.hid (fun W => rmost_any W (i : Int) sg (q : Int) 0 (.inr ⟨i, rfl, i1, i2, .inr ⟨by rw [hf.out]; exact h4, by rw [hf.out]; exact hq.symm, rfl⟩⟩))
  rw [hf.out] at ok ok2 ok3
  obtain ⟨q', hq', q3, qb, qt⟩ := M.mst_rng ok ok2 ok3 sg
  obtain rfl : q = q' := by omega
  have X0 : M.sz a t g = 0 ↔ a = 0 := M.sz_zero
  have CA := Lib.hid (fun W (U : Up w W) (j : Nat) (hj : j ≤ q) (r : Bool) (hr : Hid (r = true ↔ ¬ M.Byd f (M.sz a t g) j)) => rahead_any W i f hf i1 i2 j (by omega) (by omega) lo s neg v t g a (h.up U) hs bt bg r hr)
  have CZ := Lib.hid (fun W (U : Up w W) (r : Bool) (hr : Hid (decide (a = 0) = r)) => rnone_any W lo s neg v t g a (h.up U) r hr)
  have CF := Lib.hid (fun W => rof_in W i f hf i1 i2)
  obtain ⟨X, hX⟩ : ∃ X, M.sz a t g = X := ⟨_, rfl⟩
  rw [hX] at hn CA X0
  clear hX h hs bt bg hf h4 hq hq'
  by_cases hb : M.Byd f X q
  ·
    obtain ⟨rfl, rfl⟩ := M.nr_uniq ok ok2 ok3 qt hn (.inl ⟨rfl, rfl, hb⟩)
    have CA1 := Lib.hid (fun W U => CA.out W U k (Nat.le_refl _) false ⟨fun e => (by cases e), fun e => absurd hb e⟩)
    clear CA CZ CF hn hb X0 ok ok2 ok3 qt
    have U := Up.refl w
    go_enter Tryz.func11, Tryz.ntmps11
    go_wp2_with fail
    obtain ⟨V1, hV1⟩ : ∃ V1, w.alloc (.cells #[.bool neg, v, .int .i64 t, .int .i64 g] 25) = V1 := ⟨_, rfl⟩
    have B : Ob V1 w.heap.size 25 #[.bool neg, v, .int .i64 t, .int .i64 g] := by rw [← hV1]; exact Ob.mk_ _ _ _
    have uV1 : Up w V1 := by rw [← hV1]; exact (Up.refl _).alloc _
    have ltB : w.heap.size ≤ w.heap.size := U.size
    rw [hV1]
    clear hV1
    replace U := U.trans uV1
    clear uV1
    refine (CM.out _).mono ?_
    rintro _ w2 ⟨rfl, h2⟩
    replace U := U.trans h2
    replace B := B.up h2
    clear h2
    have B0 := B.get 0
    have B1 := B.get 1
    have B2 := B.get 2
    have B3 := B.get 3
    have Bf0 := B.fr 0
    have Bf1 := B.fr 1
    have Bf2 := B.fr 2
    have Bf3 := B.fr 3
    have Bl := B.lt
    simp only [List.getElem?_toArray, List.getElem?_cons_zero, List.getElem?_cons_succ] at B0 B1 B2 B3
    go_wp2_with fail
    clear B0 Bf0 B1 Bf1 B2 Bf2 B3 Bf3 Bl
    refine (CA1.out _ U).mono ?_
    rintro _ w3 ⟨rfl, h3⟩
    replace U := U.trans h3
    replace B := B.up h3
    clear h3
    go_wp2_with fail
    go_ret2
    exact ⟨rfl, U⟩
  ·
    obtain ⟨j, jq, jb, jl⟩ := M.least hb
    obtain ⟨hk, rfl⟩ := M.nr_uniq ok ok2 ok3 qt hn (M.least_nr (by omega) ok ok2 ok3 qt jq jb jl)
    have HB : Hid (∀ i, i ≤ q → (¬ M.Byd f X i ↔ j ≤ i)) := fun i h1 => by
      constructor
      · intro h3
        rcases Nat.lt_or_ge i j with e | e
        · exact absurd (jl i e) h3
        · exact e
      · exact fun h2 h3 => jb (M.byd_down ok ok2 ok3 (by omega) h2 h3)
    have CA1 := Lib.hid (fun W U => CA.out W U q (Nat.le_refl _) true ⟨fun _ => hb, fun _ => rfl⟩)
    have HK := Lib.hid hk
    have HX := Lib.hid X0
    clear hn hb jb jl ok ok2 ok3 qt hk X0
    have U := Up.refl w
    go_enter Tryz.func11, Tryz.ntmps11
    go_wp2_with fail
    obtain ⟨V1, hV1⟩ : ∃ V1, w.alloc (.cells #[.bool neg, v, .int .i64 t, .int .i64 g] 25) = V1 := ⟨_, rfl⟩
    have B : Ob V1 w.heap.size 25 #[.bool neg, v, .int .i64 t, .int .i64 g] := by rw [← hV1]; exact Ob.mk_ _ _ _
    have uV1 : Up w V1 := by rw [← hV1]; exact (Up.refl _).alloc _
    have ltB : w.heap.size ≤ w.heap.size := U.size
    rw [hV1]
    clear hV1
    replace U := U.trans uV1
    clear uV1
    refine (CM.out _).mono ?_
    rintro _ w2 ⟨rfl, h2⟩
    replace U := U.trans h2
    replace B := B.up h2
    clear h2
    have B0 := B.get 0
    have B1 := B.get 1
    have B2 := B.get 2
    have B3 := B.get 3
    have Bf0 := B.fr 0
    have Bf1 := B.fr 1
    have Bf2 := B.fr 2
    have Bf3 := B.fr 3
    have Bl := B.lt
    simp only [List.getElem?_toArray, List.getElem?_cons_zero, List.getElem?_cons_succ] at B0 B1 B2 B3
    go_wp2_with fail
    clear B0 Bf0 B1 Bf1 B2 Bf2 B3 Bf3 Bl
    refine (CA1.out _ U).mono ?_
    rintro _ w3 ⟨rfl, h3⟩
    replace U := U.trans h3
    replace B := B.up h3
    clear h3
    go_wp2_with fail
    go_loopw [11, 12] (fun lv hv wr => ∃ l1 h1 : Nat, lv = u64 l1 ∧ hv = u64 h1 ∧ l1 ≤ j ∧ j ≤ h1 ∧ h1 ≤ q ∧ Up w wr ∧ Ob wr w.heap.size 25 #[.bool neg, v, .int .i64 t, .int .i64 g]) (fun lv hv _ => (intOf hv).toNat - (intOf lv).toNat)
    case atStart => exact ⟨0, q, rfl, rfl, Nat.zero_le _, jq, Nat.le_refl _, U, B⟩
    case round =>
      obtain ⟨l1, h1, rfl, rfl, b2, b3, b4, U, B⟩ := hrel
      by_cases c : l1 = h1
      · subst c
        obtain rfl : j = l1 := by omega
        clear HB b2 b3 b4 CA CA1
        rcases (show (f.k = 1 ∧ j = 0 ∧ X = 0) ∨ (f.k = 1 ∧ j = 0 ∧ X ≠ 0) ∨ (f.k = 1 ∧ j ≠ 0) ∨ f.k ≠ 1 by omega) with c | c | c | c
        ·
          obtain ⟨c1, rfl, c3⟩ := c
          obtain rfl : k = 0 := by rw [HK.out, if_neg (fun e => e.2.2 c3)]
          have d1 : (f.k == 1) = true := by simpa using c1
          have CZ1 := Lib.hid (fun W U => CZ.out W U true (decide_eq_true (HX.out.1 c3)))
          clear CZ HK c1 c3 HX
          go_wp2_with fail
          refine (CF.out _).mono ?_
          rintro _ w4 ⟨rfl, h4⟩
          replace U := U.trans h4
          replace B := B.up h4
          clear h4
          have B0 := B.get 0
          have B1 := B.get 1
          have B2 := B.get 2
          have B3 := B.get 3
          have Bf0 := B.fr 0
          have Bf1 := B.fr 1
          have Bf2 := B.fr 2
          have Bf3 := B.fr 3
          have Bl := B.lt
          simp only [List.getElem?_toArray, List.getElem?_cons_zero, List.getElem?_cons_succ] at B0 B1 B2 B3
          go_wp2_with fail
          clear B0 Bf0 B1 Bf1 B2 Bf2 B3 Bf3 Bl
          obtain ⟨V5, hV5⟩ : ∃ V5, w4.alloc (.cells #[.int .i64 f.k, .int .i64 f.W, .int .i64 f.m, .int .i64 f.b, .int .u64 f.t, .int .u64 f.n, .int .u64 f.x] 35) = V5 := ⟨_, rfl⟩
          have C : Bf V5 w4.heap.size 35 f := by rw [← hV5]; exact Bf.mk_ w4 f 35
          have ltC : w.heap.size ≤ w4.heap.size := U.size
          have uV5 : Up w4 V5 := by rw [← hV5]; exact (Up.refl _).alloc _
          rw [hV5]
          clear hV5
          replace U := U.trans uV5
          replace B := B.up uV5
          clear uV5
          refine (CZ1.out _ U).mono ?_
          rintro _ w6 ⟨rfl, h6⟩
          replace U := U.trans h6
          replace C := C.up h6
          replace B := B.up h6
          clear h6
          obtain ⟨C0, C1, C2, C3, C4, C5, C6⟩ := Bf.cs C
          have C7 := Bf.lt C
          simp only [Nat.zero_add] at C0 C1 C2 C3 C4 C5 C6 C7
          go_wp2_with fail
          clear C0 C1 C2 C3 C4 C5 C6 C7
          go_ret2
          exact ⟨rfl, U⟩
        ·
          obtain ⟨c1, rfl, c3⟩ := c
          obtain rfl : k = 1 := by rw [HK.out, if_pos ⟨c1, rfl, c3⟩]
          have d1 : (f.k == 1) = true := by simpa using c1
          have CZ1 := Lib.hid (fun W U => CZ.out W U false (decide_eq_false (fun e => c3 (HX.out.2 e))))
          clear CZ HK c1 c3 HX
          go_wp2_with fail
          refine (CF.out _).mono ?_
          rintro _ w4 ⟨rfl, h4⟩
          replace U := U.trans h4
          replace B := B.up h4
          clear h4
          have B0 := B.get 0
          have B1 := B.get 1
          have B2 := B.get 2
          have B3 := B.get 3
          have Bf0 := B.fr 0
          have Bf1 := B.fr 1
          have Bf2 := B.fr 2
          have Bf3 := B.fr 3
          have Bl := B.lt
          simp only [List.getElem?_toArray, List.getElem?_cons_zero, List.getElem?_cons_succ] at B0 B1 B2 B3
          go_wp2_with fail
          clear B0 Bf0 B1 Bf1 B2 Bf2 B3 Bf3 Bl
          obtain ⟨V5, hV5⟩ : ∃ V5, w4.alloc (.cells #[.int .i64 f.k, .int .i64 f.W, .int .i64 f.m, .int .i64 f.b, .int .u64 f.t, .int .u64 f.n, .int .u64 f.x] 35) = V5 := ⟨_, rfl⟩
          have C : Bf V5 w4.heap.size 35 f := by rw [← hV5]; exact Bf.mk_ w4 f 35
          have ltC : w.heap.size ≤ w4.heap.size := U.size
          have uV5 : Up w4 V5 := by rw [← hV5]; exact (Up.refl _).alloc _
          rw [hV5]
          clear hV5
          replace U := U.trans uV5
          replace B := B.up uV5
          clear uV5
          refine (CZ1.out _ U).mono ?_
          rintro _ w6 ⟨rfl, h6⟩
          replace U := U.trans h6
          replace C := C.up h6
          replace B := B.up h6
          clear h6
          obtain ⟨C0, C1, C2, C3, C4, C5, C6⟩ := Bf.cs C
          have C7 := Bf.lt C
          simp only [Nat.zero_add] at C0 C1 C2 C3 C4 C5 C6 C7
          go_wp2_with fail
          clear C0 C1 C2 C3 C4 C5 C6 C7
          go_ret2
          exact ⟨rfl, U⟩
        ·
          obtain ⟨c1, c2⟩ := c
          obtain rfl : k = j := by rw [HK.out, if_neg (fun e => c2 e.2.1)]
          have d1 : (f.k == 1) = true := by simpa using c1
          have d2 : ((k : Int) == 0) = false := by rw [beq_eq_false_iff_ne]; omega
          obtain ⟨r, hr⟩ : ∃ r, decide (a = 0) = r := ⟨_, rfl⟩
          have CZ1 := Lib.hid (fun W U => CZ.out W U r hr)
          clear CZ HK c1 c2 HX hr
          go_wp2_with fail
          refine (CF.out _).mono ?_
          rintro _ w4 ⟨rfl, h4⟩
          replace U := U.trans h4
          replace B := B.up h4
          clear h4
          have B0 := B.get 0
          have B1 := B.get 1
          have B2 := B.get 2
          have B3 := B.get 3
          have Bf0 := B.fr 0
          have Bf1 := B.fr 1
          have Bf2 := B.fr 2
          have Bf3 := B.fr 3
          have Bl := B.lt
          simp only [List.getElem?_toArray, List.getElem?_cons_zero, List.getElem?_cons_succ] at B0 B1 B2 B3
          go_wp2_with fail
          clear B0 Bf0 B1 Bf1 B2 Bf2 B3 Bf3 Bl
          obtain ⟨V5, hV5⟩ : ∃ V5, w4.alloc (.cells #[.int .i64 f.k, .int .i64 f.W, .int .i64 f.m, .int .i64 f.b, .int .u64 f.t, .int .u64 f.n, .int .u64 f.x] 35) = V5 := ⟨_, rfl⟩
          have C : Bf V5 w4.heap.size 35 f := by rw [← hV5]; exact Bf.mk_ w4 f 35
          have ltC : w.heap.size ≤ w4.heap.size := U.size
          have uV5 : Up w4 V5 := by rw [← hV5]; exact (Up.refl _).alloc _
          rw [hV5]
          clear hV5
          replace U := U.trans uV5
          replace B := B.up uV5
          clear uV5
          refine (CZ1.out _ U).mono ?_
          rintro _ w6 ⟨rfl, h6⟩
          replace U := U.trans h6
          replace C := C.up h6
          replace B := B.up h6
          clear h6
          obtain ⟨C0, C1, C2, C3, C4, C5, C6⟩ := Bf.cs C
          have C7 := Bf.lt C
          simp only [Nat.zero_add] at C0 C1 C2 C3 C4 C5 C6 C7
          go_wp2_with fail
          clear C0 C1 C2 C3 C4 C5 C6 C7
          go_ret2
          exact ⟨rfl, U⟩
        ·
          obtain rfl : k = j := by rw [HK.out, if_neg (fun e => c e.1)]
          have d1 : (f.k == 1) = false := by simpa using c
          obtain ⟨r, hr⟩ : ∃ r, decide (a = 0) = r := ⟨_, rfl⟩
          have CZ1 := Lib.hid (fun W U => CZ.out W U r hr)
          clear CZ HK c HX hr
          go_wp2_with fail
          refine (CF.out _).mono ?_
          rintro _ w4 ⟨rfl, h4⟩
          replace U := U.trans h4
          replace B := B.up h4
          clear h4
          have B0 := B.get 0
          have B1 := B.get 1
          have B2 := B.get 2
          have B3 := B.get 3
          have Bf0 := B.fr 0
          have Bf1 := B.fr 1
          have Bf2 := B.fr 2
          have Bf3 := B.fr 3
          have Bl := B.lt
          simp only [List.getElem?_toArray, List.getElem?_cons_zero, List.getElem?_cons_succ] at B0 B1 B2 B3
          go_wp2_with fail
          clear B0 Bf0 B1 Bf1 B2 Bf2 B3 Bf3 Bl
          obtain ⟨V5, hV5⟩ : ∃ V5, w4.alloc (.cells #[.int .i64 f.k, .int .i64 f.W, .int .i64 f.m, .int .i64 f.b, .int .u64 f.t, .int .u64 f.n, .int .u64 f.x] 35) = V5 := ⟨_, rfl⟩
          have C : Bf V5 w4.heap.size 35 f := by rw [← hV5]; exact Bf.mk_ w4 f 35
          have ltC : w.heap.size ≤ w4.heap.size := U.size
          have uV5 : Up w4 V5 := by rw [← hV5]; exact (Up.refl _).alloc _
          rw [hV5]
          clear hV5
          replace U := U.trans uV5
          replace B := B.up uV5
          clear uV5
          refine (CZ1.out _ U).mono ?_
          rintro _ w6 ⟨rfl, h6⟩
          replace U := U.trans h6
          replace C := C.up h6
          replace B := B.up h6
          clear h6
          obtain ⟨C0, C1, C2, C3, C4, C5, C6⟩ := Bf.cs C
          have C7 := Bf.lt C
          simp only [Nat.zero_add] at C0 C1 C2 C3 C4 C5 C6 C7
          go_wp2_with fail
          clear C0 C1 C2 C3 C4 C5 C6 C7
          go_ret2
          exact ⟨rfl, U⟩
      · have hlt : l1 < h1 := by omega
        obtain ⟨D, hD⟩ : ∃ D, h1 - l1 = D := ⟨_, rfl⟩
        obtain ⟨E, hE⟩ : ∃ E, D / 2 = E := ⟨_, rfl⟩
        obtain ⟨md, hmd⟩ : ∃ md, l1 + E = md := ⟨_, rfl⟩
        have e1 : IntKind.u64.wrap ((h1 : Int) - (l1 : Int)) = (D : Int) := wrap_u64 (by omega) (by omega)
        have e2 : (D : Int).tdiv 2 = (E : Int) := by rw [Int.tdiv_eq_ediv_of_nonneg (by omega)]; omega
        have e5 : IntKind.u64.wrap (E : Int) = (E : Int) := wrap_u64 rfl (by omega)
        have e3 : IntKind.u64.wrap ((l1 : Int) + (E : Int)) = (md : Int) := wrap_u64 (by omega) (by omega)
        have e4 : IntKind.u64.wrap ((md : Int) + 1) = ((md + 1 : Nat) : Int) := wrap_u64 (by omega) (by omega)
        have m1 : l1 ≤ md ∧ md < h1 := by omega
        have mb : md < 18446744073709551616 := by omega
        obtain ⟨r, hr⟩ : ∃ r, decide (j ≤ md) = r := ⟨_, rfl⟩
        have CB1 := Lib.hid (fun W (U : Up w W) => CA.out W U md (by omega) r (by show _ ↔ _; rw [HB.out md (by omega), ← hr, decide_eq_true_iff]))
        clear hD hE hmd c
        have B0 := B.get 0
        have B1 := B.get 1
        have B2 := B.get 2
        have B3 := B.get 3
        have Bf0 := B.fr 0
        have Bf1 := B.fr 1
        have Bf2 := B.fr 2
        have Bf3 := B.fr 3
        have Bl := B.lt
        simp only [List.getElem?_toArray, List.getElem?_cons_zero, List.getElem?_cons_succ] at B0 B1 B2 B3
        go_wp2_with fail
        clear B0 Bf0 B1 Bf1 B2 Bf2 B3 Bf3 Bl
        refine (CB1.out _ U).mono ?_
        rintro _ w4 ⟨rfl, h4⟩
        replace U := U.trans h4
        replace B := B.up h4
        clear h4
        cases r
        ·
          have hr2 : ¬ j ≤ md := of_decide_eq_false hr
          clear hr CB1
          go_wp2_with fail
          go_roundw
          case rel => exact ⟨md + 1, h1, by first | rfl | (rw [e4]), rfl, by omega, by omega, by omega, U, B⟩
          case measure => simp [intOf]; omega
        ·
          have hr2 : j ≤ md := of_decide_eq_true hr
          clear hr CB1
          go_wp2_with fail
          go_roundw
          case rel => exact ⟨l1, md, rfl, rfl, by omega, by omega, by omega, U, B⟩
          case measure => simp [intOf]; omega
end Go.Proofs.YtlogglhonlannaaGreatDoor
