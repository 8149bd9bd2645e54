/-
  ValueSpecials.
-/
import Derived.Test.YtjcbncfpcechnaaDoorVh
import Derived.Test.YtjcbncfpcechnaaDoorVo
import Derived.BigQuiet
import Derived.Deep.RegionHeld3
namespace Go.Proofs.YtjcbncfpcechnaaDoor
open Go.RowKit
set_option linter.unusedSimpArgs false
set_option linter.unusedVariables false

namespace M
/-- The infinite one is above all numbers. -/
theorem inf_top (i : Nat) (a : 1 ≤ i) (b : i ≤ 14) : (tb i).k = 2 → (tb i).n ≠ 0 → (tb i).t < (tb i).n := by
  refine all14 (p := fun i => (tb i).k = 2 → (tb i).n ≠ 0 → (tb i).t < (tb i).n) ?_ ?_ ?_ ?_ ?_ ?_ ?_ ?_ ?_ ?_ ?_ ?_ ?_ ?_ i a b <;> decide
theorem mod_half {f : Fm} (ok : Ok f) {p : Int} (p1 : 0 ≤ p) (p2' : p ≤ msk f) : p % half f = if half f ≤ p then p - half f else p := by
  have hm := ok.hm
  by_cases c : half f ≤ p
  · rw [if_pos c]
    conv => lhs; rw [show p = (p - half f) + half f * 1 by omega, Int.add_mul_emod_self_left]
    exact Int.emod_eq_of_lt (by omega) (by omega)
  · rw [if_neg c]
    exact Int.emod_eq_of_lt p1 (by omega)
/-- What is no number, by what Canon has of it, and by what is left without the sign. -/
theorem dv_spec {i : Nat} {f : Fm} (a : 1 ≤ i) (b : i ≤ 14) (hf : tb i = f) {p c : Int} {g : Bool} {m : Nat} {z r y : Int} (p1 : 0 ≤ p) (p2' : p ≤ msk f) (hr : (if half f ≤ p then p - half f else p) = r) (hy : cn i p = y) (h : Dv f p c g m z) :
    (c ≠ 2 → m = 0 ∧ z = 0) ∧ (f.n = 0 ∨ f.k = 2) ∧
    ((c = 4 ∧ f.x ≠ 0 ∧ y = f.x ∧ (f.n = 0 ∨ r ≠ f.n)) ∨ (c = 3 ∧ (f.x = 0 ∨ y ≠ f.x) ∧ f.n ≠ 0 ∧ r = f.n) ∨ ((c = 1 ∨ c = 2) ∧ (f.x = 0 ∨ y ≠ f.x) ∧ (f.n = 0 ∨ r ≠ f.n))) := by
  have ok := ok i a b
  have ok2 := ok2 i a b
  have h3 := inf_top i a b
  have hmod := fun p1 p2' => mod_half (f := tb i) ok (p := p) p1 p2'
  unfold cn at hy
  rw [hf] at ok ok2 h3 hmod hy
  rw [hmod p1 p2', hr] at hy
  have hm := ok.hm
  have ht := ok.t
  have o2 := ok.two
  have o1 := ok2.inf
  have o3 := ok2.tri
  have o4 := ok2.four
  have hn : f.n = 0 ∨ f.k = 2 := by
    rcases ok.k with e | e | e | e
    · exact .inl (o1 e)
    · exact .inr e
    · exact .inl (o3 e).2.2.2.2
    · exact .inl (o4 e).2.2.2.2
  have hc2 : c ≠ 2 → m = 0 ∧ z = 0 := by
    intro hc
    rcases h with ⟨_, _, _, h⟩ | ⟨_, _, _, h⟩ | ⟨_, _, _, h⟩ | ⟨_, rfl, _⟩
    · exact h
    · exact h
    · exact h
    · exact absurd rfl hc
  refine ⟨hc2, hn, ?_⟩
  have hcl : cls f p = c := by
    rcases h with ⟨h, rfl, _⟩ | ⟨h, rfl, _⟩ | ⟨h, rfl, _⟩ | ⟨h, rfl, _⟩ <;> exact h
  by_cases hk : f.k = 2
  · have o2' := o2 hk
    have r0 : 0 ≤ r ∧ r < half f ∧ (p < half f → r = p) := by
      rw [← hr]
      split <;> omega
    have hky : kyf f p = r := by
      have hg := ngs_is ok (by omega) p
      rw [← hr]
      by_cases c : half f ≤ p
      · rw [if_pos c, kyf_two ok hk (by rw [hg]; exact decide_eq_true c)]
      · rw [if_neg c, kyf_pos (by rw [hg]; exact decide_eq_false c)]
    rw [cls_two_ hk, hky] at hcl
    unfold bey at hy
    by_cases c1 : f.t < r
    · rw [if_pos c1] at hcl
      by_cases c2 : r = f.n
      · rw [if_pos c2] at hcl
        rw [if_neg (by simp [c2])] at hy
        exact .inr (.inl ⟨hcl.symm, by omega, by omega, c2⟩)
      · rw [if_neg c2] at hcl
        rw [if_pos ⟨hk, by simp [c1, c2]⟩] at hy
        exact .inl ⟨hcl.symm, by omega, hy.symm, .inr c2⟩
    · rw [if_neg c1] at hcl
      rw [if_neg (by simp [c1])] at hy
      refine .inr (.inr ⟨?_, by omega, ?_⟩)
      · split at hcl <;> omega
      · by_cases n0 : f.n = 0
        · exact .inl n0
        · have := h3 hk n0
          exact .inr (by omega)
  · have n0 : f.n = 0 := by omega
    rw [if_neg (fun e => hk e.1)] at hy
    unfold cls at hcl
    rw [if_neg (fun e => hk e.1)] at hcl
    by_cases c1 : f.x ≠ 0 ∧ p = f.x
    · rw [if_pos ⟨hk, c1⟩] at hcl
      exact .inl ⟨hcl.symm, c1.1, by omega, .inl n0⟩
    · rw [if_neg (fun e => c1 e.2)] at hcl
      refine .inr (.inr ⟨?_, by omega, .inl n0⟩)
      split at hcl <;> omega
end M
set_option maxHeartbeats 4000000 in
set_option maxRecDepth 100000 in
theorem vspecials_walk (w : World) (TT : Hid (Tz w)) (TF : Hid (TabF w)) (x0 : Int) (_wx0 : (Lit.int .i64 x0).wf = true) (x1 : Int) (wx1 : (Lit.int .u64 x1).wf = true) : Calls Tryd.prog 8 #[.int .i64 x0, .int .u64 x1] w (True7 w) := by
  obtain ⟨p, rfl, hp⟩ := nat_u6 wx1
  clear wx1
  obtain ⟨c, gg, m, z, x, h⟩ := M.dc_ex x0 p
  have CD := Lib.hid (fun W (T : Tz W) (F : TabF W) => vdecode_any W (Lib.hid T) (Lib.hid F) x0 p hp c gg m z x h)
  have hx : (x ≠ 0 ∧ c = 0 ∧ gg = false ∧ m = 0 ∧ z = 0) ∨ (x = 0 ∧ ∃ i : Nat, x0 = i ∧ 1 ≤ i ∧ i ≤ 14 ∧ (p : Int) ≤ M.msk (M.tb i) ∧ M.Dv (M.tb i) p c gg m z) := by
    rcases h with ⟨h, rfl, rfl, rfl, rfl, rfl⟩ | ⟨i, rfl, a, b, ⟨h, rfl, rfl, rfl, rfl, rfl⟩ | ⟨h1, h, rfl⟩⟩
    · exact .inl ⟨by decide, rfl, rfl, rfl, rfl⟩
    · exact .inl ⟨by decide, rfl, rfl, rfl, rfl⟩
    · exact .inr ⟨rfl, i, rfl, a, b, h1, h⟩
  clear h
  rcases hx with ⟨hx, rfl, rfl, rfl, rfl⟩ | ⟨rfl, i, rfl, a, b, h1, h⟩
  ·
    have d1 : (x != 0) = true := by simpa using hx
    clear hx
    have U := Up.refl w
    go_enter Tryd.func8, Tryd.ntmps8
    go_wp2_with fail
    refine (vshown_any _ (Lib.hid (TT.out.up U)) (Lib.hid (TF.out.up U))).mono ?_
    rintro _ w1 ⟨rfl, h1⟩
    replace U := U.trans h1
    clear h1
    go_wp2_with fail
    refine (CD.out _ (TT.out.up U) (TF.out.up U)).mono ?_
    rintro _ w2 ⟨rfl, h2⟩
    replace U := U.trans h2
    clear h2
    go_wp2_with fail
    go_ret
    exact ⟨by first | rfl | simp, by first | exact U | exact U.alloc _⟩
  ·
    obtain ⟨y, hy⟩ : ∃ y, M.cn i p = y := ⟨_, rfl⟩
    have CC := Lib.hid (fun W (F : TabF W) => canon_in W F i a b p (by omega) (by omega) h1 y (Lib.hid hy))
    have ok := M.ok i a b
    obtain ⟨f, hf⟩ : ∃ f, M.tb i = f := ⟨_, rfl⟩
    rw [hf] at ok h1 h
    have CO := Lib.hid (fun W (F : TabF W) => of_in W F i f (Lib.hid hf) a b)
    obtain ⟨r, hr⟩ : ∃ r, (if M.half f ≤ (p : Int) then (p : Int) - M.half f else (p : Int)) = r := ⟨_, rfl⟩
    have SP := M.dv_spec a b hf (p := p) (by omega) h1 hr hy h
    obtain ⟨S, hS⟩ : ∃ z, M.sgn f = z := ⟨_, rfl⟩
    have CS := Lib.hid (fun W => sign_any W f ok S (Lib.hid hS))
    have hb : f.k ≠ 4 → bits BinOp.andNot IntKind.u64 (p : Int) S = r := fun h4 => by
      have h5 := M.andNot_half ok (p := p) (by omega) h1
      rw [hr, ← ((M.sgn_ok ok).2 h4).1, hS] at h5
      exact h5
    obtain ⟨hm, hn, SP⟩ := SP
    clear h h1 ok hf hr hy hS a b
    have NN : (f.n != 0) = false ∨ ((f.n != 0) = true ∧ bits BinOp.andNot IntKind.u64 (p : Int) S = r) := by
      by_cases n0 : f.n = 0
      · exact .inl (by simp [n0])
      · exact .inr ⟨by simpa using n0, hb (by omega)⟩
    clear hb hn
    rcases SP with ⟨rfl, x0, yx, hN⟩ | ⟨rfl, hX, n0, rn⟩ | ⟨hc, hX, hN⟩
    ·
      obtain ⟨rfl, rfl⟩ := hm (by decide)
      have d1 : (f.x != 0) = true := by simpa using x0
      have d2 : (y == f.x) = true := by simpa using yx
      rcases NN with n1 | ⟨n1, hb⟩
      ·
        clear x0 yx hN hm
        have U := Up.refl w
        go_enter Tryd.func8, Tryd.ntmps8
        go_wp2_with fail
        refine (vshown_any _ (Lib.hid (TT.out.up U)) (Lib.hid (TF.out.up U))).mono ?_
        rintro _ w1 ⟨rfl, h1⟩
        replace U := U.trans h1
        clear h1
        go_wp2_with fail
        refine (CD.out _ (TT.out.up U) (TF.out.up U)).mono ?_
        rintro _ w2 ⟨rfl, h2⟩
        replace U := U.trans h2
        clear h2
        go_wp2_with fail
        obtain ⟨V3, hV3⟩ : ∃ V3, w2.alloc (.cells #[.int .i64 4, .bool gg, .int .u64 0, .int .i64 0] 25) = V3 := ⟨_, rfl⟩
        have Y : Ob V3 w2.heap.size 25 #[.int .i64 4, .bool gg, .int .u64 0, .int .i64 0] := by rw [← hV3]; exact Ob.mk_ _ _ _
        have uV3 : Up w2 V3 := by rw [← hV3]; exact (Up.refl _).alloc _
        have ltY : w.heap.size ≤ w2.heap.size := U.size
        rw [hV3]
        clear hV3
        replace U := U.trans uV3
        clear uV3
        refine (CO.out _ (TF.out.up U)).mono ?_
        rintro _ w4 ⟨rfl, h4⟩
        replace U := U.trans h4
        replace Y := Y.up h4
        clear h4
        go_wp2_with fail
        obtain ⟨V5, hV5⟩ : ∃ V5, w4.alloc (.cells #[.int .i64 f.k, .int .i64 f.W, .int .i64 f.m, .int .i64 f.b, .int .u64 f.t, .int .u64 f.n, .int .u64 f.x] 40) = V5 := ⟨_, rfl⟩
        have C : Bf V5 w4.heap.size 40 f := by rw [← hV5]; exact Bf.mk_ w4 f 40
        have ltC : w.heap.size ≤ w4.heap.size := U.size
        have uV5 : Up w4 V5 := by rw [← hV5]; exact (Up.refl _).alloc _
        rw [hV5]
        clear hV5
        replace U := U.trans uV5
        replace Y := Y.up uV5
        clear uV5
        refine (CC.out _ (TF.out.up U)).mono ?_
        rintro _ w6 ⟨rfl, h6⟩
        replace U := U.trans h6
        replace C := C.up h6
        replace Y := Y.up h6
        clear h6
        obtain ⟨C0, C1, C2, C3, C4, C5, C6⟩ := Bf.cs C
        have C7 := Bf.lt C
        simp only [Nat.zero_add] at C0 C1 C2 C3 C4 C5 C6 C7
        have Y0 := Y.get 0
        have Y1 := Y.get 1
        have Y2 := Y.get 2
        have Y3 := Y.get 3
        have Yf0 := Y.fr 0
        have Yf1 := Y.fr 1
        have Yf2 := Y.fr 2
        have Yf3 := Y.fr 3
        have Yl := Y.lt
        simp only [List.getElem?_toArray, List.getElem?_cons_zero, List.getElem?_cons_succ] at Y0 Y1 Y2 Y3
        go_upto_region 8 with fail
        go_quiet (fail)
        go_wp2_with fail
        go_ret
        exact ⟨by first | rfl | simp, by first | exact U | exact U.drewN _⟩
      ·
        have d3 : (r == f.n) = false := by
          have h7 : f.n ≠ 0 := by simpa using n1
          have h8 : r ≠ f.n := by omega
          simpa using h8
        clear x0 yx hN hm
        have U := Up.refl w
        go_enter Tryd.func8, Tryd.ntmps8
        go_wp2_with fail
        refine (vshown_any _ (Lib.hid (TT.out.up U)) (Lib.hid (TF.out.up U))).mono ?_
        rintro _ w1 ⟨rfl, h1⟩
        replace U := U.trans h1
        clear h1
        go_wp2_with fail
        refine (CD.out _ (TT.out.up U) (TF.out.up U)).mono ?_
        rintro _ w2 ⟨rfl, h2⟩
        replace U := U.trans h2
        clear h2
        go_wp2_with fail
        obtain ⟨V3, hV3⟩ : ∃ V3, w2.alloc (.cells #[.int .i64 4, .bool gg, .int .u64 0, .int .i64 0] 25) = V3 := ⟨_, rfl⟩
        have Y : Ob V3 w2.heap.size 25 #[.int .i64 4, .bool gg, .int .u64 0, .int .i64 0] := by rw [← hV3]; exact Ob.mk_ _ _ _
        have uV3 : Up w2 V3 := by rw [← hV3]; exact (Up.refl _).alloc _
        have ltY : w.heap.size ≤ w2.heap.size := U.size
        rw [hV3]
        clear hV3
        replace U := U.trans uV3
        clear uV3
        refine (CO.out _ (TF.out.up U)).mono ?_
        rintro _ w4 ⟨rfl, h4⟩
        replace U := U.trans h4
        replace Y := Y.up h4
        clear h4
        go_wp2_with fail
        obtain ⟨V5, hV5⟩ : ∃ V5, w4.alloc (.cells #[.int .i64 f.k, .int .i64 f.W, .int .i64 f.m, .int .i64 f.b, .int .u64 f.t, .int .u64 f.n, .int .u64 f.x] 40) = V5 := ⟨_, rfl⟩
        have C : Bf V5 w4.heap.size 40 f := by rw [← hV5]; exact Bf.mk_ w4 f 40
        have ltC : w.heap.size ≤ w4.heap.size := U.size
        have uV5 : Up w4 V5 := by rw [← hV5]; exact (Up.refl _).alloc _
        rw [hV5]
        clear hV5
        replace U := U.trans uV5
        replace Y := Y.up uV5
        clear uV5
        refine (CC.out _ (TF.out.up U)).mono ?_
        rintro _ w6 ⟨rfl, h6⟩
        replace U := U.trans h6
        replace C := C.up h6
        replace Y := Y.up h6
        clear h6
        obtain ⟨C0, C1, C2, C3, C4, C5, C6⟩ := Bf.cs C
        have C7 := Bf.lt C
        simp only [Nat.zero_add] at C0 C1 C2 C3 C4 C5 C6 C7
        go_upto_region 8 with fail
        go_region_held3 (fun w' => w'.cell? ⟨w4.heap.size, 0, none⟩ = some (.int .i64 f.k) ∧ w'.cell? ⟨w4.heap.size, 1, none⟩ = some (.int .i64 f.W) ∧ w'.cell? ⟨w4.heap.size, 2, none⟩ = some (.int .i64 f.m) ∧ w'.cell? ⟨w4.heap.size, 3, none⟩ = some (.int .i64 f.b) ∧ w'.cell? ⟨w4.heap.size, 4, none⟩ = some (.int .u64 f.t) ∧ w'.cell? ⟨w4.heap.size, 5, none⟩ = some (.int .u64 f.n) ∧ w'.cell? ⟨w4.heap.size, 6, none⟩ = some (.int .u64 f.x)) (go_keep) ((go_at_call 27; (with_reducible refine (CS.out _).mono ?_); rintro _ w30 ⟨rfl, h30⟩; have uw30 : Up w6 w30 := Up.trans (by first | with_reducible assumption | exact (Up.refl w6).drewN 1) h30; have cc0 := cell_up_ uw30 C0; have cc1 := cell_up_ uw30 C1; have cc2 := cell_up_ uw30 C2; have cc3 := cell_up_ uw30 C3; have cc4 := cell_up_ uw30 C4; have cc5 := cell_up_ uw30 C5; have cc6 := cell_up_ uw30 C6))
        replace Y := Y.up uw30
        clear C0 cc0 C1 cc1 C2 cc2 C3 cc3 C4 cc4 C5 cc5 C6 cc6
        have Y0 := Y.get 0
        have Y1 := Y.get 1
        have Y2 := Y.get 2
        have Y3 := Y.get 3
        have Yf0 := Y.fr 0
        have Yf1 := Y.fr 1
        have Yf2 := Y.fr 2
        have Yf3 := Y.fr 3
        have Yl := Y.lt
        simp only [List.getElem?_toArray, List.getElem?_cons_zero, List.getElem?_cons_succ] at Y0 Y1 Y2 Y3
        go_wp2_with fail
        go_ret
        exact ⟨by first | rfl | simp, U.trans uw30⟩
    ·
      obtain ⟨rfl, rfl⟩ := hm (by decide)
      have n1 : (f.n != 0) = true := by simpa using n0
      have hb : bits BinOp.andNot IntKind.u64 (p : Int) S = r := by
        rcases NN with n2 | ⟨_, hb⟩
        · rw [n1] at n2; cases n2
        · exact hb
      have d3 : (r == f.n) = true := by simpa using rn
      clear NN rn n0 hm
      have hX2 : (f.x != 0) = false ∨ ((f.x != 0) = true ∧ (y == f.x) = false) := by
        by_cases e : f.x = 0
        · exact .inl (by simp [e])
        · exact .inr ⟨by simpa using e, by simpa using (show y ≠ f.x by omega)⟩
      clear hX
      rcases hX2 with d1 | ⟨d1, d2⟩
      ·
        skip
        have U := Up.refl w
        go_enter Tryd.func8, Tryd.ntmps8
        go_wp2_with fail
        refine (vshown_any _ (Lib.hid (TT.out.up U)) (Lib.hid (TF.out.up U))).mono ?_
        rintro _ w1 ⟨rfl, h1⟩
        replace U := U.trans h1
        clear h1
        go_wp2_with fail
        refine (CD.out _ (TT.out.up U) (TF.out.up U)).mono ?_
        rintro _ w2 ⟨rfl, h2⟩
        replace U := U.trans h2
        clear h2
        go_wp2_with fail
        obtain ⟨V3, hV3⟩ : ∃ V3, w2.alloc (.cells #[.int .i64 3, .bool gg, .int .u64 0, .int .i64 0] 25) = V3 := ⟨_, rfl⟩
        have Y : Ob V3 w2.heap.size 25 #[.int .i64 3, .bool gg, .int .u64 0, .int .i64 0] := by rw [← hV3]; exact Ob.mk_ _ _ _
        have uV3 : Up w2 V3 := by rw [← hV3]; exact (Up.refl _).alloc _
        have ltY : w.heap.size ≤ w2.heap.size := U.size
        rw [hV3]
        clear hV3
        replace U := U.trans uV3
        clear uV3
        refine (CO.out _ (TF.out.up U)).mono ?_
        rintro _ w4 ⟨rfl, h4⟩
        replace U := U.trans h4
        replace Y := Y.up h4
        clear h4
        go_wp2_with fail
        obtain ⟨V5, hV5⟩ : ∃ V5, w4.alloc (.cells #[.int .i64 f.k, .int .i64 f.W, .int .i64 f.m, .int .i64 f.b, .int .u64 f.t, .int .u64 f.n, .int .u64 f.x] 40) = V5 := ⟨_, rfl⟩
        have C : Bf V5 w4.heap.size 40 f := by rw [← hV5]; exact Bf.mk_ w4 f 40
        have ltC : w.heap.size ≤ w4.heap.size := U.size
        have uV5 : Up w4 V5 := by rw [← hV5]; exact (Up.refl _).alloc _
        rw [hV5]
        clear hV5
        replace U := U.trans uV5
        replace Y := Y.up uV5
        clear uV5
        refine (CC.out _ (TF.out.up U)).mono ?_
        rintro _ w6 ⟨rfl, h6⟩
        replace U := U.trans h6
        replace C := C.up h6
        replace Y := Y.up h6
        clear h6
        obtain ⟨C0, C1, C2, C3, C4, C5, C6⟩ := Bf.cs C
        have C7 := Bf.lt C
        simp only [Nat.zero_add] at C0 C1 C2 C3 C4 C5 C6 C7
        go_upto_region 8 with fail
        go_region_held3 (fun w' => w'.cell? ⟨w4.heap.size, 0, none⟩ = some (.int .i64 f.k) ∧ w'.cell? ⟨w4.heap.size, 1, none⟩ = some (.int .i64 f.W) ∧ w'.cell? ⟨w4.heap.size, 2, none⟩ = some (.int .i64 f.m) ∧ w'.cell? ⟨w4.heap.size, 3, none⟩ = some (.int .i64 f.b) ∧ w'.cell? ⟨w4.heap.size, 4, none⟩ = some (.int .u64 f.t) ∧ w'.cell? ⟨w4.heap.size, 5, none⟩ = some (.int .u64 f.n) ∧ w'.cell? ⟨w4.heap.size, 6, none⟩ = some (.int .u64 f.x)) (go_keep) ((go_at_call 27; (with_reducible refine (CS.out _).mono ?_); rintro _ w30 ⟨rfl, h30⟩; have uw30 : Up w6 w30 := Up.trans (by first | with_reducible assumption | exact (Up.refl w6).drewN 1) h30; have cc0 := cell_up_ uw30 C0; have cc1 := cell_up_ uw30 C1; have cc2 := cell_up_ uw30 C2; have cc3 := cell_up_ uw30 C3; have cc4 := cell_up_ uw30 C4; have cc5 := cell_up_ uw30 C5; have cc6 := cell_up_ uw30 C6))
        replace Y := Y.up uw30
        clear C0 cc0 C1 cc1 C2 cc2 C3 cc3 C4 cc4 C5 cc5 C6 cc6
        have Y0 := Y.get 0
        have Y1 := Y.get 1
        have Y2 := Y.get 2
        have Y3 := Y.get 3
        have Yf0 := Y.fr 0
        have Yf1 := Y.fr 1
        have Yf2 := Y.fr 2
        have Yf3 := Y.fr 3
        have Yl := Y.lt
        simp only [List.getElem?_toArray, List.getElem?_cons_zero, List.getElem?_cons_succ] at Y0 Y1 Y2 Y3
        go_wp2_with fail
        go_ret
        exact ⟨by first | rfl | simp, U.trans uw30⟩
      ·
        skip
        have U := Up.refl w
        go_enter Tryd.func8, Tryd.ntmps8
        go_wp2_with fail
        refine (vshown_any _ (Lib.hid (TT.out.up U)) (Lib.hid (TF.out.up U))).mono ?_
        rintro _ w1 ⟨rfl, h1⟩
        replace U := U.trans h1
        clear h1
        go_wp2_with fail
        refine (CD.out _ (TT.out.up U) (TF.out.up U)).mono ?_
        rintro _ w2 ⟨rfl, h2⟩
        replace U := U.trans h2
        clear h2
        go_wp2_with fail
        obtain ⟨V3, hV3⟩ : ∃ V3, w2.alloc (.cells #[.int .i64 3, .bool gg, .int .u64 0, .int .i64 0] 25) = V3 := ⟨_, rfl⟩
        have Y : Ob V3 w2.heap.size 25 #[.int .i64 3, .bool gg, .int .u64 0, .int .i64 0] := by rw [← hV3]; exact Ob.mk_ _ _ _
        have uV3 : Up w2 V3 := by rw [← hV3]; exact (Up.refl _).alloc _
        have ltY : w.heap.size ≤ w2.heap.size := U.size
        rw [hV3]
        clear hV3
        replace U := U.trans uV3
        clear uV3
        refine (CO.out _ (TF.out.up U)).mono ?_
        rintro _ w4 ⟨rfl, h4⟩
        replace U := U.trans h4
        replace Y := Y.up h4
        clear h4
        go_wp2_with fail
        obtain ⟨V5, hV5⟩ : ∃ V5, w4.alloc (.cells #[.int .i64 f.k, .int .i64 f.W, .int .i64 f.m, .int .i64 f.b, .int .u64 f.t, .int .u64 f.n, .int .u64 f.x] 40) = V5 := ⟨_, rfl⟩
        have C : Bf V5 w4.heap.size 40 f := by rw [← hV5]; exact Bf.mk_ w4 f 40
        have ltC : w.heap.size ≤ w4.heap.size := U.size
        have uV5 : Up w4 V5 := by rw [← hV5]; exact (Up.refl _).alloc _
        rw [hV5]
        clear hV5
        replace U := U.trans uV5
        replace Y := Y.up uV5
        clear uV5
        refine (CC.out _ (TF.out.up U)).mono ?_
        rintro _ w6 ⟨rfl, h6⟩
        replace U := U.trans h6
        replace C := C.up h6
        replace Y := Y.up h6
        clear h6
        obtain ⟨C0, C1, C2, C3, C4, C5, C6⟩ := Bf.cs C
        have C7 := Bf.lt C
        simp only [Nat.zero_add] at C0 C1 C2 C3 C4 C5 C6 C7
        go_upto_region 8 with fail
        go_region_held3 (fun w' => w'.cell? ⟨w4.heap.size, 0, none⟩ = some (.int .i64 f.k) ∧ w'.cell? ⟨w4.heap.size, 1, none⟩ = some (.int .i64 f.W) ∧ w'.cell? ⟨w4.heap.size, 2, none⟩ = some (.int .i64 f.m) ∧ w'.cell? ⟨w4.heap.size, 3, none⟩ = some (.int .i64 f.b) ∧ w'.cell? ⟨w4.heap.size, 4, none⟩ = some (.int .u64 f.t) ∧ w'.cell? ⟨w4.heap.size, 5, none⟩ = some (.int .u64 f.n) ∧ w'.cell? ⟨w4.heap.size, 6, none⟩ = some (.int .u64 f.x)) (go_keep) ((go_at_call 27; (with_reducible refine (CS.out _).mono ?_); rintro _ w30 ⟨rfl, h30⟩; have uw30 : Up w6 w30 := Up.trans (by first | with_reducible assumption | exact (Up.refl w6).drewN 1) h30; have cc0 := cell_up_ uw30 C0; have cc1 := cell_up_ uw30 C1; have cc2 := cell_up_ uw30 C2; have cc3 := cell_up_ uw30 C3; have cc4 := cell_up_ uw30 C4; have cc5 := cell_up_ uw30 C5; have cc6 := cell_up_ uw30 C6))
        replace Y := Y.up uw30
        clear C0 cc0 C1 cc1 C2 cc2 C3 cc3 C4 cc4 C5 cc5 C6 cc6
        have Y0 := Y.get 0
        have Y1 := Y.get 1
        have Y2 := Y.get 2
        have Y3 := Y.get 3
        have Yf0 := Y.fr 0
        have Yf1 := Y.fr 1
        have Yf2 := Y.fr 2
        have Yf3 := Y.fr 3
        have Yl := Y.lt
        simp only [List.getElem?_toArray, List.getElem?_cons_zero, List.getElem?_cons_succ] at Y0 Y1 Y2 Y3
        go_wp2_with fail
        go_ret
        exact ⟨by first | rfl | simp, U.trans uw30⟩
    ·
      have hX2 : (f.x != 0) = false ∨ ((f.x != 0) = true ∧ (y == f.x) = false) := by
        by_cases e : f.x = 0
        · exact .inl (by simp [e])
        · exact .inr ⟨by simpa using e, by simpa using (show y ≠ f.x by omega)⟩
      clear hX
      rcases hc with rfl | rfl
      ·
        obtain ⟨rfl, rfl⟩ := hm (by decide)
        clear hm
        rcases hX2 with d1 | ⟨d1, d2⟩
        ·
          rcases NN with n1 | ⟨n1, hb⟩
          ·
            clear hN
            have U := Up.refl w
            go_enter Tryd.func8, Tryd.ntmps8
            go_wp2_with fail
            refine (vshown_any _ (Lib.hid (TT.out.up U)) (Lib.hid (TF.out.up U))).mono ?_
            rintro _ w1 ⟨rfl, h1⟩
            replace U := U.trans h1
            clear h1
            go_wp2_with fail
            refine (CD.out _ (TT.out.up U) (TF.out.up U)).mono ?_
            rintro _ w2 ⟨rfl, h2⟩
            replace U := U.trans h2
            clear h2
            go_wp2_with fail
            obtain ⟨V3, hV3⟩ : ∃ V3, w2.alloc (.cells #[.int .i64 1, .bool gg, .int .u64 0, .int .i64 0] 25) = V3 := ⟨_, rfl⟩
            have Y : Ob V3 w2.heap.size 25 #[.int .i64 1, .bool gg, .int .u64 0, .int .i64 0] := by rw [← hV3]; exact Ob.mk_ _ _ _
            have uV3 : Up w2 V3 := by rw [← hV3]; exact (Up.refl _).alloc _
            have ltY : w.heap.size ≤ w2.heap.size := U.size
            rw [hV3]
            clear hV3
            replace U := U.trans uV3
            clear uV3
            refine (CO.out _ (TF.out.up U)).mono ?_
            rintro _ w4 ⟨rfl, h4⟩
            replace U := U.trans h4
            replace Y := Y.up h4
            clear h4
            go_wp2_with fail
            obtain ⟨V5, hV5⟩ : ∃ V5, w4.alloc (.cells #[.int .i64 f.k, .int .i64 f.W, .int .i64 f.m, .int .i64 f.b, .int .u64 f.t, .int .u64 f.n, .int .u64 f.x] 40) = V5 := ⟨_, rfl⟩
            have C : Bf V5 w4.heap.size 40 f := by rw [← hV5]; exact Bf.mk_ w4 f 40
            have ltC : w.heap.size ≤ w4.heap.size := U.size
            have uV5 : Up w4 V5 := by rw [← hV5]; exact (Up.refl _).alloc _
            rw [hV5]
            clear hV5
            replace U := U.trans uV5
            replace Y := Y.up uV5
            clear uV5
            refine (CC.out _ (TF.out.up U)).mono ?_
            rintro _ w6 ⟨rfl, h6⟩
            replace U := U.trans h6
            replace C := C.up h6
            replace Y := Y.up h6
            clear h6
            obtain ⟨C0, C1, C2, C3, C4, C5, C6⟩ := Bf.cs C
            have C7 := Bf.lt C
            simp only [Nat.zero_add] at C0 C1 C2 C3 C4 C5 C6 C7
            have Y0 := Y.get 0
            have Y1 := Y.get 1
            have Y2 := Y.get 2
            have Y3 := Y.get 3
            have Yf0 := Y.fr 0
            have Yf1 := Y.fr 1
            have Yf2 := Y.fr 2
            have Yf3 := Y.fr 3
            have Yl := Y.lt
            simp only [List.getElem?_toArray, List.getElem?_cons_zero, List.getElem?_cons_succ] at Y0 Y1 Y2 Y3
            go_upto_region 8 with fail
            go_quiet (fail)
            go_wp2_with fail
            go_ret
            exact ⟨by first | rfl | simp, by first | exact U | exact U.drewN _⟩
          ·
            have d3 : (r == f.n) = false := by
              have h7 : f.n ≠ 0 := by simpa using n1
              have h8 : r ≠ f.n := by omega
              simpa using h8
            clear hN
            have U := Up.refl w
            go_enter Tryd.func8, Tryd.ntmps8
            go_wp2_with fail
            refine (vshown_any _ (Lib.hid (TT.out.up U)) (Lib.hid (TF.out.up U))).mono ?_
            rintro _ w1 ⟨rfl, h1⟩
            replace U := U.trans h1
            clear h1
            go_wp2_with fail
            refine (CD.out _ (TT.out.up U) (TF.out.up U)).mono ?_
            rintro _ w2 ⟨rfl, h2⟩
            replace U := U.trans h2
            clear h2
            go_wp2_with fail
            obtain ⟨V3, hV3⟩ : ∃ V3, w2.alloc (.cells #[.int .i64 1, .bool gg, .int .u64 0, .int .i64 0] 25) = V3 := ⟨_, rfl⟩
            have Y : Ob V3 w2.heap.size 25 #[.int .i64 1, .bool gg, .int .u64 0, .int .i64 0] := by rw [← hV3]; exact Ob.mk_ _ _ _
            have uV3 : Up w2 V3 := by rw [← hV3]; exact (Up.refl _).alloc _
            have ltY : w.heap.size ≤ w2.heap.size := U.size
            rw [hV3]
            clear hV3
            replace U := U.trans uV3
            clear uV3
            refine (CO.out _ (TF.out.up U)).mono ?_
            rintro _ w4 ⟨rfl, h4⟩
            replace U := U.trans h4
            replace Y := Y.up h4
            clear h4
            go_wp2_with fail
            obtain ⟨V5, hV5⟩ : ∃ V5, w4.alloc (.cells #[.int .i64 f.k, .int .i64 f.W, .int .i64 f.m, .int .i64 f.b, .int .u64 f.t, .int .u64 f.n, .int .u64 f.x] 40) = V5 := ⟨_, rfl⟩
            have C : Bf V5 w4.heap.size 40 f := by rw [← hV5]; exact Bf.mk_ w4 f 40
            have ltC : w.heap.size ≤ w4.heap.size := U.size
            have uV5 : Up w4 V5 := by rw [← hV5]; exact (Up.refl _).alloc _
            rw [hV5]
            clear hV5
            replace U := U.trans uV5
            replace Y := Y.up uV5
            clear uV5
            refine (CC.out _ (TF.out.up U)).mono ?_
            rintro _ w6 ⟨rfl, h6⟩
            replace U := U.trans h6
            replace C := C.up h6
            replace Y := Y.up h6
            clear h6
            obtain ⟨C0, C1, C2, C3, C4, C5, C6⟩ := Bf.cs C
            have C7 := Bf.lt C
            simp only [Nat.zero_add] at C0 C1 C2 C3 C4 C5 C6 C7
            go_upto_region 8 with fail
            go_region_held3 (fun w' => w'.cell? ⟨w4.heap.size, 0, none⟩ = some (.int .i64 f.k) ∧ w'.cell? ⟨w4.heap.size, 1, none⟩ = some (.int .i64 f.W) ∧ w'.cell? ⟨w4.heap.size, 2, none⟩ = some (.int .i64 f.m) ∧ w'.cell? ⟨w4.heap.size, 3, none⟩ = some (.int .i64 f.b) ∧ w'.cell? ⟨w4.heap.size, 4, none⟩ = some (.int .u64 f.t) ∧ w'.cell? ⟨w4.heap.size, 5, none⟩ = some (.int .u64 f.n) ∧ w'.cell? ⟨w4.heap.size, 6, none⟩ = some (.int .u64 f.x)) (go_keep) ((go_at_call 27; (with_reducible refine (CS.out _).mono ?_); rintro _ w30 ⟨rfl, h30⟩; have uw30 : Up w6 w30 := Up.trans (by first | with_reducible assumption | exact (Up.refl w6).drewN 1) h30; have cc0 := cell_up_ uw30 C0; have cc1 := cell_up_ uw30 C1; have cc2 := cell_up_ uw30 C2; have cc3 := cell_up_ uw30 C3; have cc4 := cell_up_ uw30 C4; have cc5 := cell_up_ uw30 C5; have cc6 := cell_up_ uw30 C6))
            replace Y := Y.up uw30
            clear C0 cc0 C1 cc1 C2 cc2 C3 cc3 C4 cc4 C5 cc5 C6 cc6
            have Y0 := Y.get 0
            have Y1 := Y.get 1
            have Y2 := Y.get 2
            have Y3 := Y.get 3
            have Yf0 := Y.fr 0
            have Yf1 := Y.fr 1
            have Yf2 := Y.fr 2
            have Yf3 := Y.fr 3
            have Yl := Y.lt
            simp only [List.getElem?_toArray, List.getElem?_cons_zero, List.getElem?_cons_succ] at Y0 Y1 Y2 Y3
            go_wp2_with fail
            go_ret
            exact ⟨by first | rfl | simp, U.trans uw30⟩
        ·
          rcases NN with n1 | ⟨n1, hb⟩
          ·
            clear hN
            have U := Up.refl w
            go_enter Tryd.func8, Tryd.ntmps8
            go_wp2_with fail
            refine (vshown_any _ (Lib.hid (TT.out.up U)) (Lib.hid (TF.out.up U))).mono ?_
            rintro _ w1 ⟨rfl, h1⟩
            replace U := U.trans h1
            clear h1
            go_wp2_with fail
            refine (CD.out _ (TT.out.up U) (TF.out.up U)).mono ?_
            rintro _ w2 ⟨rfl, h2⟩
            replace U := U.trans h2
            clear h2
            go_wp2_with fail
            obtain ⟨V3, hV3⟩ : ∃ V3, w2.alloc (.cells #[.int .i64 1, .bool gg, .int .u64 0, .int .i64 0] 25) = V3 := ⟨_, rfl⟩
            have Y : Ob V3 w2.heap.size 25 #[.int .i64 1, .bool gg, .int .u64 0, .int .i64 0] := by rw [← hV3]; exact Ob.mk_ _ _ _
            have uV3 : Up w2 V3 := by rw [← hV3]; exact (Up.refl _).alloc _
            have ltY : w.heap.size ≤ w2.heap.size := U.size
            rw [hV3]
            clear hV3
            replace U := U.trans uV3
            clear uV3
            refine (CO.out _ (TF.out.up U)).mono ?_
            rintro _ w4 ⟨rfl, h4⟩
            replace U := U.trans h4
            replace Y := Y.up h4
            clear h4
            go_wp2_with fail
            obtain ⟨V5, hV5⟩ : ∃ V5, w4.alloc (.cells #[.int .i64 f.k, .int .i64 f.W, .int .i64 f.m, .int .i64 f.b, .int .u64 f.t, .int .u64 f.n, .int .u64 f.x] 40) = V5 := ⟨_, rfl⟩
            have C : Bf V5 w4.heap.size 40 f := by rw [← hV5]; exact Bf.mk_ w4 f 40
            have ltC : w.heap.size ≤ w4.heap.size := U.size
            have uV5 : Up w4 V5 := by rw [← hV5]; exact (Up.refl _).alloc _
            rw [hV5]
            clear hV5
            replace U := U.trans uV5
            replace Y := Y.up uV5
            clear uV5
            refine (CC.out _ (TF.out.up U)).mono ?_
            rintro _ w6 ⟨rfl, h6⟩
            replace U := U.trans h6
            replace C := C.up h6
            replace Y := Y.up h6
            clear h6
            obtain ⟨C0, C1, C2, C3, C4, C5, C6⟩ := Bf.cs C
            have C7 := Bf.lt C
            simp only [Nat.zero_add] at C0 C1 C2 C3 C4 C5 C6 C7
            have Y0 := Y.get 0
            have Y1 := Y.get 1
            have Y2 := Y.get 2
            have Y3 := Y.get 3
            have Yf0 := Y.fr 0
            have Yf1 := Y.fr 1
            have Yf2 := Y.fr 2
            have Yf3 := Y.fr 3
            have Yl := Y.lt
            simp only [List.getElem?_toArray, List.getElem?_cons_zero, List.getElem?_cons_succ] at Y0 Y1 Y2 Y3
            go_upto_region 8 with fail
            go_quiet (fail)
            go_wp2_with fail
            go_ret
            exact ⟨by first | rfl | simp, by first | exact U | exact U.drewN _⟩
          ·
            have d3 : (r == f.n) = false := by
              have h7 : f.n ≠ 0 := by simpa using n1
              have h8 : r ≠ f.n := by omega
              simpa using h8
            clear hN
            have U := Up.refl w
            go_enter Tryd.func8, Tryd.ntmps8
            go_wp2_with fail
            refine (vshown_any _ (Lib.hid (TT.out.up U)) (Lib.hid (TF.out.up U))).mono ?_
            rintro _ w1 ⟨rfl, h1⟩
            replace U := U.trans h1
            clear h1
            go_wp2_with fail
            refine (CD.out _ (TT.out.up U) (TF.out.up U)).mono ?_
            rintro _ w2 ⟨rfl, h2⟩
            replace U := U.trans h2
            clear h2
            go_wp2_with fail
            obtain ⟨V3, hV3⟩ : ∃ V3, w2.alloc (.cells #[.int .i64 1, .bool gg, .int .u64 0, .int .i64 0] 25) = V3 := ⟨_, rfl⟩
            have Y : Ob V3 w2.heap.size 25 #[.int .i64 1, .bool gg, .int .u64 0, .int .i64 0] := by rw [← hV3]; exact Ob.mk_ _ _ _
            have uV3 : Up w2 V3 := by rw [← hV3]; exact (Up.refl _).alloc _
            have ltY : w.heap.size ≤ w2.heap.size := U.size
            rw [hV3]
            clear hV3
            replace U := U.trans uV3
            clear uV3
            refine (CO.out _ (TF.out.up U)).mono ?_
            rintro _ w4 ⟨rfl, h4⟩
            replace U := U.trans h4
            replace Y := Y.up h4
            clear h4
            go_wp2_with fail
            obtain ⟨V5, hV5⟩ : ∃ V5, w4.alloc (.cells #[.int .i64 f.k, .int .i64 f.W, .int .i64 f.m, .int .i64 f.b, .int .u64 f.t, .int .u64 f.n, .int .u64 f.x] 40) = V5 := ⟨_, rfl⟩
            have C : Bf V5 w4.heap.size 40 f := by rw [← hV5]; exact Bf.mk_ w4 f 40
            have ltC : w.heap.size ≤ w4.heap.size := U.size
            have uV5 : Up w4 V5 := by rw [← hV5]; exact (Up.refl _).alloc _
            rw [hV5]
            clear hV5
            replace U := U.trans uV5
            replace Y := Y.up uV5
            clear uV5
            refine (CC.out _ (TF.out.up U)).mono ?_
            rintro _ w6 ⟨rfl, h6⟩
            replace U := U.trans h6
            replace C := C.up h6
            replace Y := Y.up h6
            clear h6
            obtain ⟨C0, C1, C2, C3, C4, C5, C6⟩ := Bf.cs C
            have C7 := Bf.lt C
            simp only [Nat.zero_add] at C0 C1 C2 C3 C4 C5 C6 C7
            go_upto_region 8 with fail
            go_region_held3 (fun w' => w'.cell? ⟨w4.heap.size, 0, none⟩ = some (.int .i64 f.k) ∧ w'.cell? ⟨w4.heap.size, 1, none⟩ = some (.int .i64 f.W) ∧ w'.cell? ⟨w4.heap.size, 2, none⟩ = some (.int .i64 f.m) ∧ w'.cell? ⟨w4.heap.size, 3, none⟩ = some (.int .i64 f.b) ∧ w'.cell? ⟨w4.heap.size, 4, none⟩ = some (.int .u64 f.t) ∧ w'.cell? ⟨w4.heap.size, 5, none⟩ = some (.int .u64 f.n) ∧ w'.cell? ⟨w4.heap.size, 6, none⟩ = some (.int .u64 f.x)) (go_keep) ((go_at_call 27; (with_reducible refine (CS.out _).mono ?_); rintro _ w30 ⟨rfl, h30⟩; have uw30 : Up w6 w30 := Up.trans (by first | with_reducible assumption | exact (Up.refl w6).drewN 1) h30; have cc0 := cell_up_ uw30 C0; have cc1 := cell_up_ uw30 C1; have cc2 := cell_up_ uw30 C2; have cc3 := cell_up_ uw30 C3; have cc4 := cell_up_ uw30 C4; have cc5 := cell_up_ uw30 C5; have cc6 := cell_up_ uw30 C6))
            replace Y := Y.up uw30
            clear C0 cc0 C1 cc1 C2 cc2 C3 cc3 C4 cc4 C5 cc5 C6 cc6
            have Y0 := Y.get 0
            have Y1 := Y.get 1
            have Y2 := Y.get 2
            have Y3 := Y.get 3
            have Yf0 := Y.fr 0
            have Yf1 := Y.fr 1
            have Yf2 := Y.fr 2
            have Yf3 := Y.fr 3
            have Yl := Y.lt
            simp only [List.getElem?_toArray, List.getElem?_cons_zero, List.getElem?_cons_succ] at Y0 Y1 Y2 Y3
            go_wp2_with fail
            go_ret
            exact ⟨by first | rfl | simp, U.trans uw30⟩
      ·
        clear hm
        rcases hX2 with d1 | ⟨d1, d2⟩
        ·
          rcases NN with n1 | ⟨n1, hb⟩
          ·
            clear hN
            have U := Up.refl w
            go_enter Tryd.func8, Tryd.ntmps8
            go_wp2_with fail
            refine (vshown_any _ (Lib.hid (TT.out.up U)) (Lib.hid (TF.out.up U))).mono ?_
            rintro _ w1 ⟨rfl, h1⟩
            replace U := U.trans h1
            clear h1
            go_wp2_with fail
            refine (CD.out _ (TT.out.up U) (TF.out.up U)).mono ?_
            rintro _ w2 ⟨rfl, h2⟩
            replace U := U.trans h2
            clear h2
            go_wp2_with fail
            obtain ⟨V3, hV3⟩ : ∃ V3, w2.alloc (.cells #[.int .i64 2, .bool gg, .int .u64 (m : Int), .int .i64 z] 25) = V3 := ⟨_, rfl⟩
            have Y : Ob V3 w2.heap.size 25 #[.int .i64 2, .bool gg, .int .u64 (m : Int), .int .i64 z] := by rw [← hV3]; exact Ob.mk_ _ _ _
            have uV3 : Up w2 V3 := by rw [← hV3]; exact (Up.refl _).alloc _
            have ltY : w.heap.size ≤ w2.heap.size := U.size
            rw [hV3]
            clear hV3
            replace U := U.trans uV3
            clear uV3
            refine (CO.out _ (TF.out.up U)).mono ?_
            rintro _ w4 ⟨rfl, h4⟩
            replace U := U.trans h4
            replace Y := Y.up h4
            clear h4
            go_wp2_with fail
            obtain ⟨V5, hV5⟩ : ∃ V5, w4.alloc (.cells #[.int .i64 f.k, .int .i64 f.W, .int .i64 f.m, .int .i64 f.b, .int .u64 f.t, .int .u64 f.n, .int .u64 f.x] 40) = V5 := ⟨_, rfl⟩
            have C : Bf V5 w4.heap.size 40 f := by rw [← hV5]; exact Bf.mk_ w4 f 40
            have ltC : w.heap.size ≤ w4.heap.size := U.size
            have uV5 : Up w4 V5 := by rw [← hV5]; exact (Up.refl _).alloc _
            rw [hV5]
            clear hV5
            replace U := U.trans uV5
            replace Y := Y.up uV5
            clear uV5
            refine (CC.out _ (TF.out.up U)).mono ?_
            rintro _ w6 ⟨rfl, h6⟩
            replace U := U.trans h6
            replace C := C.up h6
            replace Y := Y.up h6
            clear h6
            obtain ⟨C0, C1, C2, C3, C4, C5, C6⟩ := Bf.cs C
            have C7 := Bf.lt C
            simp only [Nat.zero_add] at C0 C1 C2 C3 C4 C5 C6 C7
            have Y0 := Y.get 0
            have Y1 := Y.get 1
            have Y2 := Y.get 2
            have Y3 := Y.get 3
            have Yf0 := Y.fr 0
            have Yf1 := Y.fr 1
            have Yf2 := Y.fr 2
            have Yf3 := Y.fr 3
            have Yl := Y.lt
            simp only [List.getElem?_toArray, List.getElem?_cons_zero, List.getElem?_cons_succ] at Y0 Y1 Y2 Y3
            go_upto_region 8 with fail
            go_quiet (fail)
            go_wp2_with fail
            go_ret
            exact ⟨by first | rfl | simp, by first | exact U | exact U.drewN _⟩
          ·
            have d3 : (r == f.n) = false := by
              have h7 : f.n ≠ 0 := by simpa using n1
              have h8 : r ≠ f.n := by omega
              simpa using h8
            clear hN
            have U := Up.refl w
            go_enter Tryd.func8, Tryd.ntmps8
            go_wp2_with fail
            refine (vshown_any _ (Lib.hid (TT.out.up U)) (Lib.hid (TF.out.up U))).mono ?_
            rintro _ w1 ⟨rfl, h1⟩
            replace U := U.trans h1
            clear h1
            go_wp2_with fail
            refine (CD.out _ (TT.out.up U) (TF.out.up U)).mono ?_
            rintro _ w2 ⟨rfl, h2⟩
            replace U := U.trans h2
            clear h2
            go_wp2_with fail
            obtain ⟨V3, hV3⟩ : ∃ V3, w2.alloc (.cells #[.int .i64 2, .bool gg, .int .u64 (m : Int), .int .i64 z] 25) = V3 := ⟨_, rfl⟩
            have Y : Ob V3 w2.heap.size 25 #[.int .i64 2, .bool gg, .int .u64 (m : Int), .int .i64 z] := by rw [← hV3]; exact Ob.mk_ _ _ _
            have uV3 : Up w2 V3 := by rw [← hV3]; exact (Up.refl _).alloc _
            have ltY : w.heap.size ≤ w2.heap.size := U.size
            rw [hV3]
            clear hV3
            replace U := U.trans uV3
            clear uV3
            refine (CO.out _ (TF.out.up U)).mono ?_
            rintro _ w4 ⟨rfl, h4⟩
            replace U := U.trans h4
            replace Y := Y.up h4
            clear h4
            go_wp2_with fail
            obtain ⟨V5, hV5⟩ : ∃ V5, w4.alloc (.cells #[.int .i64 f.k, .int .i64 f.W, .int .i64 f.m, .int .i64 f.b, .int .u64 f.t, .int .u64 f.n, .int .u64 f.x] 40) = V5 := ⟨_, rfl⟩
            have C : Bf V5 w4.heap.size 40 f := by rw [← hV5]; exact Bf.mk_ w4 f 40
            have ltC : w.heap.size ≤ w4.heap.size := U.size
            have uV5 : Up w4 V5 := by rw [← hV5]; exact (Up.refl _).alloc _
            rw [hV5]
            clear hV5
            replace U := U.trans uV5
            replace Y := Y.up uV5
            clear uV5
            refine (CC.out _ (TF.out.up U)).mono ?_
            rintro _ w6 ⟨rfl, h6⟩
            replace U := U.trans h6
            replace C := C.up h6
            replace Y := Y.up h6
            clear h6
            obtain ⟨C0, C1, C2, C3, C4, C5, C6⟩ := Bf.cs C
            have C7 := Bf.lt C
            simp only [Nat.zero_add] at C0 C1 C2 C3 C4 C5 C6 C7
            go_upto_region 8 with fail
            go_region_held3 (fun w' => w'.cell? ⟨w4.heap.size, 0, none⟩ = some (.int .i64 f.k) ∧ w'.cell? ⟨w4.heap.size, 1, none⟩ = some (.int .i64 f.W) ∧ w'.cell? ⟨w4.heap.size, 2, none⟩ = some (.int .i64 f.m) ∧ w'.cell? ⟨w4.heap.size, 3, none⟩ = some (.int .i64 f.b) ∧ w'.cell? ⟨w4.heap.size, 4, none⟩ = some (.int .u64 f.t) ∧ w'.cell? ⟨w4.heap.size, 5, none⟩ = some (.int .u64 f.n) ∧ w'.cell? ⟨w4.heap.size, 6, none⟩ = some (.int .u64 f.x)) (go_keep) ((go_at_call 27; (with_reducible refine (CS.out _).mono ?_); rintro _ w30 ⟨rfl, h30⟩; have uw30 : Up w6 w30 := Up.trans (by first | with_reducible assumption | exact (Up.refl w6).drewN 1) h30; have cc0 := cell_up_ uw30 C0; have cc1 := cell_up_ uw30 C1; have cc2 := cell_up_ uw30 C2; have cc3 := cell_up_ uw30 C3; have cc4 := cell_up_ uw30 C4; have cc5 := cell_up_ uw30 C5; have cc6 := cell_up_ uw30 C6))
            replace Y := Y.up uw30
            clear C0 cc0 C1 cc1 C2 cc2 C3 cc3 C4 cc4 C5 cc5 C6 cc6
            have Y0 := Y.get 0
            have Y1 := Y.get 1
            have Y2 := Y.get 2
            have Y3 := Y.get 3
            have Yf0 := Y.fr 0
            have Yf1 := Y.fr 1
            have Yf2 := Y.fr 2
            have Yf3 := Y.fr 3
            have Yl := Y.lt
            simp only [List.getElem?_toArray, List.getElem?_cons_zero, List.getElem?_cons_succ] at Y0 Y1 Y2 Y3
            go_wp2_with fail
            go_ret
            exact ⟨by first | rfl | simp, U.trans uw30⟩
        ·
          rcases NN with n1 | ⟨n1, hb⟩
          ·
            clear hN
            have U := Up.refl w
            go_enter Tryd.func8, Tryd.ntmps8
            go_wp2_with fail
            refine (vshown_any _ (Lib.hid (TT.out.up U)) (Lib.hid (TF.out.up U))).mono ?_
            rintro _ w1 ⟨rfl, h1⟩
            replace U := U.trans h1
            clear h1
            go_wp2_with fail
            refine (CD.out _ (TT.out.up U) (TF.out.up U)).mono ?_
            rintro _ w2 ⟨rfl, h2⟩
            replace U := U.trans h2
            clear h2
            go_wp2_with fail
            obtain ⟨V3, hV3⟩ : ∃ V3, w2.alloc (.cells #[.int .i64 2, .bool gg, .int .u64 (m : Int), .int .i64 z] 25) = V3 := ⟨_, rfl⟩
            have Y : Ob V3 w2.heap.size 25 #[.int .i64 2, .bool gg, .int .u64 (m : Int), .int .i64 z] := by rw [← hV3]; exact Ob.mk_ _ _ _
            have uV3 : Up w2 V3 := by rw [← hV3]; exact (Up.refl _).alloc _
            have ltY : w.heap.size ≤ w2.heap.size := U.size
            rw [hV3]
            clear hV3
            replace U := U.trans uV3
            clear uV3
            refine (CO.out _ (TF.out.up U)).mono ?_
            rintro _ w4 ⟨rfl, h4⟩
            replace U := U.trans h4
            replace Y := Y.up h4
            clear h4
            go_wp2_with fail
            obtain ⟨V5, hV5⟩ : ∃ V5, w4.alloc (.cells #[.int .i64 f.k, .int .i64 f.W, .int .i64 f.m, .int .i64 f.b, .int .u64 f.t, .int .u64 f.n, .int .u64 f.x] 40) = V5 := ⟨_, rfl⟩
            have C : Bf V5 w4.heap.size 40 f := by rw [← hV5]; exact Bf.mk_ w4 f 40
            have ltC : w.heap.size ≤ w4.heap.size := U.size
            have uV5 : Up w4 V5 := by rw [← hV5]; exact (Up.refl _).alloc _
            rw [hV5]
            clear hV5
            replace U := U.trans uV5
            replace Y := Y.up uV5
            clear uV5
            refine (CC.out _ (TF.out.up U)).mono ?_
            rintro _ w6 ⟨rfl, h6⟩
            replace U := U.trans h6
            replace C := C.up h6
            replace Y := Y.up h6
            clear h6
            obtain ⟨C0, C1, C2, C3, C4, C5, C6⟩ := Bf.cs C
            have C7 := Bf.lt C
            simp only [Nat.zero_add] at C0 C1 C2 C3 C4 C5 C6 C7
            have Y0 := Y.get 0
            have Y1 := Y.get 1
            have Y2 := Y.get 2
            have Y3 := Y.get 3
            have Yf0 := Y.fr 0
            have Yf1 := Y.fr 1
            have Yf2 := Y.fr 2
            have Yf3 := Y.fr 3
            have Yl := Y.lt
            simp only [List.getElem?_toArray, List.getElem?_cons_zero, List.getElem?_cons_succ] at Y0 Y1 Y2 Y3
            go_upto_region 8 with fail
            go_quiet (fail)
            go_wp2_with fail
            go_ret
            exact ⟨by first | rfl | simp, by first | exact U | exact U.drewN _⟩
          ·
            have d3 : (r == f.n) = false := by
              have h7 : f.n ≠ 0 := by simpa using n1
              have h8 : r ≠ f.n := by omega
              simpa using h8
            clear hN
            have U := Up.refl w
            go_enter Tryd.func8, Tryd.ntmps8
            go_wp2_with fail
            refine (vshown_any _ (Lib.hid (TT.out.up U)) (Lib.hid (TF.out.up U))).mono ?_
            rintro _ w1 ⟨rfl, h1⟩
            replace U := U.trans h1
            clear h1
            go_wp2_with fail
            refine (CD.out _ (TT.out.up U) (TF.out.up U)).mono ?_
            rintro _ w2 ⟨rfl, h2⟩
            replace U := U.trans h2
            clear h2
            go_wp2_with fail
            obtain ⟨V3, hV3⟩ : ∃ V3, w2.alloc (.cells #[.int .i64 2, .bool gg, .int .u64 (m : Int), .int .i64 z] 25) = V3 := ⟨_, rfl⟩
            have Y : Ob V3 w2.heap.size 25 #[.int .i64 2, .bool gg, .int .u64 (m : Int), .int .i64 z] := by rw [← hV3]; exact Ob.mk_ _ _ _
            have uV3 : Up w2 V3 := by rw [← hV3]; exact (Up.refl _).alloc _
            have ltY : w.heap.size ≤ w2.heap.size := U.size
            rw [hV3]
            clear hV3
            replace U := U.trans uV3
            clear uV3
            refine (CO.out _ (TF.out.up U)).mono ?_
            rintro _ w4 ⟨rfl, h4⟩
            replace U := U.trans h4
            replace Y := Y.up h4
            clear h4
            go_wp2_with fail
            obtain ⟨V5, hV5⟩ : ∃ V5, w4.alloc (.cells #[.int .i64 f.k, .int .i64 f.W, .int .i64 f.m, .int .i64 f.b, .int .u64 f.t, .int .u64 f.n, .int .u64 f.x] 40) = V5 := ⟨_, rfl⟩
            have C : Bf V5 w4.heap.size 40 f := by rw [← hV5]; exact Bf.mk_ w4 f 40
            have ltC : w.heap.size ≤ w4.heap.size := U.size
            have uV5 : Up w4 V5 := by rw [← hV5]; exact (Up.refl _).alloc _
            rw [hV5]
            clear hV5
            replace U := U.trans uV5
            replace Y := Y.up uV5
            clear uV5
            refine (CC.out _ (TF.out.up U)).mono ?_
            rintro _ w6 ⟨rfl, h6⟩
            replace U := U.trans h6
            replace C := C.up h6
            replace Y := Y.up h6
            clear h6
            obtain ⟨C0, C1, C2, C3, C4, C5, C6⟩ := Bf.cs C
            have C7 := Bf.lt C
            simp only [Nat.zero_add] at C0 C1 C2 C3 C4 C5 C6 C7
            go_upto_region 8 with fail
            go_region_held3 (fun w' => w'.cell? ⟨w4.heap.size, 0, none⟩ = some (.int .i64 f.k) ∧ w'.cell? ⟨w4.heap.size, 1, none⟩ = some (.int .i64 f.W) ∧ w'.cell? ⟨w4.heap.size, 2, none⟩ = some (.int .i64 f.m) ∧ w'.cell? ⟨w4.heap.size, 3, none⟩ = some (.int .i64 f.b) ∧ w'.cell? ⟨w4.heap.size, 4, none⟩ = some (.int .u64 f.t) ∧ w'.cell? ⟨w4.heap.size, 5, none⟩ = some (.int .u64 f.n) ∧ w'.cell? ⟨w4.heap.size, 6, none⟩ = some (.int .u64 f.x)) (go_keep) ((go_at_call 27; (with_reducible refine (CS.out _).mono ?_); rintro _ w30 ⟨rfl, h30⟩; have uw30 : Up w6 w30 := Up.trans (by first | with_reducible assumption | exact (Up.refl w6).drewN 1) h30; have cc0 := cell_up_ uw30 C0; have cc1 := cell_up_ uw30 C1; have cc2 := cell_up_ uw30 C2; have cc3 := cell_up_ uw30 C3; have cc4 := cell_up_ uw30 C4; have cc5 := cell_up_ uw30 C5; have cc6 := cell_up_ uw30 C6))
            replace Y := Y.up uw30
            clear C0 cc0 C1 cc1 C2 cc2 C3 cc3 C4 cc4 C5 cc5 C6 cc6
            have Y0 := Y.get 0
            have Y1 := Y.get 1
            have Y2 := Y.get 2
            have Y3 := Y.get 3
            have Yf0 := Y.fr 0
            have Yf1 := Y.fr 1
            have Yf2 := Y.fr 2
            have Yf3 := Y.fr 3
            have Yl := Y.lt
            simp only [List.getElem?_toArray, List.getElem?_cons_zero, List.getElem?_cons_succ] at Y0 Y1 Y2 Y3
            go_wp2_with fail
            go_ret
            exact ⟨by first | rfl | simp, U.trans uw30⟩
end Go.Proofs.YtjcbncfpcechnaaDoor
