import Derived.Test.YtcmlanfgafancaaGreatDoorQDKt
import Derived.Test.YtcmlanfgafancaaGreatDoorQDEx6
import Derived.Deep.RegionHeld3
import Derived.Deep.DrawnRows
import Derived.OwnWalk
set_option maxHeartbeats 32000000
set_option linter.unusedVariables false
set_option linter.unusedSimpArgs false
namespace Go.Proofs.YtcmlanfgafancaaGreatDoor
open Go.RowKit
set_option maxRecDepth 100000 in
theorem order_any (w : World) (A1 : Option Addr) (n1 c1 : Nat) (z1 : Int) (A2 : Option Addr) (n2 c2 : Nat) (z2 : Int) (ev : Bool) (lo lo' s s' : Nat) (ng ng' : Bool) (A B : Option Addr) (n c n' c' : Nat) (t f t' f' : Int) (a b : Nat) (h : Nt w lo s (.slice A n c) a) (h' : Nt w lo' s' (.slice B n' c') b) (hs : s ≤ 1000000) (hs' : s' ≤ 1000000) (bt : -5000 ≤ t ∧ t ≤ 5000) (bf : -5000 ≤ f ∧ f ≤ 5000) (bt' : -5000 ≤ t' ∧ t' ≤ 5000) (bf' : -5000 ≤ f' ∧ f' ≤ 5000) (r : Bool) (hr : Hid (r = true ↔ (M.sz a t f < M.sz b t' f' ∨ (M.sz a t f = M.sz b t' f' ∧ ev = true)))) : Calls Tryz.prog 216 #[.agg #[.bool false, .slice A1 n1 c1, .int .i64 z1, .int .i64 0, .bool false, .slice A2 n2 c2, .int .i64 z2, .int .i64 0, .bool ev], xv ng (.slice A n c) t f, xv ng' (.slice B n' c') t' f'] w (Bz r w) := by
 obtain ⟨z, hz⟩ : ∃ z, M.cmp (M.sz a t f) (M.sz b t' f') = z := ⟨_, rfl⟩
 have CC := Lib.hid (fun W (U : Up w W) => xcmp_ov (-5000) (by omega) W lo lo' s s' ng ng' (.slice A n c) (.slice B n' c') t f t' f' a b (h.nw.up U) (h'.nw.up U) hs hs' (by omega) (by omega) (by omega) (by omega) z (by rw [M.sz_ov, M.sz_ov]; exact hz))
 have hb := hr.out
 have rc : (z = -1 ∧ r = true) ∨ (z = 0 ∧ r = ev) ∨ (z = 1 ∧ r = false) := by
  rcases Nat.lt_trichotomy (M.sz a t f) (M.sz b t' f') with e | e | e
  ·exact .inl ⟨by rw [← hz, M.cmp_lt e], hb.2 (.inl e)⟩
  ·refine .inr (.inl ⟨by rw [← hz, M.cmp_eq e], ?_⟩)
   cases ev
   ·cases r
    ·rfl
    ·have := hb.1 rfl
     simp at this
     omega
   ·exact hb.2 (.inr ⟨e, rfl⟩)
  ·refine .inr (.inr ⟨by rw [← hz, M.cmp_gt e], ?_⟩)
   cases r
   ·rfl
   ·have := hb.1 rfl
    omega
 clear hr hb hz h h' hs hs' bt bf bt' bf'
 have U := Up.refl w
 go_enter Tryz.func216, Tryz.ntmps216
 go_wp2_with fail
 obtain ⟨V1, hV1⟩ : ∃ V1, w.alloc (.cells #[.bool false, .slice A1 n1 c1, .int .i64 z1, .int .i64 0, .bool false, .slice A2 n2 c2, .int .i64 z2, .int .i64 0, .bool ev] 90) = V1 := ⟨_, rfl⟩
 have S : Ob V1 (w.heap.size) 90 #[.bool false, .slice A1 n1 c1, .int .i64 z1, .int .i64 0, .bool false, .slice A2 n2 c2, .int .i64 z2, .int .i64 0, .bool ev] := by rw [← hV1]; exact Ob.mk_ _ _ _
 have sV1 : V1.heap.size = w.heap.size + 1 := by rw [← hV1]; exact (Array.size_push _)
 have uV1 : Up w V1 := Up.al hV1
 have ltS : w.heap.size ≤ w.heap.size := by have := U.size; omega
 rw [hV1]
 clear hV1
 replace U := U.trans uV1
 clear uV1
 obtain ⟨V2, hV2⟩ : ∃ V2, V1.alloc (.cells #[.bool ng, .slice A n c, .int .i64 t, .int .i64 f] 84) = V2 := ⟨_, rfl⟩
 have X : Ob V2 (w.heap.size + 1) 84 #[.bool ng, .slice A n c, .int .i64 t, .int .i64 f] := by rw [← sV1, ← hV2]; exact Ob.mk_ _ _ _
 have sV2 : V2.heap.size = w.heap.size + 1 + 1 := by rw [← hV2]; exact (Array.size_push _).trans (congrArg (· + 1) sV1)
 have uV2 : Up V1 V2 := Up.al hV2
 have ltX : w.heap.size ≤ w.heap.size + 1 := Nat.le_succ_of_le ltS
 rw [hV2]
 clear hV2
 replace S := S.up uV2
 replace U := U.trans uV2
 clear uV2
 obtain ⟨V3, hV3⟩ : ∃ V3, V2.alloc (.cells #[.bool ng', .slice B n' c', .int .i64 t', .int .i64 f'] 84) = V3 := ⟨_, rfl⟩
 have Y : Ob V3 (w.heap.size + 1 + 1) 84 #[.bool ng', .slice B n' c', .int .i64 t', .int .i64 f'] := by rw [← sV2, ← hV3]; exact Ob.mk_ _ _ _
 have sV3 : V3.heap.size = w.heap.size + 1 + 1 + 1 := by rw [← hV3]; exact (Array.size_push _).trans (congrArg (· + 1) sV2)
 have uV3 : Up V2 V3 := Up.al hV3
 have ltY : w.heap.size ≤ w.heap.size + 1 + 1 := Nat.le_succ_of_le ltX
 rw [hV3]
 clear hV3
 replace S := S.up uV3
 replace X := X.up uV3
 replace U := U.trans uV3
 clear uV3
 clear sV3 sV2 sV1
 have glS := S.lt
 have glX := X.lt
 have glY := Y.lt
 obtain ⟨X0, X1, X2, X3, Xf0, Xf1, Xf2, Xf3, Xl⟩ := X.c4
 obtain ⟨Y0, Y1, Y2, Y3, Yf0, Yf1, Yf2, Yf3, Yl⟩ := Y.c4
 go_wp2_with fail
 clear X0 Xf0 X1 Xf1 X2 Xf2 X3 Xf3 Xl
 clear Y0 Yf0 Y1 Yf1 Y2 Yf2 Y3 Yf3 Yl
 refine (CC.out _ U).mono ?_
 rintro _ w4 ⟨rfl, h4⟩
 replace U := U.trans h4
 replace S := S.up h4
 replace X := X.up h4
 replace Y := Y.up h4
 clear h4
 clear CC X Y
 rcases rc with ⟨rfl, rfl⟩ | ⟨rfl, rfl⟩ | ⟨rfl, rfl⟩
 all_goals
  obtain ⟨S0, S1, S2, S3, S4, S5, S6, S7, S8, Sf0, Sf1, Sf2, Sf3, Sf4, Sf5, Sf6, Sf7, Sf8, Sl⟩ := S.c9
  go_wp2_with fail
  go_ret
  exact ⟨by first | rfl | simp, U⟩
set_option maxRecDepth 100000 in
theorem has_any (w : World) (A1 : Option Addr) (n1 c1 : Nat) (z1 : Int) (A2 : Option Addr) (n2 c2 : Nat) (z2 : Int) (ev : Bool) (lo1 lo2 : Nat) (m1 m2 : Nat) (N1 : Nt w lo1 1 (.slice A1 n1 c1) m1) (N2 : Nt w lo2 1 (.slice A2 n2 c2) m2) (b1 : -3000 ≤ z1 ∧ z1 ≤ 3000) (b2 : -3000 ≤ z2 ∧ z2 ≤ 3000) (lo s : Nat) (ng : Bool) (A : Option Addr) (n c : Nat) (t f : Int) (a : Nat) (h : Nt w lo s (.slice A n c) a) (hs : s ≤ 1000000) (bt : -5000 ≤ t ∧ t ≤ 5000) (bf : -5000 ≤ f ∧ f ≤ 5000) (r : Bool) (hr : Hid (r = true ↔ M.In m1 z1 m2 z2 ev (M.sz a t f))) : Calls Tryz.prog 159 #[.agg #[.bool false, .slice A1 n1 c1, .int .i64 z1, .int .i64 0, .bool false, .slice A2 n2 c2, .int .i64 z2, .int .i64 0, .bool ev], xv ng (.slice A n c) t f] w (Bz r w) := by
 have hb := hr.out
 unfold M.In at hb
 obtain ⟨q, hq⟩ : ∃ q : Bool, q = true ↔ (M.sz m1 z1 0 < M.sz a t f ∨ (M.sz m1 z1 0 = M.sz a t f ∧ ev = true)) := by
  by_cases e : M.sz m1 z1 0 < M.sz a t f ∨ (M.sz m1 z1 0 = M.sz a t f ∧ ev = true)
  ·exact ⟨true, fun _ => e, fun _ => rfl⟩
  ·exact ⟨false, fun h => (by cases h), fun h => absurd h e⟩
 obtain ⟨q2, hq2⟩ : ∃ q : Bool, q = true ↔ (M.sz a t f < M.sz m2 z2 0 ∨ (M.sz a t f = M.sz m2 z2 0 ∧ ev = true)) := by
  by_cases e : M.sz a t f < M.sz m2 z2 0 ∨ (M.sz a t f = M.sz m2 z2 0 ∧ ev = true)
  ·exact ⟨true, fun _ => e, fun _ => rfl⟩
  ·exact ⟨false, fun h => (by cases h), fun h => absurd h e⟩
 have CL := Lib.hid (fun W (U : Up w W) => order_any W A1 n1 c1 z1 A2 n2 c2 z2 ev _ _ 1 s false ng A1 A n1 c1 n c z1 0 t f m1 a (N1.up U) (h.up U) (by omega) hs (by omega) (by omega) bt bf q hq)
 have CH := Lib.hid (fun W (U : Up w W) => order_any W A1 n1 c1 z1 A2 n2 c2 z2 ev _ _ s 1 ng false A A2 n c n2 c2 t f z2 0 a m2 (h.up U) (N2.up U) hs (by omega) bt bf (by omega) (by omega) q2 hq2)
 obtain ⟨z, hz⟩ : ∃ z : Int, ((M.bits m2 : Nat) : Int) = z := ⟨_, rfl⟩
 have CB := Lib.hid (fun W (U : Up w W) => bits_at2 W _ _ _ m2 z (N2.nw.up U) hz)
 have e0 : (z == 0) = decide (m2 = 0) := by rw [← hz, M.bits_eq_zero]
 have rc : (q = false ∧ r = false ∧ (z == 0) = decide (m2 = 0)) ∨ (q = true ∧ (z == 0) = true ∧ r = true) ∨ (q = true ∧ (z == 0) = false ∧ r = q2) := by
  cases q
  ·refine .inl ⟨rfl, ?_, e0⟩
   cases r
   ·rfl
   ·exact (hq.2 (hb.1 rfl).1).symm
  ·by_cases c : m2 = 0
   ·exact .inr (.inl ⟨rfl, by rw [e0]; exact decide_eq_true c, hb.2 ⟨hq.1 rfl, .inl c⟩⟩)
   ·refine .inr (.inr ⟨rfl, by rw [e0]; exact decide_eq_false c, ?_⟩)
    cases q2
    ·cases r
     ·rfl
     ·rcases (hb.1 rfl).2 with e | e
      ·exact absurd e c
      ·exact (hq2.2 e).symm
    ·exact hb.2 ⟨hq.1 rfl, .inr (hq2.1 rfl)⟩
 clear hr hb hq hq2 hz N1 N2 b1 b2 h hs bt bf e0
 rcases rc with ⟨rfl, rfl, e⟩ | ⟨rfl, e, rfl⟩ | ⟨rfl, e, rfl⟩
 ·
  clear e CH
  have U := Up.refl w
  go_enter Tryz.func159, Tryz.ntmps159
  go_wp2_with fail
  obtain ⟨V1, hV1⟩ : ∃ V1, w.alloc (.cells #[.bool false, .slice A1 n1 c1, .int .i64 z1, .int .i64 0, .bool false, .slice A2 n2 c2, .int .i64 z2, .int .i64 0, .bool ev] 90) = V1 := ⟨_, rfl⟩
  have S : Ob V1 (w.heap.size) 90 #[.bool false, .slice A1 n1 c1, .int .i64 z1, .int .i64 0, .bool false, .slice A2 n2 c2, .int .i64 z2, .int .i64 0, .bool ev] := by rw [← hV1]; exact Ob.mk_ _ _ _
  have sV1 : V1.heap.size = w.heap.size + 1 := by rw [← hV1]; exact (Array.size_push _)
  have uV1 : Up w V1 := Up.al hV1
  have ltS : w.heap.size ≤ w.heap.size := by have := U.size; omega
  rw [hV1]
  clear hV1
  replace U := U.trans uV1
  clear uV1
  obtain ⟨V2, hV2⟩ : ∃ V2, V1.alloc (.cells #[.bool ng, .slice A n c, .int .i64 t, .int .i64 f] 84) = V2 := ⟨_, rfl⟩
  have X : Ob V2 (w.heap.size + 1) 84 #[.bool ng, .slice A n c, .int .i64 t, .int .i64 f] := by rw [← sV1, ← hV2]; exact Ob.mk_ _ _ _
  have sV2 : V2.heap.size = w.heap.size + 1 + 1 := by rw [← hV2]; exact (Array.size_push _).trans (congrArg (· + 1) sV1)
  have uV2 : Up V1 V2 := Up.al hV2
  have ltX : w.heap.size ≤ w.heap.size + 1 := Nat.le_succ_of_le ltS
  rw [hV2]
  clear hV2
  replace S := S.up uV2
  replace U := U.trans uV2
  clear uV2
  clear sV2 sV1
  have glS := S.lt
  have glX := X.lt
  obtain ⟨S0, S1, S2, S3, S4, S5, S6, S7, S8, Sf0, Sf1, Sf2, Sf3, Sf4, Sf5, Sf6, Sf7, Sf8, Sl⟩ := S.c9
  go_wp2_with fail
  clear S0 Sf0 S1 Sf1 S2 Sf2 S3 Sf3 S4 Sf4 S5 Sf5 S6 Sf6 S7 Sf7 S8 Sf8 Sl
  refine (CB.out _ U).mono ?_
  rintro _ _ ⟨rfl, rfl⟩
  clear CB
  obtain ⟨S0, S1, S2, S3, S4, S5, S6, S7, S8, Sf0, Sf1, Sf2, Sf3, Sf4, Sf5, Sf6, Sf7, Sf8, Sl⟩ := S.c9
  obtain ⟨X0, X1, X2, X3, Xf0, Xf1, Xf2, Xf3, Xl⟩ := X.c4
  go_wp2_with fail
  clear S0 Sf0 S1 Sf1 S2 Sf2 S3 Sf3 S4 Sf4 S5 Sf5 S6 Sf6 S7 Sf7 S8 Sf8 Sl
  clear X0 Xf0 X1 Xf1 X2 Xf2 X3 Xf3 Xl
  refine (CL.out _ U).mono ?_
  rintro _ w3 ⟨rfl, h3⟩
  replace U := U.trans h3
  replace S := S.up h3
  replace X := X.up h3
  clear h3
  clear CL
  go_wp2_with fail
  go_ret
  exact ⟨by first | rfl | simp, U⟩
 ·
  have U := Up.refl w
  go_enter Tryz.func159, Tryz.ntmps159
  go_wp2_with fail
  obtain ⟨V1, hV1⟩ : ∃ V1, w.alloc (.cells #[.bool false, .slice A1 n1 c1, .int .i64 z1, .int .i64 0, .bool false, .slice A2 n2 c2, .int .i64 z2, .int .i64 0, .bool ev] 90) = V1 := ⟨_, rfl⟩
  have S : Ob V1 (w.heap.size) 90 #[.bool false, .slice A1 n1 c1, .int .i64 z1, .int .i64 0, .bool false, .slice A2 n2 c2, .int .i64 z2, .int .i64 0, .bool ev] := by rw [← hV1]; exact Ob.mk_ _ _ _
  have sV1 : V1.heap.size = w.heap.size + 1 := by rw [← hV1]; exact (Array.size_push _)
  have uV1 : Up w V1 := Up.al hV1
  have ltS : w.heap.size ≤ w.heap.size := by have := U.size; omega
  rw [hV1]
  clear hV1
  replace U := U.trans uV1
  clear uV1
  obtain ⟨V2, hV2⟩ : ∃ V2, V1.alloc (.cells #[.bool ng, .slice A n c, .int .i64 t, .int .i64 f] 84) = V2 := ⟨_, rfl⟩
  have X : Ob V2 (w.heap.size + 1) 84 #[.bool ng, .slice A n c, .int .i64 t, .int .i64 f] := by rw [← sV1, ← hV2]; exact Ob.mk_ _ _ _
  have sV2 : V2.heap.size = w.heap.size + 1 + 1 := by rw [← hV2]; exact (Array.size_push _).trans (congrArg (· + 1) sV1)
  have uV2 : Up V1 V2 := Up.al hV2
  have ltX : w.heap.size ≤ w.heap.size + 1 := Nat.le_succ_of_le ltS
  rw [hV2]
  clear hV2
  replace S := S.up uV2
  replace U := U.trans uV2
  clear uV2
  clear sV2 sV1
  have glS := S.lt
  have glX := X.lt
  obtain ⟨S0, S1, S2, S3, S4, S5, S6, S7, S8, Sf0, Sf1, Sf2, Sf3, Sf4, Sf5, Sf6, Sf7, Sf8, Sl⟩ := S.c9
  go_wp2_with fail
  clear S0 Sf0 S1 Sf1 S2 Sf2 S3 Sf3 S4 Sf4 S5 Sf5 S6 Sf6 S7 Sf7 S8 Sf8 Sl
  refine (CB.out _ U).mono ?_
  rintro _ _ ⟨rfl, rfl⟩
  clear CB
  obtain ⟨S0, S1, S2, S3, S4, S5, S6, S7, S8, Sf0, Sf1, Sf2, Sf3, Sf4, Sf5, Sf6, Sf7, Sf8, Sl⟩ := S.c9
  obtain ⟨X0, X1, X2, X3, Xf0, Xf1, Xf2, Xf3, Xl⟩ := X.c4
  go_wp2_with fail
  clear S0 Sf0 S1 Sf1 S2 Sf2 S3 Sf3 S4 Sf4 S5 Sf5 S6 Sf6 S7 Sf7 S8 Sf8 Sl
  clear X0 Xf0 X1 Xf1 X2 Xf2 X3 Xf3 Xl
  refine (CL.out _ U).mono ?_
  rintro _ w3 ⟨rfl, h3⟩
  replace U := U.trans h3
  replace S := S.up h3
  replace X := X.up h3
  clear h3
  clear CL
  go_wp2_with fail
  go_ret
  exact ⟨by first | rfl | simp, U⟩
 ·
  have U := Up.refl w
  go_enter Tryz.func159, Tryz.ntmps159
  go_wp2_with fail
  obtain ⟨V1, hV1⟩ : ∃ V1, w.alloc (.cells #[.bool false, .slice A1 n1 c1, .int .i64 z1, .int .i64 0, .bool false, .slice A2 n2 c2, .int .i64 z2, .int .i64 0, .bool ev] 90) = V1 := ⟨_, rfl⟩
  have S : Ob V1 (w.heap.size) 90 #[.bool false, .slice A1 n1 c1, .int .i64 z1, .int .i64 0, .bool false, .slice A2 n2 c2, .int .i64 z2, .int .i64 0, .bool ev] := by rw [← hV1]; exact Ob.mk_ _ _ _
  have sV1 : V1.heap.size = w.heap.size + 1 := by rw [← hV1]; exact (Array.size_push _)
  have uV1 : Up w V1 := Up.al hV1
  have ltS : w.heap.size ≤ w.heap.size := by have := U.size; omega
  rw [hV1]
  clear hV1
  replace U := U.trans uV1
  clear uV1
  obtain ⟨V2, hV2⟩ : ∃ V2, V1.alloc (.cells #[.bool ng, .slice A n c, .int .i64 t, .int .i64 f] 84) = V2 := ⟨_, rfl⟩
  have X : Ob V2 (w.heap.size + 1) 84 #[.bool ng, .slice A n c, .int .i64 t, .int .i64 f] := by rw [← sV1, ← hV2]; exact Ob.mk_ _ _ _
  have sV2 : V2.heap.size = w.heap.size + 1 + 1 := by rw [← hV2]; exact (Array.size_push _).trans (congrArg (· + 1) sV1)
  have uV2 : Up V1 V2 := Up.al hV2
  have ltX : w.heap.size ≤ w.heap.size + 1 := Nat.le_succ_of_le ltS
  rw [hV2]
  clear hV2
  replace S := S.up uV2
  replace U := U.trans uV2
  clear uV2
  clear sV2 sV1
  have glS := S.lt
  have glX := X.lt
  obtain ⟨S0, S1, S2, S3, S4, S5, S6, S7, S8, Sf0, Sf1, Sf2, Sf3, Sf4, Sf5, Sf6, Sf7, Sf8, Sl⟩ := S.c9
  go_wp2_with fail
  clear S0 Sf0 S1 Sf1 S2 Sf2 S3 Sf3 S4 Sf4 S5 Sf5 S6 Sf6 S7 Sf7 S8 Sf8 Sl
  refine (CB.out _ U).mono ?_
  rintro _ _ ⟨rfl, rfl⟩
  clear CB
  obtain ⟨S0, S1, S2, S3, S4, S5, S6, S7, S8, Sf0, Sf1, Sf2, Sf3, Sf4, Sf5, Sf6, Sf7, Sf8, Sl⟩ := S.c9
  obtain ⟨X0, X1, X2, X3, Xf0, Xf1, Xf2, Xf3, Xl⟩ := X.c4
  go_wp2_with fail
  clear S0 Sf0 S1 Sf1 S2 Sf2 S3 Sf3 S4 Sf4 S5 Sf5 S6 Sf6 S7 Sf7 S8 Sf8 Sl
  clear X0 Xf0 X1 Xf1 X2 Xf2 X3 Xf3 Xl
  refine (CL.out _ U).mono ?_
  rintro _ w3 ⟨rfl, h3⟩
  replace U := U.trans h3
  replace S := S.up h3
  replace X := X.up h3
  clear h3
  clear CL
  obtain ⟨S0, S1, S2, S3, S4, S5, S6, S7, S8, Sf0, Sf1, Sf2, Sf3, Sf4, Sf5, Sf6, Sf7, Sf8, Sl⟩ := S.c9
  obtain ⟨X0, X1, X2, X3, Xf0, Xf1, Xf2, Xf3, Xl⟩ := X.c4
  go_wp2_with fail
  clear S0 Sf0 S1 Sf1 S2 Sf2 S3 Sf3 S4 Sf4 S5 Sf5 S6 Sf6 S7 Sf7 S8 Sf8 Sl
  clear X0 Xf0 X1 Xf1 X2 Xf2 X3 Xf3 Xl
  refine (CH.out _ U).mono ?_
  rintro _ w4 ⟨rfl, h4⟩
  replace U := U.trans h4
  replace S := S.up h4
  replace X := X.up h4
  clear h4
  go_wp2_with fail
  go_ret
  exact ⟨by first | rfl | simp, U⟩
end Go.Proofs.YtcmlanfgafancaaGreatDoor
