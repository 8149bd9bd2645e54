import Derived.Test.YtcmlanfgafancaaGreatDoorQSGc
set_option maxHeartbeats 32000000
set_option linter.unusedVariables false
set_option linter.unusedSimpArgs false
namespace Go.Proofs.YtcmlanfgafancaaGreatDoor
open Go.RowKit Go.Shelf
namespace M
theorem apart_ex {ii : Int} {p q : Nat} {c c' : Int} {g g' : Bool} {m m' : Nat} {z z' : Int} (d : Dc ii p c g m z 0) (d' : Dc ii q c' g' m' z' 0) :
  ∃ l l' n n' c' g' m' z', Dc ii q c' g' m' z' 0 ∧ Pr ii p false l 0 ∧ Pr ii q false l' 0 ∧ Pr ii p true n 0 ∧ Pr ii q true n' 0 ∧ (l = l' ↔ c = c' ∧ g = g' ∧ m = m' ∧ z = z') ∧ (n = n' ↔ c = c' ∧ g = g' ∧ m = m' ∧ z = z') := by
 obtain ⟨l, x, hl⟩ := pr_ex ii p false
 obtain ⟨n, y, hn⟩ := pr_ex ii p true
 obtain rfl := pr_zero hl d
 obtain rfl := pr_zero hn d
 by_cases e : p = q
 ·subst e
  exact ⟨l, l, n, n, c, g, m, z, d, hl, hl, hn, hn, ⟨fun _ => ⟨rfl, rfl, rfl, rfl⟩, fun _ => rfl⟩, ⟨fun _ => ⟨rfl, rfl, rfl, rfl⟩, fun _ => rfl⟩⟩
 ·obtain ⟨l', x', hl'⟩ := pr_ex ii q false
  obtain ⟨n', y', hn'⟩ := pr_ex ii q true
  obtain rfl := pr_zero hl' d'
  obtain rfl := pr_zero hn' d'
  exact ⟨l, l', n, n', c', g', m', z', d', hl, hl', hn, hn', pr_apart hl hl' d d' e, pr_apart hn hn' d d' e⟩
end M
set_option maxRecDepth 100000 in
theorem papart_walk (w : World) (L : Lq w) (F : Prn) (x0 : Int) (_wx0 : (Lit.int .i64 x0).wf = true) (x1 : Int) (_wx1 : (Lit.int .u64 x1).wf = true) (x2 : Int) (_wx2 : (Lit.int .u64 x2).wf = true) : Calls Tryz.prog 8 #[.int .i64 x0, .int .u64 x1, .int .u64 x2] w (True13 w) := by
 obtain ⟨p, rfl, pb⟩ := wf_u64 _wx1
 obtain ⟨q, rfl, qb⟩ := wf_u64 _wx2
 have CH := Lib.hid (shown13_any F w L)
 have U := Up.refl w
 obtain ⟨c, g, m, z, e1, hd⟩ := M.dc_ex x0 p
 obtain ⟨c', g', m', z', e2, hd'⟩ := M.dc_ex x0 q
 have HL := Lib.hid L
 by_cases way : e1 = 0 ∧ e2 = 0
 ·obtain ⟨rfl, rfl⟩ := way
  obtain ⟨l, l', n, n', c', g', m', z', hd', h1, h2, h3, h4, h5, h6⟩ := M.apart_ex hd hd'
  have C1 := Lib.hid (fun W (u : Up w W) => vdecode_any W (Lib.hid (L.up u).low) (Lib.hid (L.up u).form) x0 p pb c g m z 0 hd)
  have C2 := Lib.hid (fun W (u : Up w W) => vdecode_any W (Lib.hid (L.up u).low) (Lib.hid (L.up u).form) x0 q qb c' g' m' z' 0 hd')
  have C3 := Lib.hid (fun W (u : Up w W) => of13_any F W (L.up u) x0 p pb l 0 h1)
  have C4 := Lib.hid (fun W (u : Up w W) => of13_any F W (L.up u) x0 q qb l' 0 h2)
  have C5 := Lib.hid (fun W (u : Up w W) => F.full W x0 p n 0 (L.up u) pb h3)
  have C6 := Lib.hid (fun W (u : Up w W) => F.full W x0 q n' 0 (L.up u) qb h4)
  obtain ⟨b, hb⟩ : ∃ b, decide (c = c' ∧ g = g' ∧ m = m' ∧ z = z') = b := ⟨_, rfl⟩
  have H5 : Hid (decide (l = l') = b) := by
   show _ = _
   rw [← hb, Bool.eq_iff_iff, decide_eq_true_iff, decide_eq_true_iff]
   exact h5
  have H6 : Hid (decide (n = n') = b) := by
   show _ = _
   rw [← hb, Bool.eq_iff_iff, decide_eq_true_iff, decide_eq_true_iff]
   exact h6
  have HB := Lib.hid hb
  clear hd hd' h1 h2 h3 h4 h5 h6 hb F L pb qb HL
  go_enter Tryz.func8, Tryz.ntmps8
  go_wp2_with fail
  refine CH.out.mono ?_
  rintro _ w1 ⟨rfl, u1⟩
  replace U := U.trans u1
  clear u1 CH
  go_wp2_with fail
  refine (C1.out _ (by first | exact U | exact U.drew)).mono ?_
  rintro _ w2 ⟨rfl, u2⟩
  replace U := Up.trans (by first | exact U | exact U.drew) u2
  clear u2 C1
  go_upto_region 3 with (refine store_ob rfl 38 (.tmp 8) (.tmp 23) rfl _ #[.int .i64 0, .bool false, .int .u64 0, .int .i64 0] #[.int .i64 c, .bool g, u64 m, .int .i64 z] rfl rfl 4 (by kernel_rfl) rfl rfl (by simp [Value.oneCell']) w2 ((Up.refl _).alloc _) (Nat.le_refl _) 38 (Ob.mk_ _ _ _) ?_; intro V2 X2 q2)
  replace U := U.trans q2
  obtain ⟨ga, hga⟩ : ∃ g, w2.heap.size = g := ⟨_, rfl⟩
  rw [hga] at X2 ⊢
  clear q2 hga
  go_wp2_with fail
  refine (C2.out _ (by first | exact U | exact U.drew)).mono ?_
  rintro _ w3 ⟨rfl, u3⟩
  replace U := Up.trans (by first | exact U | exact U.drew) u3
  replace X2 := X2.up u3
  clear u3 C2
  go_upto_region 4 with (refine store_ob rfl 38 (.tmp 10) (.tmp 29) rfl _ #[.int .i64 0, .bool false, .int .u64 0, .int .i64 0] #[.int .i64 c', .bool g', u64 m', .int .i64 z'] rfl rfl 4 (by kernel_rfl) rfl rfl (by simp [Value.oneCell']) w3 ((Up.refl _).alloc _) (Nat.le_refl _) 38 (Ob.mk_ _ _ _) ?_; intro V3 X3 q3)
  replace U := U.trans q3
  replace X2 := X2.up q3
  obtain ⟨gb, hgb⟩ : ∃ g, w3.heap.size = g := ⟨_, rfl⟩
  rw [hgb] at X3 ⊢
  clear q3 hgb
  go_wp2_with fail
  refine (C3.out _ (by first | exact U | exact U.drew)).mono ?_
  rintro _ w4 ⟨S, rfl, tS, u4⟩
  replace U := Up.trans (by first | exact U | exact U.drew) u4
  replace X2 := X2.up u4
  replace X3 := X3.up u4
  have HS := Lib.hid tS
  clear u4 C3 tS
  go_wp2_with fail
  refine (C4.out _ (by first | exact U | exact U.drew)).mono ?_
  rintro _ w5 ⟨T, rfl, tT, u5⟩
  replace U := Up.trans (by first | exact U | exact U.drew) u5
  replace X2 := X2.up u5
  replace X3 := X3.up u5
  have HT := Lib.hid tT
  clear u5 C4 tT
  go_wp2_with fail
  refine (C5.out _ (by first | exact U | exact U.drew)).mono ?_
  rintro _ w6 ⟨Y, rfl, tY, u6⟩
  replace U := Up.trans (by first | exact U | exact U.drew) u6
  replace X2 := X2.up u6
  replace X3 := X3.up u6
  have HY := Lib.hid tY
  clear u6 C5 tY
  go_wp2_with fail
  refine (C6.out _ (by first | exact U | exact U.drew)).mono ?_
  rintro _ w7 ⟨Z, rfl, tZ, u7⟩
  replace U := Up.trans (by first | exact U | exact U.drew) u7
  replace X2 := X2.up u7
  replace X3 := X3.up u7
  have HZ := Lib.hid tZ
  clear u7 C6 tZ
  have q1 : (S.toList == T.toList) = b := by
   rw [Lib.toList_data, Lib.toList_data, show S.data.toList = l from HS.out, show T.data.toList = l' from HT.out, ← H5.out, Bool.eq_iff_iff, beq_iff_eq, decide_eq_true_iff]
  have q2 : (Y.toList == Z.toList) = b := by
   rw [Lib.toList_data, Lib.toList_data, show Y.data.toList = n from HY.out, show Z.data.toList = n' from HZ.out, ← H6.out, Bool.eq_iff_iff, beq_iff_eq, decide_eq_true_iff]
  have v0 := X2.get 0
  have v1 := X2.get 1
  have v2 := X2.get 2
  have v3 := X2.get 3
  have y0 := X3.get 0
  have y1 := X3.get 1
  have y2 := X3.get 2
  have y3 := X3.get 3
  simp only [M.z7, M.z8, M.z9] at v0 v1 v2 v3 y0 y1 y2 y3
  have bb : (b == b) = true := by simp
  have hbv := HB.out
  clear HB H5 H6 HS HT HY HZ
  cases b with
  | true =>
   obtain ⟨rfl, rfl, rfl, rfl⟩ := of_decide_eq_true hbv
   clear hbv
   go_wp2_with fail
   all_goals go_ret
   all_goals exact ⟨by first | rfl | simp, by first | exact U | exact U.drew⟩
  | false =>
   have hv := of_decide_eq_false hbv
   clear hbv
   by_cases a1 : c = c'
   ·subst a1
    by_cases a2 : g = g'
    ·subst a2
     by_cases a3 : m = m'
     ·subst a3
      have a4 : ¬ z = z' := fun e => hv ⟨rfl, rfl, rfl, e⟩
      clear hv
      go_wp2_with fail
      all_goals go_ret
      all_goals exact ⟨by first | rfl | simp, by first | exact U | exact U.drew⟩
     ·have a5 : ¬ (m : Int) = (m' : Int) := by omega
      clear hv a3
      go_wp2_with fail
      all_goals go_ret
      all_goals exact ⟨by first | rfl | simp, by first | exact U | exact U.drew⟩
    ·clear hv
     go_wp2_with fail
     all_goals go_ret
     all_goals exact ⟨by first | rfl | simp, by first | exact U | exact U.drew⟩
   ·clear hv
    go_wp2_with fail
    all_goals go_ret
    all_goals exact ⟨by first | rfl | simp, by first | exact U | exact U.drew⟩
 ·have DD : ((e1 != 0) = true) ∨ ((e1 != 0) = false ∧ (e2 != 0) = true) := by
   by_cases a : e1 = 0
   ·exact .inr ⟨by simpa using a, by simpa using fun b => way ⟨a, b⟩⟩
   ·exact .inl (by simpa using a)
  have C1 := Lib.hid (fun W (u : Up w W) => vdecode_any W (Lib.hid (L.up u).low) (Lib.hid (L.up u).form) x0 p pb c g m z e1 hd)
  have C2 := Lib.hid (fun W (u : Up w W) => vdecode_any W (Lib.hid (L.up u).low) (Lib.hid (L.up u).form) x0 q qb c' g' m' z' e2 hd')
  clear hd hd' way F L pb qb HL
  rcases DD with d1 | ⟨d1, d2⟩
  all_goals
   go_enter Tryz.func8, Tryz.ntmps8
   go_wp2_with fail
   refine CH.out.mono ?_
   rintro _ w1 ⟨rfl, u1⟩
   replace U := U.trans u1
   clear u1 CH
   go_wp2_with fail
   refine (C1.out _ (by first | exact U | exact U.drew)).mono ?_
   rintro _ w2 ⟨rfl, u2⟩
   replace U := Up.trans (by first | exact U | exact U.drew) u2
   clear u2 C1
   go_upto_region 3 with (refine store_ob rfl 38 (.tmp 8) (.tmp 23) rfl _ #[.int .i64 0, .bool false, .int .u64 0, .int .i64 0] #[.int .i64 c, .bool g, u64 m, .int .i64 z] rfl rfl 4 (by kernel_rfl) rfl rfl (by simp [Value.oneCell']) w2 ((Up.refl _).alloc _) (Nat.le_refl _) 38 (Ob.mk_ _ _ _) ?_; intro V2 X2 q2)
   replace U := U.trans q2
   clear q2 X2
   go_wp2_with fail
   refine (C2.out _ (by first | exact U | exact U.drew)).mono ?_
   rintro _ w3 ⟨rfl, u3⟩
   replace U := Up.trans (by first | exact U | exact U.drew) u3
   clear u3 C2
   go_upto_region 4 with (refine store_ob rfl 38 (.tmp 10) (.tmp 29) rfl _ #[.int .i64 0, .bool false, .int .u64 0, .int .i64 0] #[.int .i64 c', .bool g', u64 m', .int .i64 z'] rfl rfl 4 (by kernel_rfl) rfl rfl (by simp [Value.oneCell']) w3 ((Up.refl _).alloc _) (Nat.le_refl _) 38 (Ob.mk_ _ _ _) ?_; intro V3 X3 q3)
   replace U := U.trans q3
   clear q3 X3
   go_wp2_with fail
   go_ret
   exact ⟨by first | rfl | simp, by first | exact U | exact U.drew⟩
end Go.Proofs.YtcmlanfgafancaaGreatDoor
