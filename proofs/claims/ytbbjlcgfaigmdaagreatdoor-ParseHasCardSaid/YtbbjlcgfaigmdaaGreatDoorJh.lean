/-
  The walk of ParseHas: true, and nothing that was there has turned.
-/
import Derived.Test.YtbbjlcgfaigmdaaGreatDoorJh0
namespace Go.Proofs.YtbbjlcgfaigmdaaGreatDoor
open Go.RowKit Go.Shelf
set_option linter.unusedSimpArgs false
set_option linter.unusedVariables false

set_option maxHeartbeats 4000000 in
set_option maxRecDepth 100000 in
theorem phas_none (w : World) (L : Hid (Lp w)) (x0 x1 : Int) (x2 : Bool) (x3 : Int) (x4 : Bool) (q g : Int) (CM : Hid (∀ W, TabF W → Calls Tryz.prog 13 #[.int .i64 x0, .bool x2] W (Wn q g W))) (g0 : (g != 0) = true) (p : Int) (n : Nat) (e : Int) (CP : Hid (∀ W, Up w W → Calls Tryz.prog 11 #[.int .i64 x0, .int .i64 x1, .string ⟨#[49]⟩] W (Pn p n e W))) (e0 : (e != 0) = true ∨ (e != 0) = false) : Calls Tryz.prog 4 #[.int .i64 x0, .int .i64 x1, .bool x2, .int .u64 x3, .bool x4] w (True10 w) := by
  rcases e0 with e0 | e0
  all_goals
    have U := Up.refl w
    go_enter Tryz.func4, Tryz.ntmps4
    go_wp2_with fail
    refine (shown10_any _ L).mono ?_
    rintro _ w1 ⟨rfl, u_⟩
    replace U := U.trans u_
    clear u_
    go_wp2_with fail
    refine (CM.out _ (L.out.up U).form).mono ?_
    rintro _ w2 ⟨rfl, u_⟩
    replace U := U.trans u_
    clear u_ CM
    go_wp2_with fail
    refine (CP.out _ U).mono ?_
    rintro _ w3 ⟨rfl, u_⟩
    replace U := U.trans u_
    clear u_ CP
    go_wp2_with fail
    go_ret
    exact ⟨rfl, U⟩
set_option maxHeartbeats 4000000 in
set_option maxRecDepth 100000 in
theorem phas_mode (w : World) (L : Hid (Lp w)) (x0 x1 : Int) (x2 : Bool) (x3 : Int) (x4 : Bool) (q : Int) (CM : Hid (∀ W, TabF W → Calls Tryz.prog 13 #[.int .i64 x0, .bool x2] W (Wn q 0 W))) (m1 : (x1 != 1) = true) (m2 : (x1 != 2) = true) (p : Int) (n : Nat) (CP : Hid (∀ W, Up w W → Calls Tryz.prog 11 #[.int .i64 x0, .int .i64 x1, .string ⟨#[49]⟩] W (Pn p n 1 W))) : Calls Tryz.prog 4 #[.int .i64 x0, .int .i64 x1, .bool x2, .int .u64 x3, .bool x4] w (True10 w) := by
  have U := Up.refl w
  go_enter Tryz.func4, Tryz.ntmps4
  go_wp2_with fail
  refine (shown10_any _ L).mono ?_
  rintro _ w1 ⟨rfl, u_⟩
  replace U := U.trans u_
  clear u_
  go_wp2_with fail
  refine (CM.out _ (L.out.up U).form).mono ?_
  rintro _ w2 ⟨rfl, u_⟩
  replace U := U.trans u_
  clear u_ CM
  go_wp2_with fail
  refine (CP.out _ U).mono ?_
  rintro _ w3 ⟨rfl, u_⟩
  replace U := U.trans u_
  clear u_ CP
  go_wp2_with fail
  go_ret
  exact ⟨rfl, U⟩
set_option maxHeartbeats 4000000 in
set_option maxRecDepth 100000 in
theorem phas_main (w : World) (L : Hid (Lp w)) (i : Nat) (x1 : Int) (x2 : Bool) (K : Nat) (x4 : Bool) (q k m : Nat) (z p : Int) (f : M.Fm) (S : ByteArray) (CM : Hid (∀ W, TabF W → Calls Tryz.prog 13 #[.int .i64 (i : Int), .bool x2] W (Wn (q : Int) 0 W)))
    (m1 : (x1 != 1) = false ∨ ((x1 != 1) = true ∧ (x1 != 2) = false)) (wq : IntKind.u64.wrap ((q : Int) + 1) = (q : Int) + 1) (q0 : ((q : Int) + 1 == 0) = false) (q1 : ¬ (q : Int) + 1 = 0) (hr : (K : Int).tmod ((q : Int) + 1) = (k : Int)) (hr2 : (K : Int) % ((q : Int) + 1) = (k : Int))
    (CPT : Hid (∀ W, TabF W → Calls Tryz.prog 14 #[.int .i64 (i : Int), .bool x2, u64 k] W (Wn p 0 W))) (CA : Hid (∀ W, Lp W → Calls Tryz.prog 15 #[.int .i64 (i : Int), u64 k] W (Mzx m z 0 W)))
    (CO : Hid (∀ W, TabF W → Calls Tryz.prog 16 #[.int .i64 (i : Int)] W (Fn f 0 W))) (k4 : (f.k == 4) = false ∨ ((f.k == 4) = true ∧ x2 = false)) (CT : Hid (∀ W, Up w W → Calls Tryz.prog 17 #[.bool x2, u64 m, .int .i64 z, .bool x4] W (Str S W)))
    (CP : Hid (∀ W, Up w W → Calls Tryz.prog 11 #[.int .i64 (i : Int), .int .i64 x1, .string S] W (Pn p 0 0 W))) : Calls Tryz.prog 4 #[.int .i64 (i : Int), .int .i64 x1, .bool x2, .int .u64 (K : Int), .bool x4] w (True10 w) := by
  rcases m1 with m1 | ⟨m1, m2⟩
  all_goals
    have U := Up.refl w
    go_enter Tryz.func4, Tryz.ntmps4
    go_wp2_with fail
    refine (shown10_any _ L).mono ?_
    rintro _ w1 ⟨rfl, u_⟩
    replace U := U.trans u_
    clear u_
    go_wp2_with fail
    refine (CM.out _ (L.out.up U).form).mono ?_
    rintro _ w2 ⟨rfl, u_⟩
    replace U := U.trans u_
    clear u_ CM
    go_wp2_with fail
    refine (CPT.out _ (L.out.up U).form).mono ?_
    rintro _ w3 ⟨rfl, u_⟩
    replace U := U.trans u_
    clear u_ CPT
    go_wp2_with fail
    refine (CA.out _ (L.out.up U)).mono ?_
    rintro _ w4 ⟨rfl, u_⟩
    replace U := U.trans u_
    clear u_ CA
    go_wp2_with fail
    refine (CO.out _ (L.out.up U).form).mono ?_
    rintro _ w5 ⟨rfl, u_⟩
    replace U := U.trans u_
    clear u_ CO
    go_upto_region 10 with fail
    obtain ⟨V1, hV1⟩ : ∃ V, w5.alloc (.cells #[.int .i64 f.k, .int .i64 f.W, .int .i64 f.m, .int .i64 f.b, .int .u64 f.t, .int .u64 f.n, .int .u64 f.x] 33) = V := ⟨_, rfl⟩
    have C : Bf V1 w5.heap.size 33 f := by rw [← hV1]; exact Bf.mk_ w5 f 33
    have u_ : Up w5 V1 := by rw [← hV1]; exact (Up.refl _).alloc _
    rw [hV1]
    clear hV1
    replace U := U.trans u_
    clear u_
    obtain ⟨C0, C1, C2, C3, C4, C5, C6⟩ := Bf.cs C
    simp only [Nat.zero_add] at C0 C1 C2 C3 C4 C5 C6
    rcases k4 with k4 | ⟨k4, rfl⟩
    all_goals
      go_wp2_with fail
      refine (CT.out _ U).mono ?_
      rintro _ w6 ⟨rfl, u_⟩
      replace U := U.trans u_
      clear u_ CT C C0 C1 C2 C3 C4 C5 C6
      go_wp2_with fail
      refine (CP.out _ U).mono ?_
      rintro _ w7 ⟨rfl, u_⟩
      replace U := U.trans u_
      clear u_ CP
      go_wp2_with fail
      go_ret
      exact ⟨rfl, U⟩
set_option maxHeartbeats 4000000 in
set_option maxRecDepth 100000 in
theorem phas_walk (w : World) (L : Hid (Lp w)) (x0 : Int) (_wx0 : (Lit.int .i64 x0).wf = true) (x1 : Int) (_wx1 : (Lit.int .i64 x1).wf = true) (x2 : Bool) (x3 : Int) (wx3 : (Lit.int .u64 x3).wf = true) (x4 : Bool) : Calls Tryz.prog 4 #[.int .i64 x0, .int .i64 x1, .bool x2, .int .u64 x3, .bool x4] w (True10 w) := by
  have nb : ∀ {x y : Int}, x ≠ y → (x != y) = true := fun h => by simpa using h
  have ne : ∀ {x y : Int}, x = y → (x != y) = false := fun h => by simpa using h
  have qb : ∀ {x y : Int}, x = y → (x == y) = true := fun h => by simpa using h
  have qe : ∀ {x y : Int}, x ≠ y → (x == y) = false := fun h => by simpa using h
  obtain ⟨K, rfl, hK⟩ := wf_u64 wx3
  have one : ∀ (p : Int) (n : Nat) (e : Int), M.Jc x0 x1 [49] p n e → Hid (∀ W, Up w W → Calls Tryz.prog 11 #[.int .i64 x0, .int .i64 x1, .string ⟨#[49]⟩] W (Pn p n e W)) := fun p n e hj => fun W U => jparse_any W (Lib.hid (L.out.up U)) x0 x1 ⟨#[49]⟩ [49] (Lib.hid rfl) (show (1 : Nat) ≤ 1000000 by decide) p n e hj
  have bad : ∀ q g : Int, M.Mc x0 x2 q g → g ≠ 0 → Calls Tryz.prog 4 #[.int .i64 x0, .int .i64 x1, .bool x2, .int .u64 (K : Int), .bool x4] w (True10 w) := fun q g hm g0 => by
    obtain ⟨p, n, e, hj⟩ := M.jc_ex x0 x1 [49]
    exact phas_none w L x0 x1 x2 (K : Int) x4 q g (Lib.hid fun W F => vmost_any W (Lib.hid F) x0 x2 q g hm) (nb g0) p n e (one p n e hj) (by by_cases c : e = 0; exact .inr (ne c); exact .inl (nb c))
  rcases M.in_or_out x0 with h | ⟨i, rfl, i1, i2⟩
  · exact bad 0 3 (.inl ⟨h, rfl, rfl⟩) (by decide)
  have ok := M.ok i i1 i2
  have ok2 := M.ok2 i i1 i2
  have ok3 := M.ok3 i i1 i2
  by_cases c4 : (M.tb i).k = 4 ∧ x2 = true
  · exact bad 0 5 (.inr ⟨i, rfl, i1, i2, .inl ⟨c4.1, c4.2, rfl, rfl⟩⟩) (by decide)
  obtain ⟨q, hq, q3, qb', qt⟩ := M.mst_rng ok ok2 ok3 x2
  have hM := fun W (F : TabF W) => vmost_any W (Lib.hid F) (i : Int) x2 (q : Int) 0 (.inr ⟨i, rfl, i1, i2, .inr ⟨c4, hq.symm, rfl⟩⟩)
  by_cases cm : ¬ (x1 = 1 ∨ x1 = 2)
  · exact phas_mode w L (i : Int) x1 x2 (K : Int) x4 (q : Int) (Lib.hid hM) (nb fun e => cm (.inl e)) (nb fun e => cm (.inr e)) 0 0 (one 0 0 1 (.inr ⟨i, rfl, i1, i2, .inl ⟨cm, rfl, rfl, rfl⟩⟩))
  have cm := Classical.not_not.1 cm
  have m1 : (x1 != 1) = false ∨ ((x1 != 1) = true ∧ (x1 != 2) = false) := by
    rcases cm with rfl | rfl
    · exact .inl (by decide)
    · exact .inr ⟨by decide, by decide⟩
  have q63 : q ≤ 9223372036854775808 := by
    have hm := ok.hm
    have o1 := ok2.one
    have o3 := ok2.tri
    have o4 := ok2.four
    have o2 := ok.two
    unfold M.mst at hq
    rcases ok.k with e | e | e | e
    · rw [if_neg (by omega)] at hq; omega
    · rw [if_neg (by omega)] at hq; omega
    · split at hq <;> omega
    · rw [if_neg (by omega)] at hq; omega
  obtain ⟨k, hk⟩ : ∃ k, K % (q + 1) = k := ⟨_, rfl⟩
  have kq : k ≤ q := by
    have := Nat.mod_lt K (show 0 < q + 1 by omega)
    omega
  have hr2 : (K : Int) % ((q : Int) + 1) = (k : Int) := by rw [← hk]; push_cast; rfl
  have hr : (K : Int).tmod ((q : Int) + 1) = (k : Int) := by rw [Int.tmod_eq_emod_of_nonneg (by omega)]; exact hr2
  obtain ⟨m, z, hmg⟩ := M.mg0_ex ok ok2 (k := k) (by omega)
  obtain ⟨mb, zb⟩ := M.mg_z2 ok ok2 ok3 (by omega) hmg
  obtain ⟨S, zS, ⟨N, hrs, hsz⟩, hct⟩ := text10_any w L x2 x4 m z mb zb
  have hrv : M.Rv (M.tb i) x1 x2 (M.sz m z 0) (M.pat (M.tb i) x2 k) := by
    refine .inr ⟨fun e => ?_, q, k, false, hq, M.nr_has ok ok2 ok3 qt kq hmg, .inr ⟨fun e => (by cases e.1), rfl⟩⟩
    rcases e.2 with e2 | e2
    · exact c4 ⟨e.1, e2⟩
    · have m0 := M.sz_zero.1 e2
      rcases hmg with ⟨_, e3, _⟩ | ⟨e3, hm⟩
      · exact e3 e.1
      · exact M.mg_nz hm e3 m0
  have hj : M.Jc (i : Int) x1 S.data.toList (M.pat (M.tb i) x2 k) 0 0 := M.jc_of i1 i2 cm hrs (.inr ⟨rfl, by rw [hsz]; exact hrv, rfl, rfl⟩)
  refine phas_main w L i x1 x2 K x4 q k m z (M.pat (M.tb i) x2 k) (M.tb i) S (Lib.hid hM) m1 (IntWalk.u64_in _ (by omega)) (qe (by omega)) (by omega) hr hr2
    (Lib.hid fun W F => vpattern_any W (Lib.hid F) (i : Int) x2 k (by omega) _ 0 (.inr ⟨i, rfl, i1, i2, .inr ⟨c4, .inr ⟨by omega, rfl, rfl⟩⟩⟩))
    (Lib.hid fun W P => vat_any W (Lib.hid P.low) (Lib.hid P.form) (i : Int) k (by omega) m z 0 (.inr ⟨i, rfl, i1, i2, .inr ⟨by omega, hmg, rfl⟩⟩))
    (Lib.hid fun W F => of_in W F i _ (Lib.hid rfl) i1 i2) ?_ (Lib.hid hct) (Lib.hid fun W U => jparse_any W (Lib.hid (L.out.up U)) (i : Int) x1 S _ (Lib.hid rfl) (by omega) _ 0 0 hj)
  by_cases e : (M.tb i).k = 4
  · refine .inr ⟨qb e, ?_⟩
    cases x2
    · rfl
    · exact absurd ⟨e, rfl⟩ c4
  · exact .inl (qe e)
end Go.Proofs.YtbbjlcgfaigmdaaGreatDoor
