/-
  FormCanon, FormTwice.
-/
import Derived.Test.YtekmlhgnfjgebaaDoorFlaw
namespace Go.Proofs.YtekmlhgnfjgebaaDoor
open Go.RowKit
theorem id_in' {x : Int} (h : ¬ (x < 1 ∨ 15 ≤ x)) : ∃ i : Nat, x = (i : Int) ∧ 1 ≤ i ∧ i ≤ 14 := ⟨x.toNat, by omega, by omega, by omega⟩
theorem u64_rng' {x : Int} (h : (Lit.int .u64 x).wf = true) : 0 ≤ x ∧ x < 18446744073709551616 := by
  have h6 : (0 : Int) ≤ x ∧ x ≤ 18446744073709551615 := by simpa [Lit.wf, IntKind.min, IntKind.max, IntKind.signed, IntKind.bits] using h
  omega
namespace M
theorem cn_rng (i : Nat) (h1 : 1 ≤ i) (h2 : i ≤ 14) (p : Int) (p1 : 0 ≤ p) (p2 : p ≤ msk (tb i)) : 0 ≤ cn i p ∧ cn i p ≤ msk (tb i) ∧ cn i (cn i p) = cn i p := by
  have o := ok i h1 h2
  obtain ⟨f, hf⟩ : ∃ f, tb i = f := ⟨_, rfl⟩
  rw [hf] at o p2 ⊢
  unfold cn
  rw [hf]
  by_cases h : f.k = 2 ∧ bey f (p % half f) = true
  · rw [if_pos h]
    refine ⟨o.x.1, o.x.2, ?_⟩
    by_cases h' : f.k = 2 ∧ bey f (f.x % half f) = true
    · rw [if_pos h']
    · rw [if_neg h']
  · rw [if_neg h]
    exact ⟨p1, p2, if_neg h⟩
end M
set_option maxHeartbeats 2000000 in
set_option maxRecDepth 100000 in
theorem fcanon_walk (w : World) (hF : TabF w) (x0 : Int) (_wx0 : (Lit.int .i64 x0).wf = true) (x1 : Int) (wx1 : (Lit.int .u64 x1).wf = true) : Calls Tryd.prog 4 #[.int .i64 x0, .int .u64 x1] w (True4 w) := by
  obtain ⟨p1, p2⟩ := u64_rng' wx1
  clear wx1
  obtain ⟨q, qe, A, B, C, D⟩ : ∃ q e : Int, Hid (∀ W, TabF W → Calls Tryd.prog 15 #[.int .i64 x0, .int .u64 x1] W (Wn q e W)) ∧ Hid (∀ W, Calls Tryd.prog 16 #[.int .i64 x0, .int .u64 x1] W (Wn q e W)) ∧ Hid (∀ W, TabF W → Calls Tryd.prog 17 #[.int .i64 x0, .int .u64 x1] W (Nz e W)) ∧ Hid (∀ W, Calls Tryd.prog 18 #[.int .i64 x0, .int .u64 x1] W (Nz e W)) := by
    by_cases h : x0 < 1 ∨ 15 ≤ x0
    · exact ⟨0, 3, fun W _ => canon_out W x0 x1 h, fun W => rcanon_out W x0 x1 h, fun W _ => fits_out W x0 x1 h, fun W => rfits_out W x0 x1 h⟩
    · obtain ⟨i, rfl, h1, h2⟩ := id_in' h
      by_cases hp : x1 ≤ M.msk (M.tb i)
      · have e0 : M.er i x1 = 0 := by rw [M.er, if_pos hp]
        exact ⟨M.cn i x1, 0, fun W hF => canon_in W hF i h1 h2 x1 p1 p2 hp _ (Lib.hid rfl), fun W => rcanon_in W i h1 h2 x1 p1 p2 hp _ (Lib.hid rfl), fun W hF => by rw [← e0]; exact fits_in W hF i h1 h2 x1 p1 p2, fun W => rfits_in W i h1 h2 x1 0 e0⟩
      · have e0 : M.er i x1 = 1 := by rw [M.er, if_neg hp]
        exact ⟨0, 1, fun W hF => canon_big W hF i h1 h2 x1 p1 p2 hp, fun W => rcanon_big W i h1 h2 x1 hp, fun W hF => by rw [← e0]; exact fits_in W hF i h1 h2 x1 p1 p2, fun W => rfits_in W i h1 h2 x1 1 e0⟩
  clear p1 p2
  have q1 : (q == q) = true := by simp
  have q2 : (qe == qe) = true := by simp
  have U := Up.refl w
  go_enter Tryd.func4, Tryd.ntmps4
  go_wp2_with fail
  refine (fshown_any _ (hF.up U)).mono ?_
  rintro _ w1 ⟨rfl, h1⟩
  replace U := U.trans h1
  clear h1
  go_wp2_with fail
  refine (A.out _ (hF.up U)).mono ?_
  rintro _ w2 ⟨rfl, h2⟩
  replace U := U.trans h2
  clear h2
  go_wp2_with fail
  refine (B.out _).mono ?_
  rintro _ w3 ⟨rfl, h3⟩
  replace U := U.trans h3
  clear h3
  go_wp2_with fail
  refine (C.out _ (hF.up U)).mono ?_
  rintro _ w4 ⟨rfl, h4⟩
  replace U := U.trans h4
  clear h4
  go_wp2_with fail
  refine (D.out _).mono ?_
  rintro _ w5 ⟨rfl, h5⟩
  replace U := U.trans h5
  clear h5
  go_wp2_with fail
  go_ret
  exact ⟨rfl, U⟩
set_option maxHeartbeats 2000000 in
set_option maxRecDepth 100000 in
theorem twice_walk (w : World) (hF : TabF w) (x0 : Int) (_wx0 : (Lit.int .i64 x0).wf = true) (x1 : Int) (wx1 : (Lit.int .u64 x1).wf = true) : Calls Tryd.prog 6 #[.int .i64 x0, .int .u64 x1] w (True4 w) := by
  obtain ⟨p1, p2⟩ := u64_rng' wx1
  clear wx1
  by_cases h : x0 < 1 ∨ 15 ≤ x0
  ·
    have U := Up.refl w
    go_enter Tryd.func6, Tryd.ntmps6
    go_wp2_with fail
    refine (fshown_any _ (hF.up U)).mono ?_
    rintro _ w1 ⟨rfl, h1⟩
    replace U := U.trans h1
    clear h1
    go_wp2_with fail
    refine (canon_out _ x0 x1 h).mono ?_
    rintro _ w2 ⟨rfl, h2⟩
    replace U := U.trans h2
    clear h2
    go_wp2_with fail
    refine (canon_out _ x0 0 h).mono ?_
    rintro _ w3 ⟨rfl, h3⟩
    replace U := U.trans h3
    clear h3
    go_wp2_with fail
    refine (fits_out _ x0 x1 h).mono ?_
    rintro _ w4 ⟨rfl, h4⟩
    replace U := U.trans h4
    clear h4
    go_wp2_with fail
    go_ret
    exact ⟨rfl, U⟩
  ·
    obtain ⟨i, rfl, h1, h2⟩ := id_in' h
    clear h
    by_cases hp : x1 ≤ M.msk (M.tb i)
    ·
      have e0 : M.er i x1 = 0 := by rw [M.er, if_pos hp]
      obtain ⟨q1, q2, q3⟩ := M.cn_rng i h1 h2 x1 p1 hp
      have ok := M.ok i h1 h2
      have C1 := Lib.hid (fun W hF => canon_in W hF i h1 h2 x1 p1 p2 hp _ (Lib.hid rfl))
      have hq : M.cn i x1 < 18446744073709551616 := by have := ok.hm; omega
      have C2 := Lib.hid (fun W hF => canon_in W hF i h1 h2 (M.cn i x1) q1 hq q2 _ (Lib.hid rfl))
      have C3 := fun W hF => fits_in W hF i h1 h2 (M.cn i x1) q1 hq
      have e3 : M.er i (M.cn i x1) = 0 := by rw [M.er, if_pos q2]
      rw [e3] at C3
      rw [q3] at C2
      have C4 := Lib.hid C3
      obtain ⟨q, hq'⟩ : ∃ q, M.cn i x1 = q := ⟨_, rfl⟩
      rw [hq'] at C1 C2 C4
      have qq : (q == q) = true := by simp
      clear e0 q1 q2 q3 ok hq C3 e3 hq' hp h1 h2 p1 p2
      have U := Up.refl w
      go_enter Tryd.func6, Tryd.ntmps6
      go_wp2_with fail
      refine (fshown_any _ (hF.up U)).mono ?_
      rintro _ w5 ⟨rfl, h5⟩
      replace U := U.trans h5
      clear h5
      go_wp2_with fail
      refine (C1.out _ (hF.up U)).mono ?_
      rintro _ w6 ⟨rfl, h6⟩
      replace U := U.trans h6
      clear h6
      go_wp2_with fail
      refine (C2.out _ (hF.up U)).mono ?_
      rintro _ w7 ⟨rfl, h7⟩
      replace U := U.trans h7
      clear h7
      go_wp2_with fail
      refine (C4.out _ (hF.up U)).mono ?_
      rintro _ w8 ⟨rfl, h8⟩
      replace U := U.trans h8
      clear h8
      go_wp2_with fail
      go_ret
      exact ⟨rfl, U⟩
    ·
      have C4 := fun W hF => fits_in W hF i h1 h2 x1 p1 p2
      rw [M.er, if_neg hp] at C4
      have C5 := Lib.hid C4
      have C1 := Lib.hid (fun W hF => canon_big W hF i h1 h2 x1 p1 p2 hp)
      have z0 : (0 : Int) ≤ M.msk (M.tb i) := by have := (M.ok i h1 h2).hm; omega
      have C2 := Lib.hid (fun W hF => canon_in W hF i h1 h2 0 (by decide) (by decide) z0 _ (Lib.hid rfl))
      clear C4 hp h1 h2 p1 p2 z0
      have U := Up.refl w
      go_enter Tryd.func6, Tryd.ntmps6
      go_wp2_with fail
      refine (fshown_any _ (hF.up U)).mono ?_
      rintro _ w9 ⟨rfl, h9⟩
      replace U := U.trans h9
      clear h9
      go_wp2_with fail
      refine (C1.out _ (hF.up U)).mono ?_
      rintro _ w10 ⟨rfl, h10⟩
      replace U := U.trans h10
      clear h10
      go_wp2_with fail
      refine (C2.out _ (hF.up U)).mono ?_
      rintro _ w11 ⟨rfl, h11⟩
      replace U := U.trans h11
      clear h11
      go_wp2_with fail
      refine (C5.out _ (hF.up U)).mono ?_
      rintro _ w12 ⟨rfl, h12⟩
      replace U := U.trans h12
      clear h12
      go_wp2_with fail
      go_ret
      exact ⟨rfl, U⟩
end Go.Proofs.YtekmlhgnfjgebaaDoor
