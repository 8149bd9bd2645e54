/-
  The walk of ParseFits: true, and nothing that was there has turned.
-/
import Derived.Test.YtbbjlcgfaigmdaaGreatDoorJd
namespace Go.Proofs.YtbbjlcgfaigmdaaGreatDoor
open Go.RowKit Go.Shelf
set_option linter.unusedSimpArgs false
set_option linter.unusedVariables false

set_option maxHeartbeats 4000000 in
set_option maxRecDepth 100000 in
theorem pfits_walk (w : World) (L : Hid (Lp w)) (x0 : Int) (_wx0 : (Lit.int .i64 x0).wf = true) (x1 : Int) (_wx1 : (Lit.int .i64 x1).wf = true) (s : ByteArray) (_ws : s.size ≤ maxLen) :
    Calls Tryz.prog 7 #[.int .i64 x0, .int .i64 x1, .string s] w (True10 w) := by
  obtain ⟨k, hk, hk1, hk2⟩ : ∃ k : Nat, min (s.size : Int) 300 = (k : Int) ∧ k ≤ s.size ∧ k ≤ 300 := ⟨min s.size 300, by omega, by omega, by omega⟩
  obtain ⟨T, hT⟩ : ∃ T, s.extract 0 k = T := ⟨_, rfl⟩
  obtain ⟨l, hl⟩ : ∃ l, T.data.toList = l := ⟨_, rfl⟩
  have hTk : T.size = k := by rw [← hT]; simp; omega
  have hll : T.size = l.length := by rw [← hl]; exact (Array.length_toList).symm
  have hT1 : T.size ≤ 1000000 := by omega
  have HL := Lib.hid hl
  clear hl
  obtain ⟨p, n, e, hj⟩ := M.jc_ex x0 x1 l
  have CP := Lib.hid (fun W (U : Up w W) => jparse_any W (Lib.hid (L.out.up U)) x0 x1 T l HL hT1 p n e hj)
  rcases M.jc_fits hj with ⟨e0, rfl, hn, h3⟩ | ⟨rfl, rfl, i, rfl, i1, i2, p1, p2, hc⟩
  · have d0 : (e != 0) = true := by simpa using e0
    have hn1 : decide ((n : Int) ≤ (k : Int)) = true := decide_eq_true (by omega)
    have hn2 : (n : Int) ≤ (k : Int) := by omega
    clear hj e0 hn hll HL
    have h3' : (n = 0) ∨ (((n : Int) == 0) = false ∧ (e == 2) = true) ∨ (((n : Int) == 0) = false ∧ (e == 2) = false ∧ (e == 5) = true ∧ ((n : Int) == 1) = true) := by
      by_cases c : n = 0
      · exact .inl c
      · right
        have c' : ((n : Int) == 0) = false := by rw [beq_eq_false_iff_ne]; omega
        rcases h3 with h | h | ⟨h, h'⟩
        · exact absurd h c
        · exact .inl ⟨c', by simpa using h⟩
        · exact .inr ⟨c', by rw [beq_eq_false_iff_ne]; omega, by simpa using h, by rw [beq_iff_eq]; omega⟩
    clear h3
    have U := Up.refl w
    go_enter Tryz.func7, Tryz.ntmps7
    go_wp2_with fail
    refine (shown10_any _ L).mono ?_
    rintro _ w1 ⟨rfl, u1⟩
    replace U := U.trans u1
    clear u1
    go_wp2_with fail
    refine (CP.out _ U).mono ?_
    rintro _ w2 ⟨rfl, u_⟩
    replace U := U.trans u_
    clear u_ CP
    rcases h3' with rfl | ⟨c1, c2⟩ | ⟨c1, c2, c3, c4⟩
    all_goals
      go_wp2_with fail
      go_ret
      exact ⟨rfl, U⟩
  · have ok := M.ok i i1 i2
    have hb := ok.hm
    have CC := Lib.hid (fun W (F : TabF W) => canon_in W F i i1 i2 p p1 (by omega) p2 p (Lib.hid hc))
    clear hj hc ok hb p1 p2 i1 i2 hll HL
    have U := Up.refl w
    go_enter Tryz.func7, Tryz.ntmps7
    go_wp2_with fail
    refine (shown10_any _ L).mono ?_
    rintro _ w1 ⟨rfl, u1⟩
    replace U := U.trans u1
    clear u1
    go_wp2_with fail
    refine (CP.out _ U).mono ?_
    rintro _ w2 ⟨rfl, u_⟩
    replace U := U.trans u_
    clear u_ CP
    go_wp2_with fail
    refine (CC.out _ (L.out.up U).form).mono ?_
    rintro _ w3 ⟨rfl, u_⟩
    replace U := U.trans u_
    clear u_ CC
    go_wp2_with fail
    go_ret
    exact ⟨rfl, U⟩
end Go.Proofs.YtbbjlcgfaigmdaaGreatDoor
