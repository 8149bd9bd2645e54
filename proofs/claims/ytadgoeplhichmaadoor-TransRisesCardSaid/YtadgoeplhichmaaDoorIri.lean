/-
  TransRises: its walk.
-/
import Derived.Test.YtadgoeplhichmaaDoorIf
import Derived.Test.YtadgoeplhichmaaDoorIb
import Derived.Test.YtadgoeplhichmaaDoorVwa
namespace Go.Proofs.YtadgoeplhichmaaDoor
open Go.RowKit Go.Shelf
set_option linter.unusedVariables false
set_option linter.unusedSimpArgs false

namespace M
theorem pc_nat (ii : Int) (k : Nat) (kb : k < 18446744073709551616) : ∃ (p : Nat) (x : Int), Pc ii false k p x ∧ p < 18446744073709551616 := by
  obtain ⟨q, x, h⟩ := pc_ex ii false k
  have h' := h
  rcases h with ⟨_, rfl, _⟩ | ⟨i, e, a, b, ⟨_, e1, _⟩ | ⟨n4, ⟨_, rfl, _⟩ | ⟨_, e1, _⟩⟩⟩
  · exact ⟨0, x, h', by decide⟩
  · exact absurd e1 (by decide)
  · exact ⟨0, x, h', by decide⟩
  · have : q = k := by rw [e1]; exact if_pos rfl
    exact ⟨k, x, by rw [← this]; exact h', kb⟩
theorem tc_any {ii : Int} {p a : Nat} {x : Int} (h : Pc ii false a p x) (e : x = 0) : ∃ i : Nat, ii = i := by
  rcases h with ⟨_, _, e1⟩ | ⟨i, e1, _⟩
  · omega
  · exact ⟨i, e1⟩
theorem tc_to {ii jj mode : Int} {p q : Nat} (h : Tc ii jj mode p q 0) : ∃ j : Nat, jj = j := by
  obtain ⟨_, j, _, _, _, _, _, e, _⟩ := tc_have h
  exact ⟨j, e⟩
end M
set_option maxHeartbeats 4000000 in
set_option maxRecDepth 100000 in
theorem trises_walk (w : World) (TT : Hid (Tz w)) (TF : Hid (TabF w)) (F : Trn) (x0 : Int) (_wx0 : (Lit.int .i64 x0).wf = true) (x1 : Int) (_wx1 : (Lit.int .i64 x1).wf = true) (x2 : Int) (_wx2 : (Lit.int .u64 x2).wf = true) (x3 : Int) (_wx3 : (Lit.int .u64 x3).wf = true) : Calls Tryd.prog 9 #[.int .i64 x0, .int .i64 x1, .int .u64 x2, .int .u64 x3] w (True14 w) := by
  obtain ⟨a, rfl, ab⟩ := wf_u64 _wx2
  obtain ⟨b, rfl, bb⟩ := wf_u64 _wx3
  have CH := Lib.hid (fun W (u : Up w W) => shown14_any F W (Lib.hid (TT.out.up u)) (Lib.hid (TF.out.up u)))
  obtain ⟨p, e1, hp, pb⟩ := M.pc_nat x0 a ab
  obtain ⟨q, e2, hq, qb⟩ := M.pc_nat x0 b bb
  obtain ⟨x, e3, hx, xb⟩ := M.tc_ex x0 x1 1 p
  obtain ⟨y, e4, hy, yb⟩ := M.tc_ex x0 x1 1 q
  have C1 := Lib.hid (fun W (u : Up w W) => vpattern_any W (Lib.hid (TF.out.up u)) x0 false a ab p e1 hp)
  have C2 := Lib.hid (fun W (u : Up w W) => vpattern_any W (Lib.hid (TF.out.up u)) x0 false b bb q e2 hq)
  have C3 := Lib.hid (fun W (u : Up w W) => F.turn W x0 x1 1 p x e3 (TT.out.up u) (TF.out.up u) pb hx)
  have C4 := Lib.hid (fun W (u : Up w W) => F.turn W x0 x1 1 q y e4 (TT.out.up u) (TF.out.up u) qb hy)
  have U := Up.refl w
  by_cases way : e1 = 0 ∧ e2 = 0 ∧ e3 = 0 ∧ e4 = 0 ∧ a ≠ 0 ∧ b ≠ 0
  · obtain ⟨rfl, rfl, rfl, rfl, a0, b0⟩ := way
    obtain ⟨g, c, f1, hc⟩ := M.kc_ex x1 x
    obtain ⟨g', d, f2, hd⟩ := M.kc_ex x1 y
    have C5 := Lib.hid (fun W (u : Up w W) => vkey_any W (Lib.hid (TT.out.up u)) (Lib.hid (TF.out.up u)) x1 x xb g c f1 hc)
    have C6 := Lib.hid (fun W (u : Up w W) => vkey_any W (Lib.hid (TT.out.up u)) (Lib.hid (TF.out.up u)) x1 y yb g' d f2 hd)
    obtain ⟨i, rfl⟩ := M.tc_any hp rfl
    obtain ⟨j, rfl⟩ := M.tc_to hx
    obtain ⟨rfl, rfl, r1⟩ := M.rise hp hq a0 b0 hx hy hc hd
    obtain ⟨_, _, r2⟩ := M.rise hq hp b0 a0 hy hx hd hc
    have z1 : ((a : Int) == 0) = false := by simpa using a0
    have z2 : ((b : Int) == 0) = false := by simpa using b0
    have r3 : (b < a ∧ ¬ a < b ∧ d ≤ c) ∨ (¬ b < a ∧ ¬ a < b ∧ c ≤ d ∧ d ≤ c) ∨ (¬ b < a ∧ a < b ∧ c ≤ d) := by
      rcases Nat.lt_trichotomy a b with h | h | h
      · exact .inr (.inr ⟨by omega, h, r1 (by omega)⟩)
      · exact .inr (.inl ⟨by omega, by omega, r1 (by omega), r2 (by omega)⟩)
      · exact .inl ⟨h, by omega, r2 (by omega)⟩
    clear hp hq hx hy hc hd r1 r2 a0 b0 TT TF F
    rcases r3 with ⟨s1, s2, s3⟩ | ⟨s1, s2, s3, s4⟩ | ⟨s1, s2, s3⟩
    all_goals
      go_enter Tryd.func9, Tryd.ntmps9
      go_wp2_with fail
      refine (CH.out _ (by first | exact U | exact U.drew | exact U.drewN _)).mono ?_
      rintro _ w1 ⟨rfl, h1⟩
      replace U := Up.trans (by first | exact U | exact U.drew | exact U.drewN _) h1
      clear h1
      clear CH
      go_wp2_with fail
      refine (C1.out _ (by first | exact U | exact U.drew | exact U.drewN _)).mono ?_
      rintro _ w2 ⟨rfl, h2⟩
      replace U := Up.trans (by first | exact U | exact U.drew | exact U.drewN _) h2
      clear h2
      clear C1
      go_wp2_with fail
      refine (C2.out _ (by first | exact U | exact U.drew | exact U.drewN _)).mono ?_
      rintro _ w3 ⟨rfl, h3⟩
      replace U := Up.trans (by first | exact U | exact U.drew | exact U.drewN _) h3
      clear h3
      clear C2
      go_wp2_with fail
      refine (C3.out _ (by first | exact U | exact U.drew | exact U.drewN _)).mono ?_
      rintro _ w4 ⟨rfl, h4⟩
      replace U := Up.trans (by first | exact U | exact U.drew | exact U.drewN _) h4
      clear h4
      clear C3
      go_wp2_with fail
      refine (C4.out _ (by first | exact U | exact U.drew | exact U.drewN _)).mono ?_
      rintro _ w5 ⟨rfl, h5⟩
      replace U := Up.trans (by first | exact U | exact U.drew | exact U.drewN _) h5
      clear h5
      clear C4
      go_wp2_with fail
      refine (C5.out _ (by first | exact U | exact U.drew | exact U.drewN _)).mono ?_
      rintro _ w6 ⟨rfl, h6⟩
      replace U := Up.trans (by first | exact U | exact U.drew | exact U.drewN _) h6
      clear h6
      clear C5
      go_wp2_with fail
      refine (C6.out _ (by first | exact U | exact U.drew | exact U.drewN _)).mono ?_
      rintro _ w7 ⟨rfl, h7⟩
      replace U := Up.trans (by first | exact U | exact U.drew | exact U.drewN _) h7
      clear h7
      clear C6
      go_wp2_with fail
      go_ret
      exact ⟨by first | rfl | simp, by first | exact U | exact U.drew | exact U.drewN _⟩
  · have d1 : (e1 != 0) = true ∨ (e1 = 0 ∧ (e2 != 0) = true) ∨ (e1 = 0 ∧ e2 = 0 ∧ (e3 != 0) = true) ∨ (e1 = 0 ∧ e2 = 0 ∧ e3 = 0 ∧ (e4 != 0) = true) ∨ (e1 = 0 ∧ e2 = 0 ∧ e3 = 0 ∧ e4 = 0 ∧ a = 0) ∨ (e1 = 0 ∧ e2 = 0 ∧ e3 = 0 ∧ e4 = 0 ∧ ((a : Int) == 0) = false ∧ b = 0) := by
      by_cases h1 : e1 = 0
      · by_cases h2 : e2 = 0
        · by_cases h3 : e3 = 0
          · by_cases h4 : e4 = 0
            · by_cases h5 : a = 0
              · exact .inr (.inr (.inr (.inr (.inl ⟨h1, h2, h3, h4, h5⟩))))
              · by_cases h6 : b = 0
                · exact .inr (.inr (.inr (.inr (.inr ⟨h1, h2, h3, h4, by simpa using h5, h6⟩))))
                · exact absurd ⟨h1, h2, h3, h4, h5, h6⟩ way
            · exact .inr (.inr (.inr (.inl ⟨h1, h2, h3, M.nx14 h4⟩)))
          · exact .inr (.inr (.inl ⟨h1, h2, M.nx14 h3⟩))
        · exact .inr (.inl ⟨h1, M.nx14 h2⟩)
      · exact .inl (M.nx14 h1)
    clear way hp hq hx hy TT TF F
    rcases d1 with d1 | ⟨rfl, d1⟩ | ⟨rfl, rfl, d1⟩ | ⟨rfl, rfl, rfl, d1⟩ | ⟨rfl, rfl, rfl, rfl, rfl⟩ | ⟨rfl, rfl, rfl, rfl, d1, rfl⟩
    all_goals
      go_enter Tryd.func9, Tryd.ntmps9
      go_wp2_with fail
      refine (CH.out _ (by first | exact U | exact U.drew | exact U.drewN _)).mono ?_
      rintro _ w1 ⟨rfl, h1⟩
      replace U := Up.trans (by first | exact U | exact U.drew | exact U.drewN _) h1
      clear h1
      clear CH
      go_wp2_with fail
      refine (C1.out _ (by first | exact U | exact U.drew | exact U.drewN _)).mono ?_
      rintro _ w2 ⟨rfl, h2⟩
      replace U := Up.trans (by first | exact U | exact U.drew | exact U.drewN _) h2
      clear h2
      clear C1
      go_wp2_with fail
      refine (C2.out _ (by first | exact U | exact U.drew | exact U.drewN _)).mono ?_
      rintro _ w3 ⟨rfl, h3⟩
      replace U := Up.trans (by first | exact U | exact U.drew | exact U.drewN _) h3
      clear h3
      clear C2
      go_wp2_with fail
      refine (C3.out _ (by first | exact U | exact U.drew | exact U.drewN _)).mono ?_
      rintro _ w4 ⟨rfl, h4⟩
      replace U := Up.trans (by first | exact U | exact U.drew | exact U.drewN _) h4
      clear h4
      clear C3
      go_wp2_with fail
      refine (C4.out _ (by first | exact U | exact U.drew | exact U.drewN _)).mono ?_
      rintro _ w5 ⟨rfl, h5⟩
      replace U := Up.trans (by first | exact U | exact U.drew | exact U.drewN _) h5
      clear h5
      clear C4
      go_wp2_with fail
      go_ret
      exact ⟨by first | rfl | simp, by first | exact U | exact U.drew | exact U.drewN _⟩
end Go.Proofs.YtadgoeplhichmaaDoor
