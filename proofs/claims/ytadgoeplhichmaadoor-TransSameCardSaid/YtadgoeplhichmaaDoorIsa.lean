/-
  TransSame: its walk.
-/
import Derived.Test.YtadgoeplhichmaaDoorIf
import Derived.Test.YtadgoeplhichmaaDoorIb
namespace Go.Proofs.YtadgoeplhichmaaDoor
open Go.RowKit Go.Shelf
set_option linter.unusedVariables false
set_option linter.unusedSimpArgs false

namespace M
/-- Canon, of any form and pattern: what is told, and that Turn tells the same. -/
theorem same_all (ii : Int) (p : Nat) : ((ii < 1 ∨ 15 ≤ ii) ∧ ∀ q x, Tc ii ii 2 p q x → q = 0 ∧ x = 3) ∨ ∃ i : Nat, ii = i ∧ 1 ≤ i ∧ i ≤ 14 ∧ ((¬ (p : Int) ≤ msk (tb i) ∧ ∀ q x, Tc ii ii 2 p q x → q = 0 ∧ x = 1) ∨ ((p : Int) ≤ msk (tb i) ∧ ∀ q x, Tc ii ii 2 p q x → (q : Int) = cn i p ∧ x = 0)) := by
  rcases in_or_out ii with h | ⟨i, rfl, a, b⟩
  · refine .inl ⟨h, fun q x ⟨c, g, m, z, e, hd, hr⟩ => ?_⟩
    rcases hd with ⟨_, _, _, _, _, rfl⟩ | ⟨j, e, j1, j2, hx⟩
    · rcases hr with ⟨_, h2, h3⟩ | ⟨e, _⟩ | ⟨e, _⟩
      · exact ⟨h2, h3⟩
      · exact absurd e (by decide)
      · exact absurd e (by decide)
    · clear hx hr
      omega
  · refine .inr ⟨i, rfl, a, b, ?_⟩
    by_cases hp : (p : Int) ≤ msk (tb i)
    · exact .inr ⟨hp, fun q x h => ⟨(same a b hp h).2, (same a b hp h).1⟩⟩
    · refine .inl ⟨hp, fun q x ⟨c, g, m, z, e, hd, hr⟩ => ?_⟩
      rcases hd with ⟨h, _⟩ | ⟨j, e1, _, _, ⟨_, _, _, _, _, rfl⟩ | ⟨h, _⟩⟩
      · clear hr
        omega
      · rcases hr with ⟨_, h2, h3⟩ | ⟨e, _⟩ | ⟨e, _⟩
        · exact ⟨h2, h3⟩
        · exact absurd e (by decide)
        · exact absurd e (by decide)
      · clear hr
        obtain rfl : i = j := by omega
        exact absurd h hp
end M
set_option maxHeartbeats 4000000 in
set_option maxRecDepth 100000 in
theorem tsame_walk (w : World) (TT : Hid (Tz w)) (TF : Hid (TabF w)) (F : Trn) (x0 : Int) (_wx0 : (Lit.int .i64 x0).wf = true) (x1 : Int) (_wx1 : (Lit.int .u64 x1).wf = true) : Calls Tryd.prog 4 #[.int .i64 x0, .int .u64 x1] w (True14 w) := by
  obtain ⟨p, rfl, pb⟩ := wf_u64 _wx1
  have CH := Lib.hid (fun W (u : Up w W) => shown14_any F W (Lib.hid (TT.out.up u)) (Lib.hid (TF.out.up u)))
  obtain ⟨q, x, h1, qb⟩ := M.tc_ex x0 x0 2 p
  have C1 := Lib.hid (fun W (u : Up w W) => F.turn W x0 x0 2 p q x (TT.out.up u) (TF.out.up u) pb h1)
  have CC : Hid (∀ W, Up w W → Calls Tryd.prog 13 #[.int .i64 x0, u64 p] W (Wn (q : Int) x W)) := by
    rcases M.same_all x0 p with ⟨ho, hs⟩ | ⟨i, rfl, a, b, ⟨hp, hs⟩ | ⟨hp, hs⟩⟩
    · obtain ⟨rfl, rfl⟩ := hs q x h1
      exact fun W _ => canon_out W x0 p ho
    · obtain ⟨rfl, rfl⟩ := hs q x h1
      exact fun W u => canon_big W (TF.out.up u) i a b p (by omega) (by omega) hp
    · obtain ⟨e, rfl⟩ := hs q x h1
      exact fun W u => canon_in W (TF.out.up u) i a b p (by omega) (by omega) hp q e.symm
  clear h1 TT TF F
  have U := Up.refl w
  go_enter Tryd.func4, Tryd.ntmps4
  go_wp2_with fail
  refine (CH.out _ (by first | exact U | exact U.drew | exact U.drewN _)).mono ?_
  rintro _ w1 ⟨rfl, h1⟩
  replace U := Up.trans (by first | exact U | exact U.drew | exact U.drewN _) h1
  clear h1
  clear CH
  go_wp2_with fail
  refine (CC.out _ (by first | exact U | exact U.drew | exact U.drewN _)).mono ?_
  rintro _ w2 ⟨rfl, h2⟩
  replace U := Up.trans (by first | exact U | exact U.drew | exact U.drewN _) h2
  clear h2
  clear CC
  go_wp2_with fail
  refine (C1.out _ (by first | exact U | exact U.drew | exact U.drewN _)).mono ?_
  rintro _ w3 ⟨rfl, h3⟩
  replace U := Up.trans (by first | exact U | exact U.drew | exact U.drewN _) h3
  clear h3
  clear C1
  go_wp2_with fail
  go_ret
  exact ⟨by first | rfl | simp, by first | exact U | exact U.drew | exact U.drewN _⟩
end Go.Proofs.YtadgoeplhichmaaDoor
