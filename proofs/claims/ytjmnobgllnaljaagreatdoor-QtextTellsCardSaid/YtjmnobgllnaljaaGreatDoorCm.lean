/-
  QtextTells: its walk.
-/
import Derived.Test.YtjmnobgllnaljaaGreatDoorCl
namespace Go.Proofs.YtjmnobgllnaljaaGreatDoor
open Go.RowKit Go.Shelf
set_option linter.unusedVariables false
set_option linter.unusedSimpArgs false

set_option maxHeartbeats 8000000 in
set_option maxRecDepth 100000 in
theorem qttells_walk (F : Qtx) (w : World) (L : Lt w) (x0 : Bool) (A : Option Addr) (n c : Nat) (xs : List Nat) (h : Src w A n c xs) (hz : Fz w A n) (x2 : Int) (_wx2 : (Lit.int .i64 x2).wf = true) : Calls Tryz.prog 3 #[.bool x0, .slice A n c, .int .i64 x2] w (True16 w) := by
  have CH := Lib.hid (fun W (u : Up w W) => shown16_any F W (L.up u))
  have U := Up.refl w
  obtain ⟨a, ha0, CF⟩ := few16_ex w A n c xs h hz 20 (by decide)
  have ha : a < 2 ^ 2048 := M.lt_2048 (M.words_two (s := 20) (k := 1280) ha0 rfl) (by decide)
  obtain ⟨e, he, he1, he2⟩ := tmod_rng_of x2 1251 (by decide)
  have hw1 : IntKind.i64.wrap e = e := wrap_small (by omega)
  obtain ⟨l, y, q1⟩ := M.qt_ex x0 a e
  obtain ⟨ST, hST⟩ : ∃ ST : ByteArray, ⟨l.toArray⟩ = ST := ⟨_, rfl⟩
  have C1 := Lib.hid (fun W (u : Up w W) lo v (N : Nt W lo 20 v a) => (F.text W (L.up u) x0 lo v a e (N.more (by decide)) (wf_small (by omega)) l y q1).mono fun _ _ h => h.lit)
  rw [hST] at C1
  have tS : Tx ST l := by rw [← hST]; exact Tx.lit l
  clear h hz ha0 F L
  rcases (show e < -1200 ∨ (¬ e < -1200 ∧ 1200 < e) ∨ (¬ e < -1200 ∧ ¬ 1200 < e) by omega) with f1 | ⟨f1, f2⟩ | ⟨f1, f2⟩
  · obtain ⟨rfl, rfl⟩ : l = [] ∧ y = 1 := by
      rcases q1 with ⟨_, h1, h2⟩ | ⟨h1, _⟩
      · exact ⟨h1, h2⟩
      · omega
    subst hST
    have d1 : decide (e < -1200) = true := decide_eq_true f1
    clear q1 tS ha he1 he2
    go_enter Tryz.func3, Tryz.ntmps3
    go_wp2_with fail
    refine (CH.out _ (by first | exact U | exact U.drew | exact U.drewN _)).mono ?_
    rintro _ w1 ⟨rfl, h1⟩
    replace U := Up.trans (by first | exact U | exact U.drew | exact U.drewN _) h1
    clear h1
    go_wp2_with fail
    refine (CF.out _ (by first | exact U | exact U.drew | exact U.drewN _)).mono ?_
    rintro _ w2 ⟨vN, rfl, N, h2⟩
    replace U := Up.trans (by first | exact U | exact U.drew | exact U.drewN _) h2
    clear h2
    obtain ⟨AN, nN, cN, rfl, N⟩ := N.slr
    go_wp2_with fail
    refine (C1.out _ (by first | exact U | exact U.drew | exact U.drewN _) _ _ (by first | exact N | exact N.up ((Up.refl _).drew) | exact N.up ((Up.refl _).drewN _))).mono ?_
    rintro _ w3 ⟨rfl, h3⟩
    replace U := Up.trans (by first | exact U | exact U.drew | exact U.drewN _) h3
    replace N := N.up (Up.trans (by first | exact Up.refl _ | exact (Up.refl _).drew | exact (Up.refl _).drewN _) h3)
    clear h3
    go_wp2_with fail
    go_ret
    exact ⟨by first | rfl | (simp; done) | (simp; assumption) | (simp; omega), by first | exact U | exact U.drew | exact U.drewN _⟩
  · obtain ⟨rfl, rfl⟩ : l = [] ∧ y = 1 := by
      rcases q1 with ⟨_, h1, h2⟩ | ⟨h1, _⟩
      · exact ⟨h1, h2⟩
      · omega
    subst hST
    have d1 : decide (e < -1200) = false := decide_eq_false f1
    have d2 : decide (1200 < e) = true := decide_eq_true f2
    clear q1 tS ha he1 he2
    go_enter Tryz.func3, Tryz.ntmps3
    go_wp2_with fail
    refine (CH.out _ (by first | exact U | exact U.drew | exact U.drewN _)).mono ?_
    rintro _ w1 ⟨rfl, h1⟩
    replace U := Up.trans (by first | exact U | exact U.drew | exact U.drewN _) h1
    clear h1
    go_wp2_with fail
    refine (CF.out _ (by first | exact U | exact U.drew | exact U.drewN _)).mono ?_
    rintro _ w2 ⟨vN, rfl, N, h2⟩
    replace U := Up.trans (by first | exact U | exact U.drew | exact U.drewN _) h2
    clear h2
    obtain ⟨AN, nN, cN, rfl, N⟩ := N.slr
    go_wp2_with fail
    refine (C1.out _ (by first | exact U | exact U.drew | exact U.drewN _) _ _ (by first | exact N | exact N.up ((Up.refl _).drew) | exact N.up ((Up.refl _).drewN _))).mono ?_
    rintro _ w3 ⟨rfl, h3⟩
    replace U := Up.trans (by first | exact U | exact U.drew | exact U.drewN _) h3
    replace N := N.up (Up.trans (by first | exact Up.refl _ | exact (Up.refl _).drew | exact (Up.refl _).drewN _) h3)
    clear h3
    go_wp2_with fail
    go_ret
    exact ⟨by first | rfl | (simp; done) | (simp; assumption) | (simp; omega), by first | exact U | exact U.drew | exact U.drewN _⟩
  · obtain rfl : y = 0 := by
      rcases q1 with ⟨h1, _⟩ | ⟨_, h1, _⟩
      · exact absurd ⟨ha, by omega, by omega⟩ h1
      · exact h1
    have d1 : decide (e < -1200) = false := decide_eq_false f1
    have d2 : decide (1200 < e) = false := decide_eq_false f2
    have CI := Lib.hid (fun W (_u : Up w W) lo A n c (N : Nt W lo 20 (.slice A n c) a) => is16_any W ST l tS x0 lo A n c a e N q1)
    clear q1 tS ha he1 he2 hST
    go_enter Tryz.func3, Tryz.ntmps3
    go_wp2_with fail
    refine (CH.out _ (by first | exact U | exact U.drew | exact U.drewN _)).mono ?_
    rintro _ w1 ⟨rfl, h1⟩
    replace U := Up.trans (by first | exact U | exact U.drew | exact U.drewN _) h1
    clear h1
    go_wp2_with fail
    refine (CF.out _ (by first | exact U | exact U.drew | exact U.drewN _)).mono ?_
    rintro _ w2 ⟨vN, rfl, N, h2⟩
    replace U := Up.trans (by first | exact U | exact U.drew | exact U.drewN _) h2
    clear h2
    obtain ⟨AN, nN, cN, rfl, N⟩ := N.slr
    go_wp2_with fail
    refine (C1.out _ (by first | exact U | exact U.drew | exact U.drewN _) _ _ (by first | exact N | exact N.up ((Up.refl _).drew) | exact N.up ((Up.refl _).drewN _))).mono ?_
    rintro _ w3 ⟨rfl, h3⟩
    replace U := Up.trans (by first | exact U | exact U.drew | exact U.drewN _) h3
    replace N := N.up (Up.trans (by first | exact Up.refl _ | exact (Up.refl _).drew | exact (Up.refl _).drewN _) h3)
    clear h3
    go_wp2_with fail
    refine (CI.out _ (by first | exact U | exact U.drew | exact U.drewN _) _ _ _ _ (by first | exact N | exact N.up ((Up.refl _).drew) | exact N.up ((Up.refl _).drewN _))).mono ?_
    rintro _ w4 ⟨rfl, h4⟩
    replace U := Up.trans (by first | exact U | exact U.drew | exact U.drewN _) h4
    replace N := N.up (Up.trans (by first | exact Up.refl _ | exact (Up.refl _).drew | exact (Up.refl _).drewN _) h4)
    clear h4
    go_wp2_with fail
    go_ret
    exact ⟨by first | rfl | (simp; done) | (simp; assumption) | (simp; omega), by first | exact U | exact U.drew | exact U.drewN _⟩

end Go.Proofs.YtjmnobgllnaljaaGreatDoor
