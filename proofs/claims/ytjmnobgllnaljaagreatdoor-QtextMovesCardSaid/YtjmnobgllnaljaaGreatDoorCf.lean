/-
  QtextMoves: its walk.
-/
import Derived.Test.YtjmnobgllnaljaaGreatDoorCe
namespace Go.Proofs.YtjmnobgllnaljaaGreatDoor
open Go.RowKit Go.Shelf
set_option linter.unusedVariables false
set_option linter.unusedSimpArgs false

set_option maxHeartbeats 8000000 in
set_option maxRecDepth 100000 in
theorem qtmoves_walk (F : Qtx) (w : World) (L : Lt w) (x0 : Bool) (A : Option Addr) (n c : Nat) (xs : List Nat) (h : Src w A n c xs) (hz : Fz w A n) (x2 : Int) (_wx2 : (Lit.int .i64 x2).wf = true) (x3 : Int) (_wx3 : (Lit.int .i64 x3).wf = true) : Calls Tryz.prog 7 #[.bool x0, .slice A n c, .int .i64 x2, .int .i64 x3] w (True16 w) := by
  have CH := Lib.hid (fun W (u : Up w W) => shown16_any F W (L.up u))
  have U := Up.refl w
  obtain ⟨a, ha, CF⟩ := few16_ex w A n c xs h hz 12 (by decide)
  obtain ⟨e, he, he1, he2⟩ := tmod_rng_of x2 901 (by decide)
  obtain ⟨t0, ht0, ht1⟩ := and_65535c x3
  obtain ⟨T, hT⟩ : ∃ T, t0 % 301 = T := ⟨_, rfl⟩
  have hT3 : T ≤ 300 := by omega
  have hT4 : (t0 : Int).tmod 301 = (T : Int) := by rw [Int.tmod_eq_emod_of_nonneg (by omega)]; omega
  obtain ⟨e2, he3⟩ : ∃ e2, e - (T : Int) = e2 := ⟨_, rfl⟩
  have hw1 : IntKind.i64.wrap e = e := wrap_small (by omega)
  have hw2 : IntKind.i64.wrap e2 = e2 := wrap_small (by omega)
  have hw3 : IntKind.i64.wrap (T : Int) = T := wrap_small (by omega)
  have h2k : a * 2 ^ T < 2 ^ 2048 := by
    have h1 := M.words_two (k := 768) ha rfl
    exact M.lt_2048 (M.shl_lt (n := 768 + T) h1 rfl) (by omega)
  obtain ⟨l, y, q1⟩ := M.qt_ex x0 a e
  obtain ⟨l2, y2, q2⟩ := M.qt_ex x0 (a * 2 ^ T) (e - T)
  obtain ⟨rfl, rfl, rfl⟩ := M.qt_moves h2k (by omega) q1 q2
  rw [he3] at q2
  obtain ⟨P, hP⟩ : ∃ P, a * 2 ^ T = P := ⟨_, rfl⟩
  rw [hP] at q2
  have C1 := Lib.hid (fun W (u : Up w W) lo v (N : Nt W lo 12 v a) => (F.text W (L.up u) x0 lo v a e (N.more (by decide)) (wf_small (by omega)) l 0 q1).mono fun _ _ h => h.lit)
  have CS := Lib.hid (fun W (u : Up w W) lo v (N : Nt W lo 12 v a) => shl_any W lo 12 v a N.nw (by decide) (T : Int) T (by omega))
  rw [hP] at CS
  have C2 := Lib.hid (fun W (u : Up w W) lo v (N : Nt W lo (12 + T / 64 + 1) v P) => (F.text W (L.up u) x0 lo v P e2 (N.more (by omega)) (wf_small (by omega)) l 0 q2).mono fun _ _ h => h.lit)
  obtain ⟨ST, hST⟩ : ∃ ST : ByteArray, ⟨l.toArray⟩ = ST := ⟨_, rfl⟩
  rw [hST] at C1 C2
  clear h hz ha h2k q1 q2 hP hT hT3 ht1 he1 he2 hST F L
  go_enter Tryz.func7, Tryz.ntmps7
  go_wp2_with fail
  refine (CH.out _ (by first | exact U | exact U.drew | exact U.drewN _)).mono ?_
  rintro _ w1 ⟨rfl, h1⟩
  replace U := Up.trans (by first | exact U | exact U.drew | exact U.drewN _) h1
  clear h1
  go_wp2_with fail
  refine (CF.out _ (by first | exact U | exact U.drew | exact U.drewN _)).mono ?_
  rintro _ w2 ⟨vN, rfl, N, h2⟩
  replace U := Up.trans (by first | exact U | exact U.drew | exact U.drewN _) h2
  clear h2
  obtain ⟨AN, nN, cN, rfl, N⟩ := N.slr
  go_wp2_with fail
  refine (C1.out _ (by first | exact U | exact U.drew | exact U.drewN _) _ _ (by first | exact N | exact N.up ((Up.refl _).drew) | exact N.up ((Up.refl _).drewN _))).mono ?_
  rintro _ w3 ⟨rfl, h3⟩
  replace U := Up.trans (by first | exact U | exact U.drew | exact U.drewN _) h3
  replace N := N.up (Up.trans (by first | exact Up.refl _ | exact (Up.refl _).drew | exact (Up.refl _).drewN _) h3)
  clear h3
  go_wp2_with fail
  refine (CS.out _ (by first | exact U | exact U.drew | exact U.drewN _) _ _ (by first | exact N | exact N.up ((Up.refl _).drew) | exact N.up ((Up.refl _).drewN _))).mono ?_
  rintro _ w4 ⟨vM_, rfl, M_, h4⟩
  replace U := Up.trans (by first | exact U | exact U.drew | exact U.drewN _) h4
  replace N := N.up (Up.trans (by first | exact Up.refl _ | exact (Up.refl _).drew | exact (Up.refl _).drewN _) h4)
  clear h4
  obtain ⟨AM_, nM_, cM_, rfl, M_⟩ := M_.slr
  go_wp2_with fail
  refine (C2.out _ (by first | exact U | exact U.drew | exact U.drewN _) _ _ (by first | exact M_ | exact M_.up ((Up.refl _).drew) | exact M_.up ((Up.refl _).drewN _))).mono ?_
  rintro _ w5 ⟨rfl, h5⟩
  replace U := Up.trans (by first | exact U | exact U.drew | exact U.drewN _) h5
  replace N := N.up (Up.trans (by first | exact Up.refl _ | exact (Up.refl _).drew | exact (Up.refl _).drewN _) h5)
  replace M_ := M_.up (Up.trans (by first | exact Up.refl _ | exact (Up.refl _).drew | exact (Up.refl _).drewN _) h5)
  clear h5
  go_wp2_with fail
  go_ret
  exact ⟨by first | rfl | (simp; done) | (simp; assumption) | (simp; omega), by first | exact U | exact U.drew | exact U.drewN _⟩
end Go.Proofs.YtjmnobgllnaljaaGreatDoor
