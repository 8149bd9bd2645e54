/-
  QtextParses: its walk.
-/
import Derived.Test.YtjmnobgllnaljaaGreatDoorCe
import Derived.Test.YtjmnobgllnaljaaGreatDoorCj
namespace Go.Proofs.YtjmnobgllnaljaaGreatDoor
open Go.RowKit Go.Shelf
set_option linter.unusedVariables false
set_option linter.unusedSimpArgs false

set_option maxHeartbeats 8000000 in
set_option maxRecDepth 100000 in
theorem qtparses_walk (F : Qtx) (w : World) (L : Lt w) (s : ByteArray) (_ws : s.size ≤ maxLen) (x1 : Int) (_wx1 : (Lit.int .i64 x1).wf = true) : Calls Tryz.prog 4 #[.string s, .int .i64 x1] w (True16 w) := by
  have CH := Lib.hid (fun W (u : Up w W) => shown16_any F W (L.up u))
  have U := Up.refl w
  obtain ⟨j, hj, hj1, hj2⟩ : ∃ j : Nat, min (s.size : Int) 400 = (j : Int) ∧ j ≤ s.size ∧ j ≤ 400 := ⟨min s.size 400, by omega, by omega, by omega⟩
  obtain ⟨T, hT⟩ : ∃ T, s.extract 0 j = T := ⟨_, rfl⟩
  obtain ⟨l, tl⟩ : ∃ l, Tx T l := ⟨_, rfl⟩
  have hl : l.length ≤ 400 := by
    rw [← tl.size, ← hT, ByteArray.size_extract]
    omega
  obtain ⟨e, he, he1, he2⟩ := tmod_rng_of x1 1251 (by decide)
  have hw1 : IntKind.i64.wrap e = e := wrap_small (by omega)
  obtain ⟨g, m, y, hq⟩ := M.qr_ex l e
  have C1 := Lib.hid (fun W (u : Up w W) => F.parse W (L.up u) T l e tl (by omega) (wf_small (by omega)) g m y hq)
  have C2 := Lib.hid (fun W (u : Up w W) => rparse16_any W T l tl (by omega) e (wf_small (by omega)) g m y hq)
  have CC := Lib.hid (fun W (_u : Up w W) lo lo' s s' v v' b (N : Nt W lo s v b) (N' : Nt W lo' s' v' b) => (cmp_same W lo lo' s s' v v' b b N.nw N'.nw rfl).mono (fun (e : Ending) (w' : World) ⟨h1, k, h2⟩ => show e = Ending.returned (.int .i64 0) ∧ Up W w' from ⟨h1, h2 ▸ (Up.refl W).drewN k⟩))
  clear hl tl hq he1 he2 F L
  go_enter Tryz.func4, Tryz.ntmps4
  go_wp2_with fail
  refine (CH.out _ (by first | exact U | exact U.drew | exact U.drewN _)).mono ?_
  rintro _ w1 ⟨rfl, h1⟩
  replace U := Up.trans (by first | exact U | exact U.drew | exact U.drewN _) h1
  clear h1
  go_wp2_with fail
  refine (C1.out _ (by first | exact U | exact U.drew | exact U.drewN _)).mono ?_
  rintro _ w2 ⟨vN, rfl, N, h2⟩
  replace U := Up.trans (by first | exact U | exact U.drew | exact U.drewN _) h2
  clear h2
  obtain ⟨AN, nN, cN, rfl, N⟩ := N.slr
  go_wp2_with fail
  refine (C2.out _ (by first | exact U | exact U.drew | exact U.drewN _)).mono ?_
  rintro _ w3 ⟨vM_, rfl, M_, h3⟩
  replace U := Up.trans (by first | exact U | exact U.drew | exact U.drewN _) h3
  replace N := N.up (Up.trans (by first | exact Up.refl _ | exact (Up.refl _).drew | exact (Up.refl _).drewN _) h3)
  clear h3
  obtain ⟨AM_, nM_, cM_, rfl, M_⟩ := M_.slr
  go_wp2_with fail
  refine (CC.out _ (by first | exact U | exact U.drew | exact U.drewN _) _ _ _ _ _ _ _ (by first | exact N | exact N.up ((Up.refl _).drew) | exact N.up ((Up.refl _).drewN _)) (by first | exact M_ | exact M_.up ((Up.refl _).drew) | exact M_.up ((Up.refl _).drewN _))).mono ?_
  rintro _ w4 ⟨rfl, h4⟩
  replace U := Up.trans (by first | exact U | exact U.drew | exact U.drewN _) h4
  replace N := N.up (Up.trans (by first | exact Up.refl _ | exact (Up.refl _).drew | exact (Up.refl _).drewN _) h4)
  replace M_ := M_.up (Up.trans (by first | exact Up.refl _ | exact (Up.refl _).drew | exact (Up.refl _).drewN _) h4)
  clear h4
  go_wp2_with fail
  go_ret
  exact ⟨by first | rfl | (simp; done) | (simp; assumption) | (simp; omega), by first | exact U | exact U.drew | exact U.drewN _⟩
end Go.Proofs.YtjmnobgllnaljaaGreatDoor
