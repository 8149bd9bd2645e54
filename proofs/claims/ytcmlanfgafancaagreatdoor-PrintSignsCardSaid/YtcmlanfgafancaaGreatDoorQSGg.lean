import Derived.Test.YtcmlanfgafancaaGreatDoorQSGc
import Derived.Test.YtcmlanfgafancaaGreatDoorQSKn1
set_option maxHeartbeats 32000000
set_option linter.unusedVariables false
set_option linter.unusedSimpArgs false
namespace Go.Proofs.YtcmlanfgafancaaGreatDoor
open Go.RowKit Go.Shelf
namespace M
theorem cls_one {f : Fm} {p : Int} (h : cls f p = 1) : kyf f p = 0 := by
 unfold cls at h
 split at h
 ·split at h <;> omega
 ·split at h
  ·omega
  ·split at h
   ·rename_i c; exact c.1
   ·omega
theorem key_short {ii : Int} {p : Nat} {g : Bool} {k : Nat} (h : Kc ii p g k 0) (k0 : k ≠ 0) : ∃ D K, Shc ii p g D K 0 := by
 rcases h with ⟨_, _, _, e⟩ | ⟨i, rfl, i1, i2, ⟨_, _, _, e⟩ | ⟨hp, hk⟩⟩
 ·omega
 ·omega
 ·have hc : cls (tb i) p = 2 ∧ g = ngs (tb i) p := by
   rcases hk with ⟨_, _, _, e⟩ | ⟨c1, _, hk, _⟩ | ⟨c2, hg, _, _⟩
   ·omega
   ·have := cls_one c1
    omega
   ·exact ⟨c2, hg⟩
  obtain ⟨c, g', m, z, hv⟩ := dv_ex (ok i i1 i2) (ok2 i i1 i2) (p := p) (by omega) hp
  have e2 : c = 2 ∧ g' = g := by
   rcases hv with ⟨a, b, _⟩ | ⟨a, b, _⟩ | ⟨a, b, _⟩ | ⟨a, b, d, _⟩
   ·omega
   ·omega
   ·omega
   ·exact ⟨b, d.trans hc.2.symm⟩
  obtain ⟨rfl, rfl⟩ := e2
  obtain ⟨m1, z1, m2, z2, ev, hpt⟩ := pt_ex (ok i i1 i2) (ok2 i i1 i2) (ok3 i i1 i2) hp hv
  obtain ⟨t, n, k, d, r, y, D, K, h⟩ := sq_ex (ok i i1 i2) (ok2 i i1 i2) (ok3 i i1 i2) hpt
  exact ⟨D, K, .inr ⟨rfl, i, rfl, i1, i2, m, z, m1, z1, m2, z2, ev, t, n, k, d, r, y, h⟩⟩
end M
set_option maxRecDepth 100000 in
theorem prsigns_walk (w : World) (L : Lq w) (F : Prn) (x0 : Int) (_wx0 : (Lit.int .i64 x0).wf = true) (x1 : Int) (_wx1 : (Lit.int .u64 x1).wf = true) : Calls Tryz.prog 6 #[.int .i64 x0, .int .u64 x1] w (True13 w) := by
 obtain ⟨p, rfl, pb⟩ := wf_u64 _wx1
 obtain ⟨g0, ky, e1, hk⟩ := M.kc_ex x0 p
 obtain ⟨q, e2, hp⟩ := M.pc_ex x0 (!g0) ky
 have kb := M.kc_b hk
 have CH := Lib.hid (shown13_any F w L)
 have CK := Lib.hid (fun W (u : Up w W) => vkey_any W (Lib.hid (L.up u).low) (Lib.hid (L.up u).form) x0 p pb g0 ky e1 hk)
 have CP := Lib.hid (fun W (u : Up w W) => vpattern_any W (Lib.hid (L.up u).form) x0 (!g0) ky kb q e2 hp)
 have U := Up.refl w
 have way : ((e1 != 0) = true ∨ ((e1 != 0) = false ∧ ((ky : Int) == 0) = true) ∨ ((e1 != 0) = false ∧ ((ky : Int) == 0) = false ∧ (x0 == 10) = true)) ∨ ((e1 != 0) = false ∧ ((ky : Int) == 0) = false ∧ (x0 == 10) = false ∧ ((e2 != 0) = true ∨ ((e2 != 0) = false ∧ e1 = 0 ∧ ky ≠ 0 ∧ x0 ≠ 10 ∧ e2 = 0))) := by
  by_cases a : e1 = 0
  ·by_cases b : ky = 0
   ·exact .inl (.inr (.inl ⟨by simpa using a, by simpa using b⟩))
   ·by_cases c : x0 = 10
    ·exact .inl (.inr (.inr ⟨by simpa using a, by simpa using b, by simpa using c⟩))
    ·refine .inr ⟨by simpa using a, by simpa using b, by simpa using c, ?_⟩
     by_cases d : e2 = 0
     ·exact .inr ⟨by simpa using d, a, b, c, d⟩
     ·exact .inl (by simpa using d)
  ·exact .inl (.inl (by simpa using a))
 have HK := Lib.hid hk
 have HP := Lib.hid hp
 have HPB := Lib.hid pb
 have HL := Lib.hid L
 have HF := Lib.hid F
 clear hk hp pb L F kb
 rcases way with (d1 | ⟨d1, d2⟩ | ⟨d1, d2, d3⟩) | ⟨d1, d2, d3, way⟩
 iterate 3
  ·go_enter Tryz.func6, Tryz.ntmps6
   go_wp2_with fail
   refine CH.out.mono ?_
   rintro _ w1 ⟨rfl, u1⟩
   replace U := U.trans u1
   go_wp2_with fail
   refine (CK.out _ (by first | exact U | exact U.drew)).mono ?_
   rintro _ w2 ⟨rfl, u2⟩
   replace U := Up.trans (by first | exact U | exact U.drew) u2
   go_wp2_with fail
   go_ret
   exact ⟨rfl, by first | exact U | exact U.drew⟩
 rcases way with d4 | ⟨d4, rfl, k0, h10, rfl⟩
 ·go_enter Tryz.func6, Tryz.ntmps6
  go_wp2_with fail
  refine CH.out.mono ?_
  rintro _ w1 ⟨rfl, u1⟩
  replace U := U.trans u1
  go_wp2_with fail
  refine (CK.out _ (by first | exact U | exact U.drew)).mono ?_
  rintro _ w2 ⟨rfl, u2⟩
  replace U := Up.trans (by first | exact U | exact U.drew) u2
  go_wp2_with fail
  refine (CP.out _ (by first | exact U | exact U.drew)).mono ?_
  rintro _ w3 ⟨rfl, u3⟩
  replace U := Up.trans (by first | exact U | exact U.drew) u3
  go_wp2_with fail
  go_ret
  exact ⟨rfl, by first | exact U | exact U.drew⟩
 ·obtain ⟨D, K, hs⟩ := M.key_short HK.out k0
  obtain ⟨_, q', rfl, qb, hs2, _⟩ := M.signs_in HK.out HP.out hs h10
  obtain ⟨i, hi⟩ : ∃ i : Nat, x0 = i := by
   rcases hs with ⟨e, _⟩ | ⟨_, i, rfl, _⟩
   ·exact absurd rfl e
   ·exact ⟨i, rfl⟩
  have pr1 : M.Pr x0 p false (M.ly g0 D K) 0 := by
   subst hi
   exact M.pr_short hs
  have pr2 : M.Pr x0 q' false (M.ly (!g0) D K) 0 := by
   subst hi
   exact M.pr_short hs2
  have C1 := Lib.hid (fun W (u : Up w W) => of13_any HF.out W (HL.out.up u) x0 p HPB.out _ 0 pr1)
  have C2 := Lib.hid (fun W (u : Up w W) => of13_any HF.out W (HL.out.up u) x0 q' qb _ 0 pr2)
  have hlen : (M.ly false D K).length ≤ 3000 := by
   subst hi
   exact (M.shc_wok hs).2.2.2.short false
  clear hs hs2 pr1 pr2 hi qb HK HP
  obtain ⟨l, hl⟩ : ∃ l, M.ly false D K = l := ⟨_, rfl⟩
  rw [hl] at hlen
  have h45 : M.ly true D K = 45 :: l := by rw [← hl]; rfl
  cases g0 with
  | true =>
   rw [h45] at C1
   rw [show (!true) = false from rfl, hl] at C2
   clear h45 hl
   go_enter Tryz.func6, Tryz.ntmps6
   go_wp2_with fail
   refine CH.out.mono ?_
   rintro _ w1 ⟨rfl, u1⟩
   replace U := U.trans u1
   go_wp2_with fail
   refine (CK.out _ (by first | exact U | exact U.drew)).mono ?_
   rintro _ w2 ⟨rfl, u2⟩
   replace U := Up.trans (by first | exact U | exact U.drew) u2
   go_wp2_with fail
   refine (CP.out _ (by first | exact U | exact U.drew)).mono ?_
   rintro _ w3 ⟨rfl, u3⟩
   replace U := Up.trans (by first | exact U | exact U.drew) u3
   go_wp2_with fail
   refine (C1.out _ (by first | exact U | exact U.drew)).mono ?_
   rintro _ w4 ⟨S, rfl, tS, u4⟩
   replace U := Up.trans (by first | exact U | exact U.drew) u4
   have HS := Lib.hid tS
   clear tS
   go_wp2_with fail
   refine (C2.out _ (by first | exact U | exact U.drew)).mono ?_
   rintro _ w5 ⟨T, rfl, tT, u5⟩
   replace U := Up.trans (by first | exact U | exact U.drew) u5
   obtain rfl : S = ⟨#[45]⟩ ++ T := Tx.uniq HS.out ((Tx.lit [45]).cat tT)
   have sT : T.size ≤ 3000 := by rw [tT.size]; exact hlen
   clear HS tT
   go_wp2_with fail
   go_ret
   exact ⟨by first | rfl | simp, by first | exact U | exact U.drew⟩
  | false =>
   rw [hl] at C1
   rw [show (!false) = true from rfl, h45] at C2
   clear h45 hl
   go_enter Tryz.func6, Tryz.ntmps6
   go_wp2_with fail
   refine CH.out.mono ?_
   rintro _ w1 ⟨rfl, u1⟩
   replace U := U.trans u1
   go_wp2_with fail
   refine (CK.out _ (by first | exact U | exact U.drew)).mono ?_
   rintro _ w2 ⟨rfl, u2⟩
   replace U := Up.trans (by first | exact U | exact U.drew) u2
   go_wp2_with fail
   refine (CP.out _ (by first | exact U | exact U.drew)).mono ?_
   rintro _ w3 ⟨rfl, u3⟩
   replace U := Up.trans (by first | exact U | exact U.drew) u3
   go_wp2_with fail
   refine (C1.out _ (by first | exact U | exact U.drew)).mono ?_
   rintro _ w4 ⟨S, rfl, tS, u4⟩
   replace U := Up.trans (by first | exact U | exact U.drew) u4
   have HS := Lib.hid tS
   clear tS
   go_wp2_with fail
   refine (C2.out _ (by first | exact U | exact U.drew)).mono ?_
   rintro _ w5 ⟨T, rfl, tT, u5⟩
   replace U := Up.trans (by first | exact U | exact U.drew) u5
   obtain rfl : T = ⟨#[45]⟩ ++ S := Tx.uniq tT ((Tx.lit [45]).cat HS.out)
   have sS : S.size ≤ 3000 := by rw [HS.out.size]; exact hlen
   clear HS tT
   go_wp2_with fail
   go_ret
   exact ⟨by first | rfl | simp, by first | exact U | exact U.drew⟩
end Go.Proofs.YtcmlanfgafancaaGreatDoor
