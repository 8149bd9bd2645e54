/-
  QuireSwaps: its walk.
-/
import Derived.Test.YtijpffgocookaaaGreatDoorYf
import Derived.Test.YtijpffgocookaaaGreatDoorVwa
namespace Go.Proofs.YtijpffgocookaaaGreatDoor
open Go.RowKit Go.Shelf
set_option linter.unusedVariables false
set_option linter.unusedSimpArgs false

section
variable {Is : Nat → Nat → Nat → Thg}
set_option maxHeartbeats 4000000 in
set_option maxRecDepth 100000 in
theorem qswaps_walk (Q : Qui Is) (w : World) (TT : Hid (Tz w)) (TF : Hid (TabF w)) (x0 : Int) (_wx0 : (Lit.int .i64 x0).wf = true) (A : Option Addr) (n c : Nat) (xs : List Nat) (h : Src w A n c xs) (hz : Fz w A n) (x2 : Int) (_wx2 : (Lit.int .u64 x2).wf = true) (x3 : Int) (_wx3 : (Lit.int .u64 x3).wf = true) : Calls Tryz.prog 9 #[.int .i64 x0, .slice A n c, .int .u64 x2, .int .u64 x3] w (True15 w) := by
  obtain ⟨p, rfl, pb⟩ := wf_u64 _wx2
  obtain ⟨q, rfl, qb⟩ := wf_u64 _wx3
  have CH := Lib.hid (fun W (u : Up w W) => shown15_any Q W (Lib.hid (TT.out.up u)) (Lib.hid (TF.out.up u)))
  have U := Up.refl w
  obtain ⟨mm, hm, m3⟩ := and_3 x0
  obtain ⟨i, hi⟩ : ∃ i : Nat, 1 + mm = i := ⟨_, rfl⟩
  have q1 : (1 : Int) + (mm : Int) = (i : Int) := by omega
  have i1 : Hid (1 ≤ i) := Lib.hid (show 1 ≤ i by omega)
  have i2 : Hid (i ≤ 4) := Lib.hid (show i ≤ 4 by omega)
  clear hi
  obtain ⟨k, hk⟩ : ∃ k : Nat, min (n : Int) 20 = (k : Int) := ⟨min n 20, by omega⟩
  have hkn : k ≤ n := by omega
  have k20 : k ≤ 20 := by omega
  have hnc := h.len
  have hwd := (h.take (m := k) (by omega)).wd0 (fun ad e j hj => hz ad e j (by omega)) (by omega)
  obtain ⟨ys, hys⟩ : ∃ ys, xs.take k = ys := ⟨_, rfl⟩
  rw [hys] at hwd
  clear hys h hz
  have HW := Lib.hid hwd
  clear hwd
  obtain ⟨b, ex, hs⟩ := M.qs_ex i (M.val ys) 0
  obtain ⟨o, y, ha⟩ := M.qa_ex i1.out i2.out p q
  have HS := Lib.hid hs
  have HA := Lib.hid ha
  have HB := Lib.hid (M.qa_comm ha)
  have d0 : (y != y) = false := by simp
  have d9 : (y == y) = true := by simp
  obtain ⟨g, k0, e, hk0⟩ := M.kc_ex (i : Int) p
  have HK := Lib.hid hk0
  clear hs
  by_cases e0 : e = 0
  · subst e0
    have hh : (p : Int) ≤ M.msk (M.tb i) ∧ M.Kv (M.tb i) p g k0 0 := by
      rcases hk0 with ⟨_, _, _, e⟩ | ⟨j, e, _, _, ⟨_, _, _, e'⟩ | ⟨h1, h2⟩⟩
      · exact absurd e (by decide)
      · exact absurd e' (by decide)
      · obtain rfl : i = j := by omega
        exact ⟨h1, h2⟩
    obtain ⟨hp, hkv⟩ := hh
    have h14 := M.four14 i2.out
    have k1 := (M.q_facts i1.out i2.out).1
    obtain ⟨_, _, _, kt, _⟩ := M.kv_back (M.ok i i1.out h14) (M.ok2 i i1.out h14) hp hkv
    have htp : M.tp (M.tb i) < 18446744073709551616 := by
      have := i1.out
      have := i2.out
      rcases (show i = 1 ∨ i = 2 ∨ i = 3 ∨ i = 4 by omega) with rfl | rfl | rfl | rfl <;> decide
    have KB : Hid (k0 < 18446744073709551616) := Lib.hid (show k0 < 18446744073709551616 by omega)
    have hpt : ∃ q2 : Nat, M.pat (M.tb i) (!g) k0 = q2 ∧ (q2 : Int) ≤ M.msk (M.tb i) ∧ M.Pc (i : Int) (!g) k0 q2 0 := by
      rcases M.kv_turn (M.ok i i1.out h14) (M.ok2 i i1.out h14) hp hkv with ⟨e, _⟩ | ⟨e, _⟩ | ⟨_, _, km, q2, _, _, _, _, h1, h2, _⟩
      · omega
      · omega
      · exact ⟨q2, h1, h2, .inr ⟨i, rfl, i1.out, h14, .inr ⟨fun e => by omega, .inr ⟨km, h1.symm, rfl⟩⟩⟩⟩
    obtain ⟨q2, hq2, hqm, hpc⟩ := hpt
    have hmk : M.msk (M.tb i) < 18446744073709551616 := by
      have := i1.out
      have := i2.out
      rcases (show i = 1 ∨ i = 2 ∨ i = 3 ∨ i = 4 by omega) with rfl | rfl | rfl | rfl <;> decide
    have Q2 : Hid (q2 < 18446744073709551616) := Lib.hid (show q2 < 18446744073709551616 by omega)
    obtain ⟨o', hc, ht⟩ := M.swaps_q i1.out i2.out hp hkv hq2 ha
    have HP := Lib.hid hpc
    have HC := Lib.hid hc
    have HT := Lib.hid ht
    clear ha hk0 hp hkv kt htp hq2 hqm hpc hmk hc ht h14 k1
    go_enter Tryz.func9, Tryz.ntmps9
    go_wp2_with fail
    refine (CH.out _ (by first | exact U | exact U.drew | exact U.drewN _)).mono ?_
    rintro _ w1 ⟨rfl, h1⟩
    replace U := Up.trans (by first | exact U | exact U.drew | exact U.drewN _) h1
    have S := Sd3.start U
    clear CH h1 U
    go_wp2_with fail
    refine (Q.fresh_ TF.out (by first | exact S | exact S.pure ((Up.refl _).drew) | exact S.pure ((Up.refl _).drewN _)) i1.out i2.out).mono ?_
    clear S
    rintro _ w2 ⟨p1, rfl, S⟩
    replace S := S.swap2
    go_wp2_with fail
    refine (Q.fresh_ TF.out (by first | exact S | exact S.pure ((Up.refl _).drew) | exact S.pure ((Up.refl _).drewN _)) i1.out i2.out).mono ?_
    clear S
    rintro _ w3 ⟨p2, rfl, S⟩
    replace S := S.swap3
    go_wp2_with fail
    refine (Q.fresh_ TF.out (by first | exact S | exact S.pure ((Up.refl _).drew) | exact S.pure ((Up.refl _).drewN _)) i1.out i2.out).mono ?_
    clear S
    rintro _ w4 ⟨p3, rfl, S⟩
    replace S := S.swap2
    go_wp2_with fail
    refine (Q.set_ TT.out TF.out (by first | exact S | exact S.pure ((Up.refl _).drew) | exact S.pure ((Up.refl _).drewN _)) _ _ _ _ _ (HW.out.up (by first | exact S.up | exact S.up.drew | exact S.up.drewN _)) k20 _ _ HS.out).mono ?_
    clear S
    rintro _ w5 ⟨rfl, S⟩
    replace S := S.swap3
    go_wp2_with fail
    refine (Q.set_ TT.out TF.out (by first | exact S | exact S.pure ((Up.refl _).drew) | exact S.pure ((Up.refl _).drewN _)) _ _ _ _ _ (HW.out.up (by first | exact S.up | exact S.up.drew | exact S.up.drewN _)) k20 _ _ HS.out).mono ?_
    clear S
    rintro _ w6 ⟨rfl, S⟩
    replace S := S.swap2
    go_wp2_with fail
    refine (Q.set_ TT.out TF.out (by first | exact S | exact S.pure ((Up.refl _).drew) | exact S.pure ((Up.refl _).drewN _)) _ _ _ _ _ (HW.out.up (by first | exact S.up | exact S.up.drew | exact S.up.drewN _)) k20 _ _ HS.out).mono ?_
    clear S
    rintro _ w7 ⟨rfl, S⟩
    go_wp2_with fail
    refine (vkey_any _ (Lib.hid (TT.out.up (by first | exact S.up | exact S.up.drew | exact S.up.drewN _))) (Lib.hid (TF.out.up (by first | exact S.up | exact S.up.drew | exact S.up.drewN _))) _ p pb g k0 0 HK.out).mono ?_
    rintro _ w8 ⟨rfl, u⟩
    replace S := S.pure (Up.trans (by first | exact Up.refl _ | exact (Up.refl _).drew | exact (Up.refl _).drewN _) u)
    clear u
    go_wp2_with fail
    refine (vpattern_any _ (Lib.hid (TF.out.up (by first | exact S.up | exact S.up.drew | exact S.up.drewN _))) _ (!g) k0 KB.out _ _ HP.out).mono ?_
    rintro _ w9 ⟨rfl, u⟩
    replace S := S.pure (Up.trans (by first | exact Up.refl _ | exact (Up.refl _).drew | exact (Up.refl _).drewN _) u)
    clear u
    replace S := S.swap3
    go_wp2_with fail
    refine (Q.add_ TT.out TF.out (by first | exact S | exact S.pure ((Up.refl _).drew) | exact S.pure ((Up.refl _).drewN _)) p q pb qb _ _ HA.out).mono ?_
    clear S
    rintro _ w10 ⟨rfl, S⟩
    replace S := S.swap2
    go_wp2_with fail
    refine (Q.add_ TT.out TF.out (by first | exact S | exact S.pure ((Up.refl _).drew) | exact S.pure ((Up.refl _).drewN _)) q p qb pb _ _ HB.out).mono ?_
    clear S
    rintro _ w11 ⟨rfl, S⟩
    replace S := S.swap2
    go_wp2_with fail
    refine (Q.bits_ TT.out TF.out (by first | exact S | exact S.pure ((Up.refl _).drew) | exact S.pure ((Up.refl _).drewN _))).mono ?_
    clear S
    rintro _ w12 ⟨v1, rfl, hn1, u1, S⟩
    obtain ⟨A1, m1, d1_, rfl⟩ := hn1.sl
    clear u1
    replace S := S.swap2
    go_wp2_with fail
    refine (Q.bits_ TT.out TF.out (by first | exact S | exact S.pure ((Up.refl _).drew) | exact S.pure ((Up.refl _).drewN _))).mono ?_
    clear S
    rintro _ w13 ⟨v2, rfl, hn2, u2, S⟩
    replace hn1 := hn1.up (Up.trans (by first | exact Up.refl _ | exact (Up.refl _).drew | exact (Up.refl _).drewN _) u2)
    obtain ⟨A2, m2, d2_, rfl⟩ := hn2.sl
    clear u2
    go_wp2_with fail
    refine (bits15_any _ _ _ _ _ _ _ _ _ _ _ _ _ (by first | exact hn1 | exact hn1.up ((Up.refl _).drew) | exact hn1.up ((Up.refl _).drewN _)) (by first | exact hn2 | exact hn2.up ((Up.refl _).drew) | exact hn2.up ((Up.refl _).drewN _)) (by decide) (by decide) true (decide_eq_true rfl)).mono ?_
    rintro _ w14 ⟨rfl, u14⟩
    replace S := S.pure (Up.trans (by first | exact Up.refl _ | exact (Up.refl _).drew | exact (Up.refl _).drewN _) u14)
    clear u14 hn1
    clear hn2
    replace S := S.swap3
    go_wp2_with fail
    refine (Q.sub_ TT.out TF.out (by first | exact S | exact S.pure ((Up.refl _).drew) | exact S.pure ((Up.refl _).drewN _)) q2 q Q2.out qb _ _ HC.out).mono ?_
    clear S
    rintro _ w15 ⟨rfl, S⟩
    rw [HT.out] at S
    replace S := S.swap2
    go_wp2_with fail
    refine (Q.bits_ TT.out TF.out (by first | exact S | exact S.pure ((Up.refl _).drew) | exact S.pure ((Up.refl _).drewN _))).mono ?_
    clear S
    rintro _ w16 ⟨v1, rfl, hn1, u1, S⟩
    obtain ⟨A1, m1, d1_, rfl⟩ := hn1.sl
    clear u1
    replace S := S.swap2
    go_wp2_with fail
    refine (Q.bits_ TT.out TF.out (by first | exact S | exact S.pure ((Up.refl _).drew) | exact S.pure ((Up.refl _).drewN _))).mono ?_
    clear S
    rintro _ w17 ⟨v2, rfl, hn2, u2, S⟩
    replace hn1 := hn1.up (Up.trans (by first | exact Up.refl _ | exact (Up.refl _).drew | exact (Up.refl _).drewN _) u2)
    obtain ⟨A2, m2, d2_, rfl⟩ := hn2.sl
    clear u2
    go_wp2_with fail
    refine (bits15_any _ _ _ _ _ _ _ _ _ _ _ _ _ (by first | exact hn1 | exact hn1.up ((Up.refl _).drew) | exact hn1.up ((Up.refl _).drewN _)) (by first | exact hn2 | exact hn2.up ((Up.refl _).drew) | exact hn2.up ((Up.refl _).drewN _)) (by decide) (by decide) true (decide_eq_true rfl)).mono ?_
    rintro _ w18 ⟨rfl, u18⟩
    replace S := S.pure (Up.trans (by first | exact Up.refl _ | exact (Up.refl _).drew | exact (Up.refl _).drewN _) u18)
    clear u18 hn1
    clear hn2
    go_wp2_with fail
    go_ret
    exact ⟨by first | rfl | simp, by first | exact S.up | exact S.up.drew | exact S.up.drewN _⟩
  · have d1 : (e != 0) = true := by simpa using e0
    have KB : Hid (k0 < 18446744073709551616) := by
      rcases hk0 with ⟨_, _, rfl, _⟩ | ⟨j, _, _, _, ⟨_, _, rfl, _⟩ | ⟨_, ⟨_, _, rfl, _⟩ | ⟨_, _, _, e'⟩ | ⟨_, _, _, e'⟩⟩⟩
      · exact (show (0 : Nat) < 18446744073709551616 by decide)
      · exact (show (0 : Nat) < 18446744073709551616 by decide)
      · exact (show (0 : Nat) < 18446744073709551616 by decide)
      · exact absurd e' e0
      · exact absurd e' e0
    obtain ⟨q2, e2, hpc⟩ := M.pc_ex (i : Int) (!g) k0
    have HP := Lib.hid hpc
    clear ha hk0 e0 hpc
    go_enter Tryz.func9, Tryz.ntmps9
    go_wp2_with fail
    refine (CH.out _ (by first | exact U | exact U.drew | exact U.drewN _)).mono ?_
    rintro _ w1 ⟨rfl, h1⟩
    replace U := Up.trans (by first | exact U | exact U.drew | exact U.drewN _) h1
    have S := Sd3.start U
    clear CH h1 U
    go_wp2_with fail
    refine (Q.fresh_ TF.out (by first | exact S | exact S.pure ((Up.refl _).drew) | exact S.pure ((Up.refl _).drewN _)) i1.out i2.out).mono ?_
    clear S
    rintro _ w2 ⟨p1, rfl, S⟩
    replace S := S.swap2
    go_wp2_with fail
    refine (Q.fresh_ TF.out (by first | exact S | exact S.pure ((Up.refl _).drew) | exact S.pure ((Up.refl _).drewN _)) i1.out i2.out).mono ?_
    clear S
    rintro _ w3 ⟨p2, rfl, S⟩
    replace S := S.swap3
    go_wp2_with fail
    refine (Q.fresh_ TF.out (by first | exact S | exact S.pure ((Up.refl _).drew) | exact S.pure ((Up.refl _).drewN _)) i1.out i2.out).mono ?_
    clear S
    rintro _ w4 ⟨p3, rfl, S⟩
    replace S := S.swap2
    go_wp2_with fail
    refine (Q.set_ TT.out TF.out (by first | exact S | exact S.pure ((Up.refl _).drew) | exact S.pure ((Up.refl _).drewN _)) _ _ _ _ _ (HW.out.up (by first | exact S.up | exact S.up.drew | exact S.up.drewN _)) k20 _ _ HS.out).mono ?_
    clear S
    rintro _ w5 ⟨rfl, S⟩
    replace S := S.swap3
    go_wp2_with fail
    refine (Q.set_ TT.out TF.out (by first | exact S | exact S.pure ((Up.refl _).drew) | exact S.pure ((Up.refl _).drewN _)) _ _ _ _ _ (HW.out.up (by first | exact S.up | exact S.up.drew | exact S.up.drewN _)) k20 _ _ HS.out).mono ?_
    clear S
    rintro _ w6 ⟨rfl, S⟩
    replace S := S.swap2
    go_wp2_with fail
    refine (Q.set_ TT.out TF.out (by first | exact S | exact S.pure ((Up.refl _).drew) | exact S.pure ((Up.refl _).drewN _)) _ _ _ _ _ (HW.out.up (by first | exact S.up | exact S.up.drew | exact S.up.drewN _)) k20 _ _ HS.out).mono ?_
    clear S
    rintro _ w7 ⟨rfl, S⟩
    go_wp2_with fail
    refine (vkey_any _ (Lib.hid (TT.out.up (by first | exact S.up | exact S.up.drew | exact S.up.drewN _))) (Lib.hid (TF.out.up (by first | exact S.up | exact S.up.drew | exact S.up.drewN _))) _ p pb g k0 e HK.out).mono ?_
    rintro _ w8 ⟨rfl, u⟩
    replace S := S.pure (Up.trans (by first | exact Up.refl _ | exact (Up.refl _).drew | exact (Up.refl _).drewN _) u)
    clear u
    go_wp2_with fail
    refine (vpattern_any _ (Lib.hid (TF.out.up (by first | exact S.up | exact S.up.drew | exact S.up.drewN _))) _ (!g) k0 KB.out _ _ HP.out).mono ?_
    rintro _ w9 ⟨rfl, u⟩
    replace S := S.pure (Up.trans (by first | exact Up.refl _ | exact (Up.refl _).drew | exact (Up.refl _).drewN _) u)
    clear u
    replace S := S.swap3
    go_wp2_with fail
    refine (Q.add_ TT.out TF.out (by first | exact S | exact S.pure ((Up.refl _).drew) | exact S.pure ((Up.refl _).drewN _)) p q pb qb _ _ HA.out).mono ?_
    clear S
    rintro _ w10 ⟨rfl, S⟩
    replace S := S.swap2
    go_wp2_with fail
    refine (Q.add_ TT.out TF.out (by first | exact S | exact S.pure ((Up.refl _).drew) | exact S.pure ((Up.refl _).drewN _)) q p qb pb _ _ HB.out).mono ?_
    clear S
    rintro _ w11 ⟨rfl, S⟩
    replace S := S.swap2
    go_wp2_with fail
    refine (Q.bits_ TT.out TF.out (by first | exact S | exact S.pure ((Up.refl _).drew) | exact S.pure ((Up.refl _).drewN _))).mono ?_
    clear S
    rintro _ w12 ⟨v1, rfl, hn1, u1, S⟩
    obtain ⟨A1, m1, d1_, rfl⟩ := hn1.sl
    clear u1
    replace S := S.swap2
    go_wp2_with fail
    refine (Q.bits_ TT.out TF.out (by first | exact S | exact S.pure ((Up.refl _).drew) | exact S.pure ((Up.refl _).drewN _))).mono ?_
    clear S
    rintro _ w13 ⟨v2, rfl, hn2, u2, S⟩
    replace hn1 := hn1.up (Up.trans (by first | exact Up.refl _ | exact (Up.refl _).drew | exact (Up.refl _).drewN _) u2)
    obtain ⟨A2, m2, d2_, rfl⟩ := hn2.sl
    clear u2
    go_wp2_with fail
    refine (bits15_any _ _ _ _ _ _ _ _ _ _ _ _ _ (by first | exact hn1 | exact hn1.up ((Up.refl _).drew) | exact hn1.up ((Up.refl _).drewN _)) (by first | exact hn2 | exact hn2.up ((Up.refl _).drew) | exact hn2.up ((Up.refl _).drewN _)) (by decide) (by decide) true (decide_eq_true rfl)).mono ?_
    rintro _ w14 ⟨rfl, u14⟩
    replace S := S.pure (Up.trans (by first | exact Up.refl _ | exact (Up.refl _).drew | exact (Up.refl _).drewN _) u14)
    clear u14 hn1
    clear hn2
    go_wp2_with fail
    go_ret
    exact ⟨by first | rfl | simp, by first | exact S.up | exact S.up.drew | exact S.up.drewN _⟩
end
end Go.Proofs.YtijpffgocookaaaGreatDoor
