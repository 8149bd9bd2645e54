/-
  QuireLoads: its walk.
-/
import Derived.Test.YtijpffgocookaaaGreatDoorYf
namespace Go.Proofs.YtijpffgocookaaaGreatDoor
open Go.RowKit Go.Shelf
set_option linter.unusedVariables false
set_option linter.unusedSimpArgs false

section
variable {Is : Nat → Nat → Nat → Thg}
set_option maxHeartbeats 4000000 in
set_option maxRecDepth 100000 in
theorem qloads_walk (Q : Qui Is) (w : World) (TT : Hid (Tz w)) (TF : Hid (TabF w)) (x0 : Int) (_wx0 : (Lit.int .i64 x0).wf = true) (A : Option Addr) (n c : Nat) (xs : List Nat) (h : Src w A n c xs) (hz : Fz w A n) : Calls Tryz.prog 7 #[.int .i64 x0, .slice A n c] w (True15 w) := by
  have CH := Lib.hid (fun W (u : Up w W) => shown15_any Q W (Lib.hid (TT.out.up u)) (Lib.hid (TF.out.up u)))
  have U := Up.refl w
  by_cases hi : 1 ≤ x0 ∧ x0 ≤ 4
  · obtain ⟨i, rfl⟩ : ∃ i : Nat, x0 = (i : Int) := ⟨x0.toNat, by omega⟩
    have i1 : Hid (1 ≤ i) := Lib.hid (show 1 ≤ i by omega)
    have i2 : Hid (i ≤ 4) := Lib.hid (show i ≤ 4 by omega)
    clear hi
    obtain ⟨k, hk⟩ : ∃ k : Nat, min (n : Int) 20 = (k : Int) := ⟨min n 20, by omega⟩
    have hkn : k ≤ n := by omega
    have k20 : k ≤ 20 := by omega
    have hnc := h.len
    have hwd := (h.take (m := k) (by omega)).wd0 (fun ad e j hj => hz ad e j (by omega)) (by omega)
    obtain ⟨ys, hys⟩ : ∃ ys, xs.take k = ys := ⟨_, rfl⟩
    rw [hys] at hwd
    clear hys h hz
    have HW := Lib.hid hwd
    clear hwd
    obtain ⟨b, ex, hs⟩ := M.qs_ex i (M.val ys) 0
    have hb : b < 2 ^ M.qS i := by
      rcases hs with ⟨h1, rfl, _⟩ | ⟨_, rfl, _⟩
      · exact h1
      · exact Nat.two_pow_pos _
    have HS := Lib.hid hs
    by_cases hn : b = M.qn i
    · have e0 : ex = 0 := by
        rcases hs with ⟨_, _, e⟩ | ⟨_, e, _⟩
        · exact e
        · have := M.qn_pos i; omega
      subst e0
      have HN := Lib.hid hn
      clear hs hn hb
      go_enter Tryz.func7, Tryz.ntmps7
      go_wp2_with fail
      refine (CH.out _ (by first | exact U | exact U.drew | exact U.drewN _)).mono ?_
      rintro _ w1 ⟨rfl, h1⟩
      replace U := Up.trans (by first | exact U | exact U.drew | exact U.drewN _) h1
      have S := Sd3.start U
      clear CH h1 U
      go_wp2_with fail
      refine (Q.fresh_ TF.out (by first | exact S | exact S.pure ((Up.refl _).drew) | exact S.pure ((Up.refl _).drewN _)) i1.out i2.out).mono ?_
      clear S
      rintro _ w2 ⟨p1, rfl, S⟩
      replace S := S.swap2
      go_wp2_with fail
      refine (Q.fresh_ TF.out (by first | exact S | exact S.pure ((Up.refl _).drew) | exact S.pure ((Up.refl _).drewN _)) i1.out i2.out).mono ?_
      clear S
      rintro _ w3 ⟨p2, rfl, S⟩
      replace S := S.swap2
      go_wp2_with fail
      refine (Q.set_ TT.out TF.out (by first | exact S | exact S.pure ((Up.refl _).drew) | exact S.pure ((Up.refl _).drewN _)) _ _ _ _ _ (HW.out.up (by first | exact S.up | exact S.up.drew | exact S.up.drewN _)) k20 _ _ HS.out).mono ?_
      clear S
      rintro _ w4 ⟨rfl, S⟩
      go_wp2_with fail
      refine (Q.valno_ TT.out TF.out (by first | exact S | exact S.pure ((Up.refl _).drew) | exact S.pure ((Up.refl _).drewN _)) HN.out).mono ?_
      clear S
      rintro _ w5 ⟨v, rfl, hn1, u1, S⟩
      obtain ⟨A1, m1, d1_, rfl⟩ := hn1.sl
      clear u1
      have hn1 := hn1.no_word
      clear hn1
      go_upto_region 8 with fail
      obtain ⟨VX, hVX⟩ : ∃ VX, w5.alloc (.cells #[.bool false, .slice A1 m1 d1_, .int .i64 0, .int .i64 0] 34) = VX := ⟨_, rfl⟩
      have X : Ob VX w5.heap.size 34 #[.bool false, .slice A1 m1 d1_, .int .i64 0, .int .i64 0] := by rw [← hVX]; exact Ob.mk_ _ _ _
      have uVX : Up w5 VX := by rw [← hVX]; exact (Up.refl _).alloc _
      rw [hVX]
      clear hVX
      replace S := S.pure uVX
      clear uVX X
      go_wp2_with fail
      refine (Q.nar_ TT.out TF.out (by first | exact S | exact S.pure ((Up.refl _).drew) | exact S.pure ((Up.refl _).drewN _)) true (decide_eq_true HN.out)).mono ?_
      clear S
      rintro _ w6 ⟨rfl, S⟩
      go_wp2_with fail
      go_ret
      exact ⟨by first | rfl | simp, by first | exact S.up | exact S.up.drew | exact S.up.drewN _⟩
    · obtain ⟨s, N, t, f, hv⟩ := M.qv_ex hb
      have hl : M.Qld i s N t f 0 b 0 := by
        obtain ⟨o, ho⟩ := M.ql_ex i s N t f
        have := M.ql_of_qv i1.out i2.out hb hn hv ho
        subst this
        exact .inr ⟨ho, rfl⟩
      obtain ⟨bt, bf⟩ := M.qv_bnd i1.out i2.out hb hv
      have HV := Lib.hid hv
      have HL := Lib.hid hl
      have HN := Lib.hid hn
      have BT := Lib.hid bt
      have BF := Lib.hid bf
      have e0 : ex = 0 ∨ ex = 4 := by rcases hs with ⟨_, _, e⟩ | ⟨_, _, e⟩; exact .inl e; exact .inr e
      clear hs hn hb hv hl bt bf
      rcases e0 with rfl | rfl
      · go_enter Tryz.func7, Tryz.ntmps7
        go_wp2_with fail
        refine (CH.out _ (by first | exact U | exact U.drew | exact U.drewN _)).mono ?_
        rintro _ w1 ⟨rfl, h1⟩
        replace U := Up.trans (by first | exact U | exact U.drew | exact U.drewN _) h1
        have S := Sd3.start U
        clear CH h1 U
        go_wp2_with fail
        refine (Q.fresh_ TF.out (by first | exact S | exact S.pure ((Up.refl _).drew) | exact S.pure ((Up.refl _).drewN _)) i1.out i2.out).mono ?_
        clear S
        rintro _ w2 ⟨p1, rfl, S⟩
        replace S := S.swap2
        go_wp2_with fail
        refine (Q.fresh_ TF.out (by first | exact S | exact S.pure ((Up.refl _).drew) | exact S.pure ((Up.refl _).drewN _)) i1.out i2.out).mono ?_
        clear S
        rintro _ w3 ⟨p2, rfl, S⟩
        replace S := S.swap2
        go_wp2_with fail
        refine (Q.set_ TT.out TF.out (by first | exact S | exact S.pure ((Up.refl _).drew) | exact S.pure ((Up.refl _).drewN _)) _ _ _ _ _ (HW.out.up (by first | exact S.up | exact S.up.drew | exact S.up.drewN _)) k20 _ _ HS.out).mono ?_
        clear S
        rintro _ w4 ⟨rfl, S⟩
        go_wp2_with fail
        refine (Q.valok_ TT.out TF.out (by first | exact S | exact S.pure ((Up.refl _).drew) | exact S.pure ((Up.refl _).drewN _)) HN.out s N t f HV.out).mono ?_
        clear S
        rintro _ w5 ⟨v, rfl, hn1, u1, S⟩
        obtain ⟨A1, m1, d1_, rfl⟩ := hn1.sl
        clear u1
        go_upto_region 8 with fail
        obtain ⟨VX, hVX⟩ : ∃ VX, w5.alloc (.cells #[.bool s, .slice A1 m1 d1_, .int .i64 t, .int .i64 f] 34) = VX := ⟨_, rfl⟩
        have X : Ob VX w5.heap.size 34 #[.bool s, .slice A1 m1 d1_, .int .i64 t, .int .i64 f] := by rw [← hVX]; exact Ob.mk_ _ _ _
        have uVX : Up w5 VX := by rw [← hVX]; exact (Up.refl _).alloc _
        rw [hVX]
        clear hVX
        replace S := S.pure uVX
        replace hn1 := hn1.up uVX
        have X0 := X.get 0
        have X1 := X.get 1
        have X2 := X.get 2
        have X3 := X.get 3
        simp only [List.getElem?_toArray, List.getElem?_cons_zero, List.getElem?_cons_succ] at X0 X1 X2 X3
        clear uVX
        go_wp2_with fail
        replace S := S.swap2
        refine (Q.load_ TT.out TF.out (by first | exact S | exact S.pure ((Up.refl _).drew) | exact S.pure ((Up.refl _).drewN _)) _ _ _ _ _ _ (by first | exact hn1 | exact hn1.up ((Up.refl _).drew) | exact hn1.up ((Up.refl _).drewN _)) BT.out BF.out b 0 HL.out).mono ?_
        clear S
        rintro _ w6 ⟨rfl, S⟩
        clear X0 X1 X2 X3 X hn1
        replace S := S.swap2
        go_wp2_with fail
        refine (Q.bits_ TT.out TF.out (by first | exact S | exact S.pure ((Up.refl _).drew) | exact S.pure ((Up.refl _).drewN _))).mono ?_
        clear S
        rintro _ w7 ⟨v1, rfl, hn1, u1, S⟩
        obtain ⟨A1, m1, d1_, rfl⟩ := hn1.sl
        clear u1
        replace S := S.swap2
        go_wp2_with fail
        refine (Q.bits_ TT.out TF.out (by first | exact S | exact S.pure ((Up.refl _).drew) | exact S.pure ((Up.refl _).drewN _))).mono ?_
        clear S
        rintro _ w8 ⟨v2, rfl, hn2, u2, S⟩
        replace hn1 := hn1.up (Up.trans (by first | exact Up.refl _ | exact (Up.refl _).drew | exact (Up.refl _).drewN _) u2)
        obtain ⟨A2, m2, d2_, rfl⟩ := hn2.sl
        clear u2
        go_wp2_with fail
        refine (bits15_any _ _ _ _ _ _ _ _ _ _ _ _ _ (by first | exact hn1 | exact hn1.up ((Up.refl _).drew) | exact hn1.up ((Up.refl _).drewN _)) (by first | exact hn2 | exact hn2.up ((Up.refl _).drew) | exact hn2.up ((Up.refl _).drewN _)) (by decide) (by decide) true (decide_eq_true rfl)).mono ?_
        rintro _ w9 ⟨rfl, u9⟩
        replace S := S.pure (Up.trans (by first | exact Up.refl _ | exact (Up.refl _).drew | exact (Up.refl _).drewN _) u9)
        clear u9 hn1
        clear hn2
        go_wp2_with fail
        go_ret
        exact ⟨by first | rfl | simp, by first | exact S.up | exact S.up.drew | exact S.up.drewN _⟩
      · go_enter Tryz.func7, Tryz.ntmps7
        go_wp2_with fail
        refine (CH.out _ (by first | exact U | exact U.drew | exact U.drewN _)).mono ?_
        rintro _ w1 ⟨rfl, h1⟩
        replace U := Up.trans (by first | exact U | exact U.drew | exact U.drewN _) h1
        have S := Sd3.start U
        clear CH h1 U
        go_wp2_with fail
        refine (Q.fresh_ TF.out (by first | exact S | exact S.pure ((Up.refl _).drew) | exact S.pure ((Up.refl _).drewN _)) i1.out i2.out).mono ?_
        clear S
        rintro _ w2 ⟨p1, rfl, S⟩
        replace S := S.swap2
        go_wp2_with fail
        refine (Q.fresh_ TF.out (by first | exact S | exact S.pure ((Up.refl _).drew) | exact S.pure ((Up.refl _).drewN _)) i1.out i2.out).mono ?_
        clear S
        rintro _ w3 ⟨p2, rfl, S⟩
        replace S := S.swap2
        go_wp2_with fail
        refine (Q.set_ TT.out TF.out (by first | exact S | exact S.pure ((Up.refl _).drew) | exact S.pure ((Up.refl _).drewN _)) _ _ _ _ _ (HW.out.up (by first | exact S.up | exact S.up.drew | exact S.up.drewN _)) k20 _ _ HS.out).mono ?_
        clear S
        rintro _ w4 ⟨rfl, S⟩
        go_wp2_with fail
        refine (Q.valok_ TT.out TF.out (by first | exact S | exact S.pure ((Up.refl _).drew) | exact S.pure ((Up.refl _).drewN _)) HN.out s N t f HV.out).mono ?_
        clear S
        rintro _ w5 ⟨v, rfl, hn1, u1, S⟩
        obtain ⟨A1, m1, d1_, rfl⟩ := hn1.sl
        clear u1
        go_upto_region 8 with fail
        obtain ⟨VX, hVX⟩ : ∃ VX, w5.alloc (.cells #[.bool s, .slice A1 m1 d1_, .int .i64 t, .int .i64 f] 34) = VX := ⟨_, rfl⟩
        have X : Ob VX w5.heap.size 34 #[.bool s, .slice A1 m1 d1_, .int .i64 t, .int .i64 f] := by rw [← hVX]; exact Ob.mk_ _ _ _
        have uVX : Up w5 VX := by rw [← hVX]; exact (Up.refl _).alloc _
        rw [hVX]
        clear hVX
        replace S := S.pure uVX
        replace hn1 := hn1.up uVX
        have X0 := X.get 0
        have X1 := X.get 1
        have X2 := X.get 2
        have X3 := X.get 3
        simp only [List.getElem?_toArray, List.getElem?_cons_zero, List.getElem?_cons_succ] at X0 X1 X2 X3
        clear uVX
        clear X0 X1 X2 X3 X hn1
        go_wp2_with fail
        refine (Q.nar_ TT.out TF.out (by first | exact S | exact S.pure ((Up.refl _).drew) | exact S.pure ((Up.refl _).drewN _)) false (decide_eq_false HN.out)).mono ?_
        clear S
        rintro _ w6 ⟨rfl, S⟩
        go_wp2_with fail
        go_ret
        exact ⟨by first | rfl | simp, by first | exact S.up | exact S.up.drew | exact S.up.drewN _⟩
  · clear h hz
    have HI := Lib.hid hi
    clear hi
    go_enter Tryz.func7, Tryz.ntmps7
    go_wp2_with fail
    refine (CH.out _ (by first | exact U | exact U.drew | exact U.drewN _)).mono ?_
    rintro _ w1 ⟨rfl, h1⟩
    replace U := Up.trans (by first | exact U | exact U.drew | exact U.drewN _) h1
    have S := Sd3.start U
    clear CH h1 U
    go_wp2_with fail
    refine (Q.none_ _ (TF.out.up (by first | exact S.up | exact S.up.drew | exact S.up.drewN _)) x0 HI.out).mono ?_
    rintro _ w2 ⟨rfl, u⟩
    replace S := S.pure (Up.trans (by first | exact Up.refl _ | exact (Up.refl _).drew | exact (Up.refl _).drewN _) u)
    clear u
    go_wp2_with fail
    refine (Q.none_ _ (TF.out.up (by first | exact S.up | exact S.up.drew | exact S.up.drewN _)) x0 HI.out).mono ?_
    rintro _ w3 ⟨rfl, u⟩
    replace S := S.pure (Up.trans (by first | exact Up.refl _ | exact (Up.refl _).drew | exact (Up.refl _).drewN _) u)
    clear u
    go_wp2_with fail
    go_ret
    exact ⟨by first | rfl | simp, by first | exact S.up | exact S.up.drew | exact S.up.drewN _⟩
end
end Go.Proofs.YtijpffgocookaaaGreatDoor
