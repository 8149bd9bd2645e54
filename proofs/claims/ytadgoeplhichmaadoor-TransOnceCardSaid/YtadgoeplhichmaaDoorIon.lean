/-
  TransOnce: its walk.
-/
import Derived.Test.YtadgoeplhichmaaDoorIf
namespace Go.Proofs.YtadgoeplhichmaaDoor
open Go.RowKit Go.Shelf
set_option linter.unusedVariables false
set_option linter.unusedSimpArgs false

set_option maxHeartbeats 4000000 in
set_option maxRecDepth 100000 in
theorem tonce_walk (w : World) (TT : Hid (Tz w)) (TF : Hid (TabF w)) (F : Trn) (x0 : Int) (_wx0 : (Lit.int .i64 x0).wf = true) (x1 : Int) (_wx1 : (Lit.int .i64 x1).wf = true) (x2 : Int) (_wx2 : (Lit.int .i64 x2).wf = true) (x3 : Bool) (x4 : Int) (_wx4 : (Lit.int .u64 x4).wf = true) : Calls Tryd.prog 8 #[.int .i64 x0, .int .i64 x1, .int .i64 x2, .bool x3, .int .u64 x4] w (True14 w) := by
  obtain ⟨p, rfl, pb⟩ := wf_u64 _wx4
  have CH := Lib.hid (fun W (u : Up w W) => shown14_any F W (Lib.hid (TT.out.up u)) (Lib.hid (TF.out.up u)))
  obtain ⟨b, x, hj⟩ := M.jus_ex x0 x1 p
  have CJ := Lib.hid (fun W (u : Up w W) => F.just W x0 x1 p b x (TT.out.up u) (TF.out.up u) pb hj)
  have U := Up.refl w
  by_cases way : x = 0 ∧ b = true
  · obtain ⟨rfl, rfl⟩ := way
    rcases (show x3 = true ∨ x3 = false by cases x3 <;> simp) with rfl | rfl
    · obtain ⟨q, y, h1, qb⟩ := M.tc_ex x0 x1 2 p
      obtain ⟨r, v, h2, rb⟩ := M.tc_ex x1 x2 2 q
      obtain ⟨s, n, h3, sb⟩ := M.tc_ex x0 x2 2 p
      obtain ⟨rfl, rfl, rfl⟩ := M.once hj h1 h2 h3
      have C1 := Lib.hid (fun W (u : Up w W) => F.turn W x0 x1 2 p q 0 (TT.out.up u) (TF.out.up u) pb h1)
      have C2 := Lib.hid (fun W (u : Up w W) => F.turn W x1 x2 2 q r v (TT.out.up u) (TF.out.up u) qb h2)
      have C3 := Lib.hid (fun W (u : Up w W) => F.turn W x0 x2 2 p r v (TT.out.up u) (TF.out.up u) pb h3)
      clear hj h1 h2 h3 TT TF F qb rb
      go_enter Tryd.func8, Tryd.ntmps8
      go_wp2_with fail
      refine (CH.out _ (by first | exact U | exact U.drew | exact U.drewN _)).mono ?_
      rintro _ w1 ⟨rfl, h1⟩
      replace U := Up.trans (by first | exact U | exact U.drew | exact U.drewN _) h1
      clear h1
      clear CH
      go_wp2_with fail
      refine (CJ.out _ (by first | exact U | exact U.drew | exact U.drewN _)).mono ?_
      rintro _ w2 ⟨rfl, h2⟩
      replace U := Up.trans (by first | exact U | exact U.drew | exact U.drewN _) h2
      clear h2
      clear CJ
      go_wp2_with fail
      refine (C1.out _ (by first | exact U | exact U.drew | exact U.drewN _)).mono ?_
      rintro _ w3 ⟨rfl, h3⟩
      replace U := Up.trans (by first | exact U | exact U.drew | exact U.drewN _) h3
      clear h3
      clear C1
      go_wp2_with fail
      refine (C2.out _ (by first | exact U | exact U.drew | exact U.drewN _)).mono ?_
      rintro _ w4 ⟨rfl, h4⟩
      replace U := Up.trans (by first | exact U | exact U.drew | exact U.drewN _) h4
      clear h4
      clear C2
      go_wp2_with fail
      refine (C3.out _ (by first | exact U | exact U.drew | exact U.drewN _)).mono ?_
      rintro _ w5 ⟨rfl, h5⟩
      replace U := Up.trans (by first | exact U | exact U.drew | exact U.drewN _) h5
      clear h5
      clear C3
      go_wp2_with fail
      go_ret
      exact ⟨by first | rfl | simp, by first | exact U | exact U.drew | exact U.drewN _⟩
    · obtain ⟨q, y, h1, qb⟩ := M.tc_ex x0 x1 2 p
      obtain ⟨r, v, h2, rb⟩ := M.tc_ex x1 x2 1 q
      obtain ⟨s, n, h3, sb⟩ := M.tc_ex x0 x2 1 p
      obtain ⟨rfl, rfl, rfl⟩ := M.once hj h1 h2 h3
      have C1 := Lib.hid (fun W (u : Up w W) => F.turn W x0 x1 2 p q 0 (TT.out.up u) (TF.out.up u) pb h1)
      have C2 := Lib.hid (fun W (u : Up w W) => F.turn W x1 x2 1 q r v (TT.out.up u) (TF.out.up u) qb h2)
      have C3 := Lib.hid (fun W (u : Up w W) => F.turn W x0 x2 1 p r v (TT.out.up u) (TF.out.up u) pb h3)
      clear hj h1 h2 h3 TT TF F qb rb
      go_enter Tryd.func8, Tryd.ntmps8
      go_wp2_with fail
      refine (CH.out _ (by first | exact U | exact U.drew | exact U.drewN _)).mono ?_
      rintro _ w1 ⟨rfl, h1⟩
      replace U := Up.trans (by first | exact U | exact U.drew | exact U.drewN _) h1
      clear h1
      clear CH
      go_wp2_with fail
      refine (CJ.out _ (by first | exact U | exact U.drew | exact U.drewN _)).mono ?_
      rintro _ w2 ⟨rfl, h2⟩
      replace U := Up.trans (by first | exact U | exact U.drew | exact U.drewN _) h2
      clear h2
      clear CJ
      go_wp2_with fail
      refine (C1.out _ (by first | exact U | exact U.drew | exact U.drewN _)).mono ?_
      rintro _ w3 ⟨rfl, h3⟩
      replace U := Up.trans (by first | exact U | exact U.drew | exact U.drewN _) h3
      clear h3
      clear C1
      go_wp2_with fail
      refine (C2.out _ (by first | exact U | exact U.drew | exact U.drewN _)).mono ?_
      rintro _ w4 ⟨rfl, h4⟩
      replace U := Up.trans (by first | exact U | exact U.drew | exact U.drewN _) h4
      clear h4
      clear C2
      go_wp2_with fail
      refine (C3.out _ (by first | exact U | exact U.drew | exact U.drewN _)).mono ?_
      rintro _ w5 ⟨rfl, h5⟩
      replace U := Up.trans (by first | exact U | exact U.drew | exact U.drewN _) h5
      clear h5
      clear C3
      go_wp2_with fail
      go_ret
      exact ⟨by first | rfl | simp, by first | exact U | exact U.drew | exact U.drewN _⟩
  · have d1 : (x != 0) = true ∨ (x = 0 ∧ b = false) := by
      by_cases x0' : x = 0
      · exact .inr ⟨x0', by cases b <;> simp_all⟩
      · exact .inl (M.nx14 x0')
    clear way hj TT TF F
    rcases d1 with d1 | ⟨rfl, rfl⟩ <;> rcases (show x3 = true ∨ x3 = false by cases x3 <;> simp) with rfl | rfl
    all_goals
      go_enter Tryd.func8, Tryd.ntmps8
      go_wp2_with fail
      refine (CH.out _ (by first | exact U | exact U.drew | exact U.drewN _)).mono ?_
      rintro _ w1 ⟨rfl, h1⟩
      replace U := Up.trans (by first | exact U | exact U.drew | exact U.drewN _) h1
      clear h1
      clear CH
      go_wp2_with fail
      refine (CJ.out _ (by first | exact U | exact U.drew | exact U.drewN _)).mono ?_
      rintro _ w2 ⟨rfl, h2⟩
      replace U := Up.trans (by first | exact U | exact U.drew | exact U.drewN _) h2
      clear h2
      clear CJ
      go_wp2_with fail
      go_ret
      exact ⟨by first | rfl | simp, by first | exact U | exact U.drew | exact U.drewN _⟩
end Go.Proofs.YtadgoeplhichmaaDoor
