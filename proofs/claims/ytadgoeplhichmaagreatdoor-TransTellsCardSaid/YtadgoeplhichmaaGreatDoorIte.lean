/-
  TransTells: its walk.
-/
import Derived.Test.YtadgoeplhichmaaGreatDoorIf
import Derived.Test.YtadgoeplhichmaaGreatDoorIj
namespace Go.Proofs.YtadgoeplhichmaaGreatDoor
open Go.RowKit Go.Shelf
set_option linter.unusedVariables false
set_option linter.unusedSimpArgs false

set_option maxHeartbeats 4000000 in
set_option maxRecDepth 100000 in
theorem ttells_walk (w : World) (TT : Hid (Tz w)) (TF : Hid (TabF w)) (F : Trn) (x0 : Int) (_wx0 : (Lit.int .i64 x0).wf = true) (x1 : Int) (_wx1 : (Lit.int .i64 x1).wf = true) (x2 : Int) (_wx2 : (Lit.int .i64 x2).wf = true) (x3 : Int) (_wx3 : (Lit.int .u64 x3).wf = true) : Calls Tryz.prog 3 #[.int .i64 x0, .int .i64 x1, .int .i64 x2, .int .u64 x3] w (True14 w) := by
  obtain ⟨p, rfl, pb⟩ := wf_u64 _wx3
  have CH := Lib.hid (fun W (u : Up w W) => shown14_any F W (Lib.hid (TT.out.up u)) (Lib.hid (TF.out.up u)))
  obtain ⟨q, x, h1, qb⟩ := M.tc_ex x0 x1 x2 p
  obtain ⟨b, y, h2⟩ := M.jus_ex x0 x1 p
  have C1 := Lib.hid (fun W (u : Up w W) => F.turn W x0 x1 x2 p q x (TT.out.up u) (TF.out.up u) pb h1)
  have C2 := Lib.hid (fun W (u : Up w W) => rturn14_any W x0 x1 x2 p q pb x h1)
  have C3 := Lib.hid (fun W (u : Up w W) => F.just W x0 x1 p b y (TT.out.up u) (TF.out.up u) pb h2)
  have C4 := Lib.hid (fun W (u : Up w W) => rjust14_any W x0 x1 p b pb y h2)
  clear h1 h2 TT TF F pb qb
  have U := Up.refl w
  go_enter Tryz.func3, Tryz.ntmps3
  go_wp2_with fail
  refine (CH.out _ (by first | exact U | exact U.drew | exact U.drewN _)).mono ?_
  rintro _ w1 ⟨rfl, h1⟩
  replace U := Up.trans (by first | exact U | exact U.drew | exact U.drewN _) h1
  clear h1
  clear CH
  go_wp2_with fail
  refine (C1.out _ (by first | exact U | exact U.drew | exact U.drewN _)).mono ?_
  rintro _ w2 ⟨rfl, h2⟩
  replace U := Up.trans (by first | exact U | exact U.drew | exact U.drewN _) h2
  clear h2
  clear C1
  go_wp2_with fail
  refine (C2.out _ (by first | exact U | exact U.drew | exact U.drewN _)).mono ?_
  rintro _ w3 ⟨rfl, h3⟩
  replace U := Up.trans (by first | exact U | exact U.drew | exact U.drewN _) h3
  clear h3
  clear C2
  go_wp2_with fail
  refine (C3.out _ (by first | exact U | exact U.drew | exact U.drewN _)).mono ?_
  rintro _ w4 ⟨rfl, h4⟩
  replace U := Up.trans (by first | exact U | exact U.drew | exact U.drewN _) h4
  clear h4
  clear C3
  go_wp2_with fail
  refine (C4.out _ (by first | exact U | exact U.drew | exact U.drewN _)).mono ?_
  rintro _ w5 ⟨rfl, h5⟩
  replace U := Up.trans (by first | exact U | exact U.drew | exact U.drewN _) h5
  clear h5
  clear C4
  go_wp2_with fail
  go_ret
  exact ⟨by first | rfl | simp, by first | exact U | exact U.drew | exact U.drewN _⟩
end Go.Proofs.YtadgoeplhichmaaGreatDoor
