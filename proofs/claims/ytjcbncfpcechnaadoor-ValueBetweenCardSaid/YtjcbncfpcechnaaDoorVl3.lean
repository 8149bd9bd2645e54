/-
  ValueBetween.
-/
import Derived.Test.YtjcbncfpcechnaaDoorVh
import Derived.Test.YtjcbncfpcechnaaDoorVd
namespace Go.Proofs.YtjcbncfpcechnaaDoor
open Go.RowKit
set_option linter.unusedSimpArgs false
set_option linter.unusedVariables false

set_option maxHeartbeats 4000000 in
set_option maxRecDepth 100000 in
theorem vbetween_walk (w : World) (TT : Hid (Tz w)) (TF : Hid (TabF w)) (x0 : Int) (_wx0 : (Lit.int .i64 x0).wf = true) (x1 : Int) (wx1 : (Lit.int .u64 x1).wf = true) : Calls Tryd.prog 5 #[.int .i64 x0, .int .u64 x1] w (True7 w) := by
  obtain ⟨k, rfl, hk⟩ := nat_u6 wx1
  clear wx1
  obtain ⟨m1, z1, e1, h1⟩ := M.ac_ex x0 k
  obtain ⟨m2, z2, e2, h2⟩ := M.bc_ex x0 k
  have C1 := Lib.hid (fun W (T : Tz W) (F : TabF W) => vat_any W (Lib.hid T) (Lib.hid F) x0 k hk m1 z1 e1 h1)
  have D1 := Lib.hid (fun W => rat_any W x0 k hk m1 z1 e1 h1)
  have C2 := Lib.hid (fun W (T : Tz W) (F : TabF W) => vbetween_any W (Lib.hid T) (Lib.hid F) x0 k hk m2 z2 e2 h2)
  have D2 := Lib.hid (fun W => rbetween_any W x0 k hk m2 z2 e2 h2)
  have r1 : ((m1 : Int) == (m1 : Int)) = true := by simp
  have r2 : ((m2 : Int) == (m2 : Int)) = true := by simp
  have r3 : (z1 == z1) = true := by simp
  have r4 : (z2 == z2) = true := by simp
  have r5 : (e1 == e1) = true := by simp
  have r6 : (e2 == e2) = true := by simp
  clear h1 h2
  have U := Up.refl w
  go_enter Tryd.func5, Tryd.ntmps5
  go_wp2_with fail
  refine (vshown_any _ (Lib.hid (TT.out.up U)) (Lib.hid (TF.out.up U))).mono ?_
  rintro _ w1 ⟨rfl, h1⟩
  replace U := U.trans h1
  clear h1
  go_wp2_with fail
  refine (C1.out _ (TT.out.up U) (TF.out.up U)).mono ?_
  rintro _ w2 ⟨rfl, h2⟩
  replace U := U.trans h2
  clear h2
  go_wp2_with fail
  refine (D1.out _).mono ?_
  rintro _ w3 ⟨rfl, h3⟩
  replace U := U.trans h3
  clear h3
  go_wp2_with fail
  refine (C2.out _ (TT.out.up U) (TF.out.up U)).mono ?_
  rintro _ w4 ⟨rfl, h4⟩
  replace U := U.trans h4
  clear h4
  go_wp2_with fail
  refine (D2.out _).mono ?_
  rintro _ w5 ⟨rfl, h5⟩
  replace U := U.trans h5
  clear h5
  go_wp2_with fail
  go_ret
  exact ⟨by first | rfl | simp, by first | exact U | exact U.alloc _⟩
end Go.Proofs.YtjcbncfpcechnaaDoor
