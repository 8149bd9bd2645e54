/-
  ValueKeys.
-/
import Derived.Test.YtjcbncfpcechnaaDoorVh
import Derived.Test.YtjcbncfpcechnaaDoorVf
import Derived.Test.YtjcbncfpcechnaaDoorVc3
namespace Go.Proofs.YtjcbncfpcechnaaDoor
open Go.RowKit
set_option linter.unusedSimpArgs false
set_option linter.unusedVariables false

set_option maxHeartbeats 4000000 in
set_option maxRecDepth 100000 in
theorem vkeys_walk (w : World) (TT : Hid (Tz w)) (TF : Hid (TabF w)) (x0 : Int) (_wx0 : (Lit.int .i64 x0).wf = true) (x1 : Int) (wx1 : (Lit.int .u64 x1).wf = true) (x2 : Bool) (x3 : Int) (wx3 : (Lit.int .u64 x3).wf = true) : Calls Tryd.prog 4 #[.int .i64 x0, .int .u64 x1, .bool x2, .int .u64 x3] w (True7 w) := by
  obtain ⟨p, rfl, hp⟩ := nat_u6 wx1
  obtain ⟨k, rfl, hk⟩ := nat_u6 wx3
  clear wx1 wx3
  obtain ⟨g1, k1, e1, h1⟩ := M.kc_ex x0 p
  obtain ⟨q2, e2, h2⟩ := M.mc_ex x0 x2
  obtain ⟨q3, e3, h3⟩ := M.pc_ex x0 x2 k
  have C1 := Lib.hid (fun W (T : Tz W) (F : TabF W) => vkey_any W (Lib.hid T) (Lib.hid F) x0 p hp g1 k1 e1 h1)
  have D1 := Lib.hid (fun W => rkey7_any W x0 p hp g1 k1 e1 h1)
  have C2 := Lib.hid (fun W (F : TabF W) => vmost_any W (Lib.hid F) x0 x2 q2 e2 h2)
  have D2 := Lib.hid (fun W => rmost_any W x0 x2 q2 e2 h2)
  have C3 := Lib.hid (fun W (F : TabF W) => vpattern_any W (Lib.hid F) x0 x2 k hk q3 e3 h3)
  have D3 := Lib.hid (fun W => rpattern_any W x0 x2 k hk q3 e3 h3)
  have r1 : (g1 == g1) = true := by simp
  have r2 : ((k1 : Int) == (k1 : Int)) = true := by simp
  have r3 : (e1 == e1) = true := by simp
  have r4 : (q2 == q2) = true := by simp
  have r5 : (e2 == e2) = true := by simp
  have r6 : (q3 == q3) = true := by simp
  have r7 : (e3 == e3) = true := by simp
  clear h1 h2 h3
  have U := Up.refl w
  go_enter Tryd.func4, Tryd.ntmps4
  go_wp2_with fail
  refine (vshown_any _ (Lib.hid (TT.out.up U)) (Lib.hid (TF.out.up U))).mono ?_
  rintro _ w1 ⟨rfl, h1⟩
  replace U := U.trans h1
  clear h1
  go_wp2_with fail
  refine (C1.out _ (TT.out.up U) (TF.out.up U)).mono ?_
  rintro _ w2 ⟨rfl, h2⟩
  replace U := U.trans h2
  clear h2
  go_wp2_with fail
  refine (D1.out _).mono ?_
  rintro _ w3 ⟨rfl, h3⟩
  replace U := U.trans h3
  clear h3
  go_wp2_with fail
  refine (C2.out _ (TF.out.up U)).mono ?_
  rintro _ w4 ⟨rfl, h4⟩
  replace U := U.trans h4
  clear h4
  go_wp2_with fail
  refine (D2.out _).mono ?_
  rintro _ w5 ⟨rfl, h5⟩
  replace U := U.trans h5
  clear h5
  go_wp2_with fail
  refine (C3.out _ (TF.out.up U)).mono ?_
  rintro _ w6 ⟨rfl, h6⟩
  replace U := U.trans h6
  clear h6
  go_wp2_with fail
  refine (D3.out _).mono ?_
  rintro _ w7 ⟨rfl, h7⟩
  replace U := U.trans h7
  clear h7
  go_wp2_with fail
  go_ret
  exact ⟨by first | rfl | simp, by first | exact U | exact U.alloc _⟩
end Go.Proofs.YtjcbncfpcechnaaDoor
