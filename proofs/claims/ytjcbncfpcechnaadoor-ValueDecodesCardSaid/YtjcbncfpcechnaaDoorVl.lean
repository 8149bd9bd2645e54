/-
  ValueDecodes.
-/
import Derived.Test.YtjcbncfpcechnaaDoorVh
import Derived.Test.YtjcbncfpcechnaaDoorVe
namespace Go.Proofs.YtjcbncfpcechnaaDoor
open Go.RowKit
set_option linter.unusedSimpArgs false
set_option linter.unusedVariables false

set_option maxHeartbeats 4000000 in
set_option maxRecDepth 100000 in
theorem vdecodes_walk (w : World) (TT : Hid (Tz w)) (TF : Hid (TabF w)) (x0 : Int) (_wx0 : (Lit.int .i64 x0).wf = true) (x1 : Int) (wx1 : (Lit.int .u64 x1).wf = true) : Calls Tryd.prog 3 #[.int .i64 x0, .int .u64 x1] w (True7 w) := by
  obtain ⟨p, rfl, hp⟩ := nat_u6 wx1
  clear wx1
  obtain ⟨c, gg, m, z, x, h⟩ := M.dc_ex x0 p
  have CV := Lib.hid (fun W (T : Tz W) (F : TabF W) => vdecode_any W (Lib.hid T) (Lib.hid F) x0 p hp c gg m z x h)
  have CR := Lib.hid (fun W => rdecode_any W x0 p hp c gg m z x h)
  have q1 : (c == c) = true := by simp
  have q2 : (gg == gg) = true := by simp
  have q3 : ((m : Int) == (m : Int)) = true := by simp
  have q4 : (z == z) = true := by simp
  have q5 : (x == x) = true := by simp
  clear h
  have U := Up.refl w
  go_enter Tryd.func3, Tryd.ntmps3
  go_wp2_with fail
  refine (vshown_any _ (Lib.hid (TT.out.up U)) (Lib.hid (TF.out.up U))).mono ?_
  rintro _ w1 ⟨rfl, h1⟩
  replace U := U.trans h1
  clear h1
  go_wp2_with fail
  refine (CV.out _ (TT.out.up U) (TF.out.up U)).mono ?_
  rintro _ w2 ⟨rfl, h2⟩
  replace U := U.trans h2
  clear h2
  go_wp2_with fail
  obtain ⟨V3, hV3⟩ : ∃ V3, w2.alloc (.cells #[.int .i64 c, .bool gg, .int .u64 (m : Int), .int .i64 z] 25) = V3 := ⟨_, rfl⟩
  have Y : Ob V3 w2.heap.size 25 #[.int .i64 c, .bool gg, .int .u64 (m : Int), .int .i64 z] := by rw [← hV3]; exact Ob.mk_ _ _ _
  have uV3 : Up w2 V3 := by rw [← hV3]; exact (Up.refl _).alloc _
  have ltY : w.heap.size ≤ w2.heap.size := U.size
  rw [hV3]
  clear hV3
  replace U := U.trans uV3
  clear uV3
  refine (CR.out _).mono ?_
  rintro _ w4 ⟨rfl, h4⟩
  replace U := U.trans h4
  replace Y := Y.up h4
  clear h4
  have Y0 := Y.get 0
  have Y1 := Y.get 1
  have Y2 := Y.get 2
  have Y3 := Y.get 3
  have Yf0 := Y.fr 0
  have Yf1 := Y.fr 1
  have Yf2 := Y.fr 2
  have Yf3 := Y.fr 3
  have Yl := Y.lt
  simp only [List.getElem?_toArray, List.getElem?_cons_zero, List.getElem?_cons_succ] at Y0 Y1 Y2 Y3
  go_wp2_with fail
  clear Y0 Yf0 Y1 Yf1 Y2 Yf2 Y3 Yf3 Yl
  go_ret
  exact ⟨by first | rfl | simp, by first | exact U | exact U.alloc _⟩
end Go.Proofs.YtjcbncfpcechnaaDoor
