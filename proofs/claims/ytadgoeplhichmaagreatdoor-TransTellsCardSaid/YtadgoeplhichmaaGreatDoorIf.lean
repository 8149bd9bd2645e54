/-
  What each law of layer 14 shows first.
-/
import Derived.Test.YtadgoeplhichmaaGreatDoorIk
import Derived.Test.YtadgoeplhichmaaGreatDoorIc
namespace Go.Proofs.YtadgoeplhichmaaGreatDoor
open Go.RowKit Go.Shelf
set_option linter.unusedVariables false
set_option linter.unusedSimpArgs false

set_option maxHeartbeats 4000000 in
set_option maxRecDepth 100000 in
theorem shown14_any (F : Trn) (w : World) (TT : Hid (Tz w)) (TF : Hid (TabF w)) : Calls Tryz.prog 4 #[] w (True14 w) := by
  have C1 := Lib.hid (fun W (u : Up w W) => show Calls Tryz.prog 5 #[.int .i64 13, .int .i64 1, .int .i64 2, .int .u64 2139095040] W (fun e w' => e = .returned (.tuple #[.int .u64 128, .int .i64 0]) ∧ Up W w') from F.turn W 13 1 2 2139095040 128 0 (TT.out.up u) (TF.out.up u) (by decide) M.sh1)
  have C2 := Lib.hid (fun W (u : Up w W) => show Calls Tryz.prog 5 #[.int .i64 13, .int .i64 5, .int .i64 1, .int .u64 4286578688] W (fun e w' => e = .returned (.tuple #[.int .u64 254, .int .i64 0]) ∧ Up W w') from F.turn W 13 5 1 4286578688 254 0 (TT.out.up u) (TF.out.up u) (by decide) M.sh2)
  have C3 := Lib.hid (fun W (u : Up w W) => show Calls Tryz.prog 5 #[.int .i64 1, .int .i64 14, .int .i64 2, .int .u64 64] W (fun e w' => e = .returned (.tuple #[.int .u64 4607182418800017408, .int .i64 0]) ∧ Up W w') from F.turn W 1 14 2 64 4607182418800017408 0 (TT.out.up u) (TF.out.up u) (by decide) M.sh3)
  have C4 := Lib.hid (fun W (u : Up w W) => show Calls Tryz.prog 7 #[.int .i64 5, .int .i64 12, .int .u64 129] W (fun e w' => e = .returned (.tuple #[.bool true, .int .i64 0]) ∧ Up W w') from F.just W 5 12 129 true 0 (TT.out.up u) (TF.out.up u) (by decide) M.sh4)
  have C5 := Lib.hid (fun W (u : Up w W) => show Calls Tryz.prog 5 #[.int .i64 1, .int .i64 77, .int .i64 2, .int .u64 0] W (fun e w' => e = .returned (.tuple #[.int .u64 0, .int .i64 3]) ∧ Up W w') from F.turn W 1 77 2 0 0 3 (TT.out.up u) (TF.out.up u) (by decide) M.sh5)
  clear TT TF F
  have U := Up.refl w
  go_enter Tryz.func4, Tryz.ntmps4
  go_wp2_with fail
  refine (C1.out _ (by first | exact U | exact U.drew | exact U.drewN _)).mono ?_
  rintro _ w1 ⟨rfl, h1⟩
  replace U := Up.trans (by first | exact U | exact U.drew | exact U.drewN _) h1
  clear h1
  clear C1
  go_wp2_with fail
  refine (C2.out _ (by first | exact U | exact U.drew | exact U.drewN _)).mono ?_
  rintro _ w2 ⟨rfl, h2⟩
  replace U := Up.trans (by first | exact U | exact U.drew | exact U.drewN _) h2
  clear h2
  clear C2
  go_wp2_with fail
  refine (C3.out _ (by first | exact U | exact U.drew | exact U.drewN _)).mono ?_
  rintro _ w3 ⟨rfl, h3⟩
  replace U := Up.trans (by first | exact U | exact U.drew | exact U.drewN _) h3
  clear h3
  clear C3
  go_wp2_with fail
  refine (C4.out _ (by first | exact U | exact U.drew | exact U.drewN _)).mono ?_
  rintro _ w4 ⟨rfl, h4⟩
  replace U := Up.trans (by first | exact U | exact U.drew | exact U.drewN _) h4
  clear h4
  clear C4
  go_wp2_with fail
  refine (C5.out _ (by first | exact U | exact U.drew | exact U.drewN _)).mono ?_
  rintro _ w5 ⟨rfl, h5⟩
  replace U := Up.trans (by first | exact U | exact U.drew | exact U.drewN _) h5
  clear h5
  clear C5
  go_wp2_with fail
  go_ret
  exact ⟨by first | rfl | simp, by first | exact U | exact U.drew | exact U.drewN _⟩
end Go.Proofs.YtadgoeplhichmaaGreatDoor
