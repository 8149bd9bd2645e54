/-
  The laws of layer 4.
-/
import Derived.Test.YtekmlhgnfjgebaaDoorFormB
namespace Go.Proofs.YtekmlhgnfjgebaaDoor
open Go.RowKit
theorem fits9 (w : World) (hF : TabF w) : Calls Tryd.prog 17 #[.int .i64 9, .int .u64 16] w (Nz 1 w) := fits_in w hF 9 (by decide) (by decide) 16 (by decide) (by decide)
def True4 (w : World) (e : Ending) (w' : World) : Prop := e = .returned (.bool true) ∧ Up w w'
set_option maxHeartbeats 2000000 in
set_option maxRecDepth 100000 in
theorem fshown_any (w : World) (hF : TabF w) : Calls Tryd.prog 8 #[] w (True4 w) := by
  have U := Up.refl w
  go_enter Tryd.func8, Tryd.ntmps8
  go_wp2_with fail
  refine (of_in _ (hF.up U) 6 ⟨2, 8, 2, 15, 123, 124, 126⟩ (Lib.hid rfl) (by decide) (by decide)).mono ?_
  rintro _ w1 ⟨rfl, h1⟩
  replace U := U.trans h1
  clear h1
  go_wp2_with fail
  obtain ⟨V2, hV2⟩ : ∃ V2, w1.alloc (.cells #[.int .i64 2, .int .i64 8, .int .i64 2, .int .i64 15, .int .u64 123, .int .u64 124, .int .u64 126] 25) = V2 := ⟨_, rfl⟩
  have uV2 : Up w1 V2 := by rw [← hV2]; first | exact (Up.refl _).alloc _ | exact ((Up.refl _).alloc _).alloc _ | exact (((Up.refl _).alloc _).alloc _).alloc _ | exact ((((Up.refl _).alloc _).alloc _).alloc _).alloc _ | ((repeat (refine Up.alloc ?_ _)); exact Up.refl _)
  have c : Bf V2 w1.heap.size 25 ⟨2, 8, 2, 15, 123, 124, 126⟩ := by rw [← hV2]; exact Bf.mk_ w1 ⟨2, 8, 2, 15, 123, 124, 126⟩ 25
  rw [hV2]
  clear hV2
  replace U := U.trans uV2
  clear uV2
  obtain ⟨c0, c1, c2, c3, c4, c5, c6⟩ := Bf.cs c
  have c7 := Bf.lt c
  simp only [Nat.zero_add] at c0 c1 c2 c3 c4 c5 c6 c7
  go_wp2_with fail
  clear c0 c1 c2 c3 c4 c5 c6 c7
  refine (canon_in _ (hF.up U) 6 (by decide) (by decide) 255 (by decide) (by decide) (by decide) 126 (by show _ = _; decide)).mono ?_
  rintro _ w3 ⟨rfl, h3⟩
  replace c := c.up h3
  replace U := U.trans h3
  clear h3
  obtain ⟨c0, c1, c2, c3, c4, c5, c6⟩ := Bf.cs c
  have c7 := Bf.lt c
  simp only [Nat.zero_add] at c0 c1 c2 c3 c4 c5 c6 c7
  go_wp2_with fail
  clear c0 c1 c2 c3 c4 c5 c6 c7
  refine (canon_in _ (hF.up U) 6 (by decide) (by decide) 252 (by decide) (by decide) (by decide) 252 (by show _ = _; decide)).mono ?_
  rintro _ w4 ⟨rfl, h4⟩
  replace c := c.up h4
  replace U := U.trans h4
  clear h4
  obtain ⟨c0, c1, c2, c3, c4, c5, c6⟩ := Bf.cs c
  have c7 := Bf.lt c
  simp only [Nat.zero_add] at c0 c1 c2 c3 c4 c5 c6 c7
  go_wp2_with fail
  clear c0 c1 c2 c3 c4 c5 c6 c7
  refine (fits9 _ (hF.up U)).mono ?_
  rintro _ w5 ⟨rfl, h5⟩
  replace c := c.up h5
  replace U := U.trans h5
  clear h5
  go_wp2_with fail
  go_ret
  exact ⟨rfl, U⟩
end Go.Proofs.YtekmlhgnfjgebaaDoor
