/-
  The laws of layer 7: what each shows first.
-/
import Derived.Test.YtjcbncfpcechnaaDoorVw2
namespace Go.Proofs.YtjcbncfpcechnaaDoor
open Go.RowKit
set_option linter.unusedSimpArgs false
set_option linter.unusedVariables false

def True7 (w : World) (e : Ending) (w' : World) : Prop := e = .returned (.bool true) ∧ Up w w'
namespace M
theorem isk7_64 : IsK 7 64 1 0 := ⟨by decide, 0, 5, 0, 3, by unfold Ps; decide, by decide, by decide⟩
theorem sh1 : Dc 1 192 2 true 1 0 0 := .inr ⟨1, rfl, by decide, by decide, .inr ⟨by decide, .inr (.inr (.inr ⟨by decide, rfl, by decide, 64, by decide, .inl ⟨rfl, 7, by decide, rfl, isk7_64⟩⟩)), rfl⟩⟩
theorem sh2 : Dc 6 252 3 true 0 0 0 := .inr ⟨6, rfl, by decide, by decide, .inr ⟨by decide, .inr (.inl ⟨by decide, rfl, by decide, rfl, rfl⟩), rfl⟩⟩
theorem sh3 : Dc 10 128 2 true 1 1 0 := .inr ⟨10, rfl, by decide, by decide, .inr ⟨by decide, .inr (.inr (.inr ⟨by decide, rfl, by decide, 128, by decide, .inr (.inr (.inl ⟨rfl, by decide, by decide, by decide, 7, by decide, by decide⟩))⟩)), rfl⟩⟩
theorem sh4 : Bc 5 126 29 4 0 := .inr ⟨5, rfl, by decide, by decide, .inr ⟨by decide, .inr (.inl ⟨rfl, 3, by decide, rfl, by unfold mok; decide, .inr ⟨by decide, 0, by decide, by decide⟩⟩), rfl⟩⟩
theorem sh5 : Pc 13 true 1065353216 3212836864 0 := .inr ⟨13, rfl, by decide, by decide, .inr ⟨by decide, .inr ⟨by decide, by decide, rfl⟩⟩⟩
end M
set_option maxHeartbeats 4000000 in
set_option maxRecDepth 100000 in
theorem vshown_any (w : World) (TT : Hid (Tz w)) (TF : Hid (TabF w)) : Calls Tryd.prog 11 #[] w (True7 w) := by
  have C1 := Lib.hid (fun W (T : Tz W) (F : TabF W) => show Calls Tryd.prog 12 #[.int .i64 1, .int .u64 192] W (Vd 2 true 1 0 0 W) from vdecode_any W (Lib.hid T) (Lib.hid F) 1 192 (by decide) 2 true 1 0 0 M.sh1)
  have C2 := Lib.hid (fun W (T : Tz W) (F : TabF W) => show Calls Tryd.prog 12 #[.int .i64 6, .int .u64 252] W (Vd 3 true 0 0 0 W) from vdecode_any W (Lib.hid T) (Lib.hid F) 6 252 (by decide) 3 true 0 0 0 M.sh2)
  have C3 := Lib.hid (fun W (T : Tz W) (F : TabF W) => show Calls Tryd.prog 12 #[.int .i64 10, .int .u64 128] W (Vd 2 true 1 1 0 W) from vdecode_any W (Lib.hid T) (Lib.hid F) 10 128 (by decide) 2 true 1 1 0 M.sh3)
  have C4 := Lib.hid (fun W (T : Tz W) (F : TabF W) => show Calls Tryd.prog 22 #[.int .i64 5, .int .u64 126] W (Mzx 29 4 0 W) from vbetween_any W (Lib.hid T) (Lib.hid F) 5 126 (by decide) 29 4 0 M.sh4)
  have C5 := Lib.hid (fun W (F : TabF W) => show Calls Tryd.prog 18 #[.int .i64 13, .bool true, .int .u64 1065353216] W (Wn 3212836864 0 W) from vpattern_any W (Lib.hid F) 13 true 1065353216 (by decide) 3212836864 0 M.sh5)
  have U := Up.refl w
  go_enter Tryd.func11, Tryd.ntmps11
  go_wp2_with fail
  refine (C1.out _ (TT.out.up U) (TF.out.up U)).mono ?_
  rintro _ w1 ⟨rfl, h1⟩
  replace U := U.trans h1
  clear h1
  go_wp2_with fail
  obtain ⟨V2, hV2⟩ : ∃ V2, w1.alloc (.cells #[.int .i64 2, .bool true, .int .u64 1, .int .i64 0] 25) = V2 := ⟨_, rfl⟩
  have X : Ob V2 w1.heap.size 25 #[.int .i64 2, .bool true, .int .u64 1, .int .i64 0] := by rw [← hV2]; exact Ob.mk_ _ _ _
  have uV2 : Up w1 V2 := by rw [← hV2]; exact (Up.refl _).alloc _
  have ltX : w.heap.size ≤ w1.heap.size := U.size
  rw [hV2]
  clear hV2
  replace U := U.trans uV2
  clear uV2
  refine (C2.out _ (TT.out.up U) (TF.out.up U)).mono ?_
  rintro _ w3 ⟨rfl, h3⟩
  replace U := U.trans h3
  replace X := X.up h3
  clear h3
  go_wp2_with fail
  obtain ⟨V4, hV4⟩ : ∃ V4, w3.alloc (.cells #[.int .i64 3, .bool true, .int .u64 0, .int .i64 0] 25) = V4 := ⟨_, rfl⟩
  have Y : Ob V4 w3.heap.size 25 #[.int .i64 3, .bool true, .int .u64 0, .int .i64 0] := by rw [← hV4]; exact Ob.mk_ _ _ _
  have uV4 : Up w3 V4 := by rw [← hV4]; exact (Up.refl _).alloc _
  have ltY : w.heap.size ≤ w3.heap.size := U.size
  rw [hV4]
  clear hV4
  replace U := U.trans uV4
  replace X := X.up uV4
  clear uV4
  refine (C3.out _ (TT.out.up U) (TF.out.up U)).mono ?_
  rintro _ w5 ⟨rfl, h5⟩
  replace U := U.trans h5
  replace X := X.up h5
  replace Y := Y.up h5
  clear h5
  go_wp2_with fail
  obtain ⟨V6, hV6⟩ : ∃ V6, w5.alloc (.cells #[.int .i64 2, .bool true, .int .u64 1, .int .i64 1] 25) = V6 := ⟨_, rfl⟩
  have Z : Ob V6 w5.heap.size 25 #[.int .i64 2, .bool true, .int .u64 1, .int .i64 1] := by rw [← hV6]; exact Ob.mk_ _ _ _
  have uV6 : Up w5 V6 := by rw [← hV6]; exact (Up.refl _).alloc _
  have ltZ : w.heap.size ≤ w5.heap.size := U.size
  rw [hV6]
  clear hV6
  replace U := U.trans uV6
  replace X := X.up uV6
  replace Y := Y.up uV6
  clear uV6
  refine (C4.out _ (TT.out.up U) (TF.out.up U)).mono ?_
  rintro _ w7 ⟨rfl, h7⟩
  replace U := U.trans h7
  replace X := X.up h7
  replace Y := Y.up h7
  replace Z := Z.up h7
  clear h7
  go_wp2_with fail
  refine (C5.out _ (TF.out.up U)).mono ?_
  rintro _ w8 ⟨rfl, h8⟩
  replace U := U.trans h8
  replace X := X.up h8
  replace Y := Y.up h8
  replace Z := Z.up h8
  clear h8
  have X0 := X.get 0
  have X1 := X.get 1
  have X2 := X.get 2
  have X3 := X.get 3
  have Xf0 := X.fr 0
  have Xf1 := X.fr 1
  have Xf2 := X.fr 2
  have Xf3 := X.fr 3
  have Xl := X.lt
  simp only [List.getElem?_toArray, List.getElem?_cons_zero, List.getElem?_cons_succ] at X0 X1 X2 X3
  have Y0 := Y.get 0
  have Y1 := Y.get 1
  have Y2 := Y.get 2
  have Y3 := Y.get 3
  have Yf0 := Y.fr 0
  have Yf1 := Y.fr 1
  have Yf2 := Y.fr 2
  have Yf3 := Y.fr 3
  have Yl := Y.lt
  simp only [List.getElem?_toArray, List.getElem?_cons_zero, List.getElem?_cons_succ] at Y0 Y1 Y2 Y3
  have Z0 := Z.get 0
  have Z1 := Z.get 1
  have Z2 := Z.get 2
  have Z3 := Z.get 3
  have Zf0 := Z.fr 0
  have Zf1 := Z.fr 1
  have Zf2 := Z.fr 2
  have Zf3 := Z.fr 3
  have Zl := Z.lt
  simp only [List.getElem?_toArray, List.getElem?_cons_zero, List.getElem?_cons_succ] at Z0 Z1 Z2 Z3
  go_wp2_with fail
  go_ret
  exact ⟨rfl, U⟩
end Go.Proofs.YtjcbncfpcechnaaDoor
