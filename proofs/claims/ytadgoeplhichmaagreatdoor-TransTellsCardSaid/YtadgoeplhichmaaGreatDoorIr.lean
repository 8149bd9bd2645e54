/-
  The reference's Number, Turn, Just.
-/
import Derived.Test.YtadgoeplhichmaaGreatDoorIa
import Derived.Test.YtadgoeplhichmaaGreatDoorIk
import Derived.Test.YtadgoeplhichmaaGreatDoorZda
namespace Go.Proofs.YtadgoeplhichmaaGreatDoor
open Go.RowKit Go.Shelf
set_option linter.unusedVariables false
set_option linter.unusedSimpArgs false

set_option maxHeartbeats 1000000 in
set_option maxRecDepth 100000 in
theorem rsize0_any (w : World) (z : Int) : Calls Tryz.prog 31 #[u64 0, .int .i64 z] w (Xr false 1 0 0 0 w) := by
  have U := Up.refl w
  go_enter Tryz.func31, Tryz.ntmps31
  go_wp2_with fail
  exact bodyPost_ret (v := xv false (.slice none 0 0) 0 0) (by simp [results, Tryz.results31, go_sem]) rfl ⟨_, rfl, Nt.nil _ _ _, (Up.refl w).alloc _⟩
set_option maxHeartbeats 4000000 in
set_option maxRecDepth 100000 in
theorem rnum14_any (w : World) (c : Int) (g : Bool) (m : Nat) (mb : m < 18446744073709551616) (z : Int) (hz : m = 0 → z = 0) : Calls Tryz.prog 15 #[.agg #[.int .i64 c, .bool g, u64 m, .int .i64 z]] w (Xr g 1 m z 0 w) := by
  have CS : Hid (∀ W, Calls Tryz.prog 31 #[u64 m, .int .i64 z] W (Xr false 1 m z 0 W)) := by
    by_cases m0 : m = 0
    · subst m0
      rw [hz rfl]
      exact fun W => rsize0_any W 0
    · exact fun W => rsize_any W m mb m0 z
  clear hz mb
  have X := (Ob.mk_ w 31 #[.int .i64 c, .bool g, u64 m, .int .i64 z])
  have U := (Up.refl w).alloc (.cells #[.int .i64 c, .bool g, u64 m, .int .i64 z] 31)
  obtain ⟨V1, hV1⟩ : ∃ V1, w.alloc (.cells #[.int .i64 c, .bool g, u64 m, .int .i64 z] 31) = V1 := ⟨_, rfl⟩
  have sV1 : V1.heap.size = w.heap.size + 1 := by rw [← hV1]; exact (Array.size_push _)
  have Y := (Ob.mk_ V1 48 #[.bool false, .slice none 0 0, .int .i64 0, .int .i64 0])
  have U2 := (Up.refl V1).alloc (.cells #[.bool false, .slice none 0 0, .int .i64 0, .int .i64 0] 48)
  obtain ⟨V2, hV2⟩ : ∃ V2, V1.alloc (.cells #[.bool false, .slice none 0 0, .int .i64 0, .int .i64 0] 48) = V2 := ⟨_, rfl⟩
  rw [hV1] at X U
  rw [hV2] at Y U2
  rw [sV1] at Y
  replace X := X.up U2
  replace U := U.trans U2
  have sV2 : V2.heap.size = w.heap.size + 2 := by rw [← hV2]; exact (Array.size_push _).trans (by omega)
  go_enter Tryz.func15, Tryz.ntmps15
  go_upto_region 1 with fail
  clear hV1 hV2 U2 sV1
  have X0 := X.get 0
  have X1 := X.get 1
  have X2 := X.get 2
  have X3 := X.get 3
  simp only [List.getElem?_toArray, List.getElem?_cons_zero, List.getElem?_cons_succ] at X0 X1 X2 X3
  go_wp2_with fail
  refine (CS.out _).mono ?_
  rintro _ w3 ⟨vs, rfl, N, h3⟩
  obtain ⟨A, n, cc, rfl, N⟩ := N.sl4
  clear X0 X1 X2 X3
  replace X := X.up h3
  replace Y := Y.up h3
  replace U := U.trans h3
  have s3 := h3.size
  clear h3 CS
  go_upto_region 2 with fail
  obtain ⟨V4, hV4⟩ : ∃ V4, w3.alloc (.cells #[.bool false, .slice A n cc, .int .i64 z, .int .i64 0] 48) = V4 := ⟨_, rfl⟩
  have E : Ob V4 w3.heap.size 48 #[.bool false, .slice A n cc, .int .i64 z, .int .i64 0] := by rw [← hV4]; exact Ob.mk_ _ _ _
  have u4 : Up w3 V4 := by rw [← hV4]; exact (Up.refl _).alloc _
  rw [hV4]
  clear hV4
  replace X := X.up u4
  replace Y := Y.up u4
  replace U := U.trans u4
  have X1 := X.get 1
  have E0 := E.get 0
  have Ef := E.fr 0
  have El := E.lt
  simp only [List.getElem?_toArray, List.getElem?_cons_zero, List.getElem?_cons_succ] at X1 E0
  go_upto_region 3 with fail
  obtain ⟨VX, hVX⟩ : ∃ VX, V4.setCell ⟨w3.heap.size, 0, none⟩ (.bool g) = VX := ⟨_, rfl⟩
  clear X1 E0 Ef El
  replace Y : Ob VX (w.heap.size + 1) 48 #[.bool false, .slice none 0 0, .int .i64 0, .int .i64 0] := by rw [← hVX]; exact Y.other (by omega) _
  replace E : Ob VX w3.heap.size 48 #[.bool g, .slice A n cc, .int .i64 z, .int .i64 0] := by rw [← hVX]; simpa using E.put 0 (.bool g)
  replace u4 : Up w3 VX := by rw [← hVX]; exact u4.setCell (Nat.le_refl _) _
  replace U : Up w VX := by rw [← hVX]; exact U.setCell (by show w.heap.size ≤ w3.heap.size; omega) _
  rw [hVX]
  clear hVX
  replace N := N.up u4
  have E0 := E.get 0
  have E1 := E.get 1
  have E2 := E.get 2
  have E3 := E.get 3
  simp only [List.getElem?_toArray, List.getElem?_cons_zero, List.getElem?_cons_succ] at E0 E1 E2 E3
  go_wp2_with (refine store_ob2 rfl 48 (.tmp 2) (.tmp 12) rfl _ #[.bool false, .slice none 0 0, .int .i64 0, .int .i64 0] #[.bool g, .slice A n cc, .int .i64 z, .int .i64 0] rfl rfl 4 (by kernel_rfl) rfl rfl (by simp [Value.oneCell']) w U (Nat.le_succ _) 48 Y ?_; clear U; intro V9 Z9 U ho)
  have R0 := Z9.get 0
  have R1 := Z9.get 1
  have R2 := Z9.get 2
  have R3 := Z9.get 3
  simp only [List.getElem?_toArray, List.getElem?_cons_zero, List.getElem?_cons_succ] at R0 R1 R2 R3
  refine bodyPost_ret (v := xv g (.slice A n cc) z 0) (by simp [results, Tryz.results15, go_sem, R0, R1, R2, R3]) rfl ?_
  exact ⟨_, rfl, (Nt.other N ho (by omega)).lower (by omega), U⟩
end Go.Proofs.YtadgoeplhichmaaGreatDoor
