/-
  Package layout: the text of digits that may be written: its contracts, and Layout's.
-/
import Derived.Test.YtkhnobogaiaogaaGreatDoorHq
import Derived.Test.YtkhnobogaiaogaaGreatDoorHc
import Derived.Deep.RegionWith
namespace Go.Proofs.YtkhnobogaiaogaaGreatDoor
open Go.RowKit Go.Shelf
set_option linter.unusedVariables false
set_option linter.unusedSimpArgs false

theorem itoa_any (w : World) (z : Int) (hz : -1000000 ≤ z ∧ z ≤ 1000000) (TW : TabW w) : Calls Tryz.prog 68 #[.int .i64 z] w (Tex (M.ntx z) w) := by
  refine (Tryz.strconv_Itoa z (by omega) (by omega) w TW).mono ?_
  rintro _ _ ⟨rfl, k, os, rfl⟩
  exact ⟨_, rfl, by rw [M.itoa_ntx]; exact Tx.lit _, Lib.below_grow w.heap.size w (Nat.le_refl _) k os⟩
theorem M.ntx_len (z : Int) (hz : -1000000 ≤ z ∧ z ≤ 1000000) : (M.ntx z).length ≤ 8 := by
  unfold M.ntx M.sgt
  have := M.dd_len7 z.natAbs (by omega)
  rw [List.length_append]
  split <;> simp <;> omega

set_option maxHeartbeats 2000000 in
set_option maxRecDepth 100000 in
theorem lpow_many (w : World) (TW : TabW w) (S : ByteArray) (T : List UInt8) (hS : Tx S T) (h1 : 1 < T.length) (h2 : T.length ≤ 3000) (z : Int) (hz : -1000000 ≤ z ∧ z ≤ 1000000) :
    Calls Tryz.prog 44 #[.string S, .int .i64 z] w (Tex (T.take 1 ++ ((46 :: T.drop 1) ++ (101 :: M.ntx z))) w) := by
  have hsz := hS.size
  obtain ⟨A, hA⟩ : ∃ A, S.extract 0 1 = A := ⟨_, rfl⟩
  obtain ⟨B, hB⟩ : ∃ B, S.extract 1 T.length = B := ⟨_, rfl⟩
  have tA : Hid (Tx A (T.take 1)) := by
    have := hS.ext 0 1
    rw [hA] at this
    exact this
  have tB : Hid (Tx B (T.drop 1)) := by
    have := hS.ext 1 T.length
    rw [hB, List.take_of_length_le (by rw [List.length_drop]; exact Nat.le_refl _)] at this
    exact this
  have c1 : (1 : Int) ≤ ↑S.size := by omega
  have lB := tB.out.size
  rw [List.length_drop] at lB
  have bB : 0 < B.size := by omega
  have tl1 : (T.take 1).length = 1 := by rw [List.length_take]; omega
  have CJ : Hid (∀ W b, Ob W b 9 #[.string A, .string ⟨#[46]⟩] → Calls Tryz.prog 25 #[.slice (some ⟨b, 0, none⟩) 2 2] W (Tex (T.take 1 ++ [46]) W)) := fun W b ob => join2 W b _ _ _ _ _ ob tA.out (Tx.lit [46]) (by rw [tl1]; simp)
  have CI : Hid (∀ W, Up w W → Calls Tryz.prog 68 #[.int .i64 z] W (Tex (M.ntx z) W)) := fun W u => itoa_any W z hz (TW.up u)
  have hzl := M.ntx_len z hz
  have CK : Hid (∀ W b (X Z : ByteArray), Tx X (T.take 1 ++ [46]) → Tx Z (M.ntx z) → Ob W b 9 #[.string X, .string B, .string ⟨#[101]⟩, .string Z] → Calls Tryz.prog 25 #[.slice (some ⟨b, 0, none⟩) 4 4] W (Tex ((T.take 1 ++ [46]) ++ (T.drop 1 ++ ([101] ++ M.ntx z))) W)) :=
    fun W b X Z tX tZ ob => join4 W b _ _ _ _ _ _ _ _ _ ob tX tB.out (Tx.lit [101]) tZ (by simp only [List.length_append, tl1, List.length_singleton, List.length_drop]; omega)
  have e2 : B.toList.isEmpty = false := by
    rw [Lib.toList_data, show B.data.toList = T.drop 1 from tB.out]
    have : T.drop 1 ≠ [] := by
      intro e
      have := congrArg List.length e
      rw [List.length_drop, List.length_nil] at this
      omega
    cases h : T.drop 1 with
    | nil => exact absurd h this
    | cons _ _ => rfl
  have HF : Hid ((T.take 1 ++ [46]) ++ (T.drop 1 ++ ([101] ++ M.ntx z)) = T.take 1 ++ ((46 :: T.drop 1) ++ (101 :: M.ntx z))) := by show _ = _; simp
  clear hS tA h1 h2 lB tl1 hz hzl TW
  generalize T.take 1 ++ ((46 :: T.drop 1) ++ (101 :: M.ntx z)) = L at *
  generalize T.take 1 = T1 at *
  generalize T.drop 1 = T2 at *
  go_enter Tryz.func44, Tryz.ntmps44
  go_wp2_with fail
  go_region
  all_goals
    go_wp2_with fail
    refine (CJ.out _ _ (by first | exact Ob.mk_ w _ _ | exact Ob.mk_ w.drew _ _)).mono ?_
    rintro _ w1 ⟨X, rfl, tX, u1⟩
    have U1 : Up w w1 := Up.trans (by repeat (first | exact Up.refl _ | refine Up.drew ?_ | refine Up.drewN ?_ _ | refine Up.alloc ?_ _)) u1
    have HX := Lib.hid tX
    clear u1 tX
    go_wp2_with fail
    refine (CI.out _ (by first | exact U1 | exact U1.drew)).mono ?_
    rintro _ w2 ⟨Z, rfl, tZ, u2⟩
    have U2 : Up w w2 := Up.trans (by first | exact U1 | exact U1.drew) u2
    have HZ := Lib.hid tZ
    clear u2 tZ U1
    go_wp2_with fail
    refine (CK.out _ _ X Z HX.out HZ.out (by first | exact Ob.mk_ w2 _ _ | exact Ob.mk_ w2.drew _ _)).mono ?_
    rintro _ w3 ⟨R, rfl, tR, u3⟩
    have U3 : Up w w3 := U2.trans (Up.trans (by repeat (first | exact Up.refl _ | refine Up.drew ?_ | refine Up.drewN ?_ _ | refine Up.alloc ?_ _)) u3)
    go_wp2_with fail
    go_ret
    exact ⟨R, rfl, tR.to HF.out, by first | exact U3 | exact U3.drew⟩

set_option maxHeartbeats 2000000 in
set_option maxRecDepth 100000 in
theorem lpow_one (w : World) (TW : TabW w) (S : ByteArray) (T : List UInt8) (hS : Tx S T) (h1 : T.length = 1) (z : Int) (hz : -1000000 ≤ z ∧ z ≤ 1000000) :
    Calls Tryz.prog 44 #[.string S, .int .i64 z] w (Tex (T ++ (101 :: M.ntx z)) w) := by
  have hsz := hS.size
  obtain ⟨A, hA⟩ : ∃ A, S.extract 0 1 = A := ⟨_, rfl⟩
  obtain ⟨B, hB⟩ : ∃ B, S.extract 1 T.length = B := ⟨_, rfl⟩
  have tA : Hid (Tx A T) := by
    have := hS.ext 0 1
    rw [hA, List.drop_zero, List.take_of_length_le (by omega)] at this
    exact this
  have tB : Hid (Tx B []) := by
    have := hS.ext 1 T.length
    rw [hB, h1] at this
    exact this
  have c1 : (1 : Int) ≤ ↑S.size := by omega
  have CI : Hid (∀ W, Up w W → Calls Tryz.prog 68 #[.int .i64 z] W (Tex (M.ntx z) W)) := fun W u => itoa_any W z hz (TW.up u)
  have hzl := M.ntx_len z hz
  have CK : Hid (∀ W b (Z : ByteArray), Tx Z (M.ntx z) → Ob W b 9 #[.string A, .string ByteArray.empty, .string ⟨#[101]⟩, .string Z] → Calls Tryz.prog 25 #[.slice (some ⟨b, 0, none⟩) 4 4] W (Tex (T ++ ([] ++ ([101] ++ M.ntx z))) W)) :=
    fun W b Z tZ ob => join4 W b _ _ _ _ _ _ _ _ _ ob tA.out (Tx.lit []) (Tx.lit [101]) tZ (by simp only [h1, List.length_singleton, List.length_nil]; omega)
  have e2 : B.toList.isEmpty = true := by
    rw [Lib.toList_data, show B.data.toList = [] from tB.out]
    rfl
  have HF : Hid (T ++ ([] ++ ([101] ++ M.ntx z)) = T ++ (101 :: M.ntx z)) := by show _ = _; simp
  clear hS tA hz hzl TW
  rw [h1] at hB hsz
  have h1' := Lib.hid h1
  clear h1
  generalize T ++ (101 :: M.ntx z) = L at *
  go_enter Tryz.func44, Tryz.ntmps44
  go_wp2_with fail
  go_region
  all_goals
    go_wp2_with fail
    refine (CI.out _ (by repeat (first | exact Up.refl _ | refine Up.drew ?_ | refine Up.drewN ?_ _ | refine Up.alloc ?_ _))).mono ?_
    rintro _ w2 ⟨Z, rfl, tZ, u2⟩
    have U2 : Up w w2 := Up.trans (by repeat (first | exact Up.refl _ | refine Up.drew ?_ | refine Up.drewN ?_ _ | refine Up.alloc ?_ _)) u2
    have HZ := Lib.hid tZ
    clear u2 tZ
    go_wp2_with fail
    refine (CK.out _ _ Z HZ.out (by first | exact Ob.mk_ w2 _ _ | exact Ob.mk_ w2.drew _ _)).mono ?_
    rintro _ w3 ⟨R, rfl, tR, u3⟩
    have U3 : Up w w3 := U2.trans (Up.trans (by repeat (first | exact Up.refl _ | refine Up.drew ?_ | refine Up.drewN ?_ _ | refine Up.alloc ?_ _)) u3)
    go_wp2_with fail
    go_ret
    exact ⟨R, rfl, tR.to HF.out, by first | exact U3 | exact U3.drew⟩
theorem lpow_any (w : World) (TW : TabW w) (S : ByteArray) (T : List UInt8) (hS : Tx S T) (h1 : 1 ≤ T.length) (h2 : T.length ≤ 3000) (z : Int) (hz : -1000000 ≤ z ∧ z ≤ 1000000) :
    Calls Tryz.prog 44 #[.string S, .int .i64 z] w (Tex (T.take 1 ++ ((if 1 < T.length then 46 :: T.drop 1 else []) ++ (101 :: M.ntx z))) w) := by
  by_cases h : 1 < T.length
  · rw [if_pos h]
    exact lpow_many w TW S T hS h h2 z hz
  · rw [if_neg h, List.nil_append, List.take_of_length_le (by omega)]
    exact lpow_one w TW S T hS (by omega) z hz
end Go.Proofs.YtkhnobogaiaogaaGreatDoor
