/-
  Package value: the shape of a form.
-/
import Derived.Test.YtjcbncfpcechnaaDoorVs
import Derived.Deep.RegionHeld3
namespace Go.Proofs.YtjcbncfpcechnaaDoor
open Go.RowKit
set_option linter.unusedSimpArgs false

/-- A shape's cells; a shape as a value. -/
abbrev shc (f : M.Fm) (a b c d : Nat) : Array Value := #[.int .i64 f.k, .int .i64 f.W, .int .i64 f.m, .int .i64 f.b, .int .u64 f.t, .int .u64 f.n, .int .u64 f.x, fn_ a, fn_ b, fn_ c, fn_ d]
abbrev zsh : Array Value := #[.int .i64 0, .int .i64 0, .int .i64 0, .int .i64 0, .int .u64 0, .int .u64 0, .int .u64 0, .nilFunc, .nilFunc, .nilFunc, .nilFunc]
/-- What a call comes to that makes a shape. -/
def Sh (f : M.Fm) (a b c d : Nat) (x : Int) (w : World) (e : Ending) (w' : World) : Prop := e = .returned (.tuple #[.agg (shc f a b c d), .int .i64 x]) ∧ Up w w'
abbrev nof : M.Fm := ⟨0, 0, 0, 0, 0, 0, 0⟩
set_option maxHeartbeats 2000000 in
set_option maxRecDepth 100000 in
theorem shape_in (w : World) (hF : TabF w) (i : Nat) (f : M.Fm) (hf : Hid (M.tb i = f)) (i1 : 1 ≤ i) (i2 : i ≤ 14) (a b c d : Nat) (hk : Wk f.k a b c d) :
    Calls Tryd.prog 35 #[.int .i64 (i : Int)] w (Sh f a b c d 0 w) := by
  have CW := Lib.hid (fun W => ways_any W)
  have HK := Lib.hid hk
  clear hk
  have U := Up.refl w
  go_enter Tryd.func35, Tryd.ntmps35
  go_wp2_with fail
  obtain ⟨V1, hV1⟩ : ∃ V1, w.alloc (.cells zsh 52) = V1 := ⟨_, rfl⟩
  have uV1 : Up w V1 := by rw [← hV1]; exact (Up.refl _).alloc _
  have B : Ob V1 w.heap.size 52 zsh := by rw [← hV1]; exact Ob.mk_ _ _ _
  rw [hV1]
  clear hV1
  replace U := U.trans uV1
  clear uV1
  refine (of_in _ (hF.up U) i f hf i1 i2).mono ?_
  rintro _ w2 ⟨rfl, h2⟩
  replace B := B.up h2
  replace U := U.trans h2
  clear h2 hF hf i1 i2
  have lt2 := B.lt
  go_wp2_with fail
  obtain ⟨V3, hV3⟩ : ∃ V3, w2.alloc (.cells #[.int .i64 f.k, .int .i64 f.W, .int .i64 f.m, .int .i64 f.b, .int .u64 f.t, .int .u64 f.n, .int .u64 f.x] 40) = V3 := ⟨_, rfl⟩
  have uV3 : Up w2 V3 := by rw [← hV3]; exact (Up.refl _).alloc _
  have C : Bf V3 w2.heap.size 40 f := by rw [← hV3]; exact Bf.mk_ w2 f 40
  rw [hV3]
  clear hV3
  replace B := B.up uV3
  replace U := U.trans uV3
  clear uV3
  refine wp_region_held_drew (S := fun w' => Bf w' w2.heap.size 40 f) (by kernel_rfl) C.drew (fun hHeld => ?_)
  refine wpAnyH_take (i := 0) (v := ?_) rfl (by kernel_rfl) (by kernel_rfl) (by kernel_rfl) (fun _ _ _ h => h) (Or.inl ⟨by rfl, ?_⟩) (by assumption) ?_
  rotate_left
  · intro w hSw
    obtain ⟨c0, c1, c2, c3, c4, c5, c6⟩ := Bf.cs hSw
    simp only [Nat.zero_add] at c0 c1 c2 c3 c4 c5 c6
    go_simp
    all_goals with_reducible rfl
  try simp only [Act.put, List.setIfInBounds_toArray, List.set_cons_zero, List.set_cons_succ, List.getElem_toArray, List.getElem_cons_zero, List.getElem_cons_succ]
  refine wpAnyH_take (i := 2) (v := ?_) rfl (by kernel_rfl) (by kernel_rfl) (by kernel_rfl) (fun _ _ _ h => h) (Or.inl ⟨by rfl, ?_⟩) (by assumption) ?_
  rotate_left
  · intro w hSw
    obtain ⟨c0, c1, c2, c3, c4, c5, c6⟩ := Bf.cs hSw
    simp only [Nat.zero_add] at c0 c1 c2 c3 c4 c5 c6
    go_simp
    all_goals with_reducible rfl
  try simp only [Act.put, List.setIfInBounds_toArray, List.set_cons_zero, List.set_cons_succ, List.getElem_toArray, List.getElem_cons_zero, List.getElem_cons_succ]
  refine wpAnyH_take (i := 3) (v := ?_) rfl (by kernel_rfl) (by kernel_rfl) (by kernel_rfl) (fun _ _ _ h => h) (Or.inl ⟨by rfl, ?_⟩) (by assumption) ?_
  rotate_left
  · intro w hSw
    obtain ⟨c0, c1, c2, c3, c4, c5, c6⟩ := Bf.cs hSw
    simp only [Nat.zero_add] at c0 c1 c2 c3 c4 c5 c6
    go_simp
    all_goals with_reducible rfl
  try simp only [Act.put, List.setIfInBounds_toArray, List.set_cons_zero, List.set_cons_succ, List.getElem_toArray, List.getElem_cons_zero, List.getElem_cons_succ]
  refine wpAnyH_ready (rs := [1]) (by kernel_rfl) (by simp) ?_
  refine AllReadyH.cons rfl (fun K hK => ?_) AllReadyH.nil
  go_simp
  refine (CW.out _).mono ?_
  rintro _ w4 ⟨mb, rfl, hm, h4⟩
  have uw4 : Up V3 w4 := Up.trans ((Up.refl V3).drew) h4
  have hlk := hm.look HK.out
  have C4 := C.up uw4
  have B4 := B.up uw4
  have U4 := U.trans uw4
  clear hHeld h4 uw4 C B U hm
  refine hK.out _ _ C4 (fun _ => ?_)
  try simp only [Act.put, List.setIfInBounds_toArray, List.set_cons_zero, List.set_cons_succ, List.getElem_toArray, List.getElem_cons_zero, List.getElem_cons_succ]
  clear hK
  refine wpAnyH_ready (rs := [4]) (by kernel_rfl) (by simp) ?_
  refine AllReadyH.cons rfl (fun K hK => ?_) AllReadyH.nil
  go_simp
  refine hK.out _ _ C4 (fun _ => ?_)
  try simp only [Act.put, List.setIfInBounds_toArray, List.set_cons_zero, List.set_cons_succ, List.getElem_toArray, List.getElem_cons_zero, List.getElem_cons_succ]
  clear hK
  refine wpAnyH_ready (rs := [5]) (by kernel_rfl) (by simp) ?_
  refine AllReadyH.cons rfl (fun K hK => ?_) AllReadyH.nil
  go_simp
  refine hK.out _ _ C4 (fun _ => ?_)
  try simp only [Act.put, List.setIfInBounds_toArray, List.set_cons_zero, List.set_cons_succ, List.getElem_toArray, List.getElem_cons_zero, List.getElem_cons_succ]
  clear hK
  refine wpAnyH_ready (rs := [6]) (by kernel_rfl) (by simp) ?_
  refine AllReadyH.cons rfl (fun K hK => ?_) AllReadyH.nil
  rw [if_pos (by rfl)]
  refine wp_store_row 52 (.tmp 2) (.tmp 20) rfl w.heap.size (shc f a b c d) rfl rfl 52 zsh B4 (by kernel_rfl) rfl (by simp [Value.oneCell']) ?_
  have B5 : Ob (w4.setRow w.heap.size (shc f a b c d)) w.heap.size 52 (shc f a b c d) := setRow_heap _ _ _ _ _ _ B4
  have U5 : Up w (w4.setRow w.heap.size (shc f a b c d)) := U4.setRow_ (Nat.le_refl _) _
  refine hK.out _ _ ((setRow_other w4 w.heap.size _ _ (by omega)).trans C4) (fun C5 => ?_)
  try simp only [Act.put, List.setIfInBounds_toArray, List.set_cons_zero, List.set_cons_succ, List.getElem_toArray, List.getElem_cons_zero, List.getElem_cons_succ]
  clear hK hlk U4 B4 C4
  obtain ⟨V5, hV5⟩ : ∃ V5, w4.setRow w.heap.size (shc f a b c d) = V5 := ⟨_, rfl⟩
  rw [hV5] at B5 U5 C5 ⊢
  clear hV5
  refine wpAnyH_ready (rs := [7]) (by kernel_rfl) (by simp) ?_
  refine AllReadyH.cons rfl (fun K hK => ?_) AllReadyH.nil
  go_simp
  refine hK.out _ _ C5 (fun _ => ?_)
  try simp only [Act.put, List.setIfInBounds_toArray, List.set_cons_zero, List.set_cons_succ, List.getElem_toArray, List.getElem_cons_zero, List.getElem_cons_succ]
  clear hK
  refine wpAnyH_done (by kernel_rfl) ?_ _
  go_wp2_with fail
  have z0 := B5.get 0
  have z1 := B5.get 1
  have z2 := B5.get 2
  have z3 := B5.get 3
  have z4 := B5.get 4
  have z5 := B5.get 5
  have z6 := B5.get 6
  have z7 := B5.get 7
  have z8 := B5.get 8
  have z9 := B5.get 9
  have z10 := B5.get 10
  simp only [List.getElem?_toArray, List.getElem?_cons_zero, List.getElem?_cons_succ] at z0 z1 z2 z3 z4 z5 z6 z7 z8 z9 z10
  refine bodyPost_ret (v := .tuple #[.agg (shc f a b c d), .int .i64 0]) (by simp [results, Tryd.results35, go_sem, z0, z1, z2, z3, z4, z5, z6, z7, z8, z9, z10]) rfl ?_
  exact ⟨rfl, U5⟩
end Go.Proofs.YtjcbncfpcechnaaDoor
