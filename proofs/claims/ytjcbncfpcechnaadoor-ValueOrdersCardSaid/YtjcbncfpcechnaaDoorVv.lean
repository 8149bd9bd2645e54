/-
  Package value: shapes that fit a pattern, or a key.
-/
import Derived.Test.YtjcbncfpcechnaaDoorVt
import Derived.Test.YtjcbncfpcechnaaDoorVu2
namespace Go.Proofs.YtjcbncfpcechnaaDoor
open Go.RowKit
set_option linter.unusedSimpArgs false
set_option linter.unusedVariables false

/-- There is no shape. -/
def Sz (x : Int) (w : World) (e : Ending) (w' : World) : Prop := e = .returned (.tuple #[.agg zsh, .int .i64 x]) ∧ Up w w'
set_option maxHeartbeats 4000000 in
set_option maxRecDepth 100000 in
theorem shape_out (w : World) (ii : Int) (h : ii < 1 ∨ 15 ≤ ii) : Calls Tryd.prog 35 #[.int .i64 ii] w (Sz 3 w) := by
  have U := Up.refl w
  go_enter Tryd.func35, Tryd.ntmps35
  go_wp2_with fail
  obtain ⟨V1, hV1⟩ : ∃ V1, w.alloc (.cells zsh 52) = V1 := ⟨_, rfl⟩
  have B : Ob V1 w.heap.size 52 zsh := by rw [← hV1]; exact Ob.mk_ _ _ _
  have uV1 : Up w V1 := by rw [← hV1]; exact (Up.refl _).alloc _
  have ltB : w.heap.size ≤ w.heap.size := U.size
  rw [hV1]
  clear hV1
  replace U := U.trans uV1
  clear uV1
  refine (of_out _ ii h).mono ?_
  rintro _ w2 ⟨rfl, h2⟩
  replace U := U.trans h2
  replace B := B.up h2
  clear h2
  clear h
  go_wp2_with (refine store_ob rfl 52 (.tmp 2) (.tmp 13) rfl _ zsh zsh rfl rfl 11 (by kernel_rfl) rfl rfl (by simp [Value.oneCell']) w (by first | exact U | exact U.alloc _) ltB 52 (by first | exact B | exact B.up ((Up.refl _).alloc _)) ?_; clear U; intro V9 z U)
  have z0 := z.get 0
  have z1 := z.get 1
  have z2 := z.get 2
  have z3 := z.get 3
  have z4 := z.get 4
  have z5 := z.get 5
  have z6 := z.get 6
  have z7 := z.get 7
  have z8 := z.get 8
  have z9 := z.get 9
  have z10 := z.get 10
  simp only [List.getElem?_toArray, List.getElem?_cons_zero, List.getElem?_cons_succ] at z0 z1 z2 z3 z4 z5 z6 z7 z8 z9 z10
  refine bodyPost_ret (v := .tuple #[.agg zsh, .int .i64 3]) (by simp [results, Tryd.results35, go_sem, z0, z1, z2, z3, z4, z5, z6, z7, z8, z9, z10]) rfl ?_
  exact ⟨rfl, U⟩
set_option maxHeartbeats 4000000 in
set_option maxRecDepth 100000 in
theorem smost_any (w : World) (f : M.Fm) (a b c d : Nat) (ht : 0 ≤ f.t ∧ f.t ≤ 18446744073709551000) (neg : Bool) (q : Int) (hq : M.mst f neg = q) : Calls Tryd.prog 36 #[.agg (shc f a b c d), .bool neg] w (Wz q w) := by
  unfold M.mst at hq
  cases neg
  ·
    rw [if_neg (by simp)] at hq
    subst hq
    have U := Up.refl w
    go_enter Tryd.func36, Tryd.ntmps36
    go_wp2_with fail
    obtain ⟨V1, hV1⟩ : ∃ V1, w.alloc (.cells (shc f a b c d) 52) = V1 := ⟨_, rfl⟩
    have B : Ob V1 w.heap.size 52 (shc f a b c d) := by rw [← hV1]; exact Ob.mk_ _ _ _
    have uV1 : Up w V1 := by rw [← hV1]; exact (Up.refl _).alloc _
    have ltB : w.heap.size ≤ w.heap.size := U.size
    rw [hV1]
    clear hV1
    replace U := U.trans uV1
    clear uV1
    have B0 := B.get 0
    have B1 := B.get 1
    have B2 := B.get 2
    have B3 := B.get 3
    have B4 := B.get 4
    have B5 := B.get 5
    have B6 := B.get 6
    have B7 := B.get 7
    have B8 := B.get 8
    have B9 := B.get 9
    have B10 := B.get 10
    have Bf0 := B.fr 0
    have Bf1 := B.fr 1
    have Bf2 := B.fr 2
    have Bf3 := B.fr 3
    have Bf4 := B.fr 4
    have Bf5 := B.fr 5
    have Bf6 := B.fr 6
    have Bf7 := B.fr 7
    have Bf8 := B.fr 8
    have Bf9 := B.fr 9
    have Bf10 := B.fr 10
    have Bl := B.lt
    simp only [List.getElem?_toArray, List.getElem?_cons_zero, List.getElem?_cons_succ] at B0 B1 B2 B3 B4 B5 B6 B7 B8 B9 B10
    go_wp2_with fail
    clear B0 Bf0 B1 Bf1 B2 Bf2 B3 Bf3 B4 Bf4 B5 Bf5 B6 Bf6 B7 Bf7 B8 Bf8 B9 Bf9 B10 Bf10 Bl
    go_ret
    exact ⟨rfl, U⟩
  by_cases hk : f.k = 3
  ·
    rw [if_pos ⟨hk, rfl⟩] at hq
    subst hq
    have d1 : (f.k == 3) = true := by simpa using hk
    clear hk
    have U := Up.refl w
    go_enter Tryd.func36, Tryd.ntmps36
    go_wp2_with fail
    obtain ⟨V1, hV1⟩ : ∃ V1, w.alloc (.cells (shc f a b c d) 52) = V1 := ⟨_, rfl⟩
    have B : Ob V1 w.heap.size 52 (shc f a b c d) := by rw [← hV1]; exact Ob.mk_ _ _ _
    have uV1 : Up w V1 := by rw [← hV1]; exact (Up.refl _).alloc _
    have ltB : w.heap.size ≤ w.heap.size := U.size
    rw [hV1]
    clear hV1
    replace U := U.trans uV1
    clear uV1
    have B0 := B.get 0
    have B1 := B.get 1
    have B2 := B.get 2
    have B3 := B.get 3
    have B4 := B.get 4
    have B5 := B.get 5
    have B6 := B.get 6
    have B7 := B.get 7
    have B8 := B.get 8
    have B9 := B.get 9
    have B10 := B.get 10
    have Bf0 := B.fr 0
    have Bf1 := B.fr 1
    have Bf2 := B.fr 2
    have Bf3 := B.fr 3
    have Bf4 := B.fr 4
    have Bf5 := B.fr 5
    have Bf6 := B.fr 6
    have Bf7 := B.fr 7
    have Bf8 := B.fr 8
    have Bf9 := B.fr 9
    have Bf10 := B.fr 10
    have Bl := B.lt
    simp only [List.getElem?_toArray, List.getElem?_cons_zero, List.getElem?_cons_succ] at B0 B1 B2 B3 B4 B5 B6 B7 B8 B9 B10
    go_wp2_with fail
    clear B0 Bf0 B1 Bf1 B2 Bf2 B3 Bf3 B4 Bf4 B5 Bf5 B6 Bf6 B7 Bf7 B8 Bf8 B9 Bf9 B10 Bf10 Bl
    go_ret
    exact ⟨rfl, U⟩
  ·
    rw [if_neg (by simp [hk])] at hq
    subst hq
    have d1 : (f.k == 3) = false := by simpa using hk
    clear hk
    have U := Up.refl w
    go_enter Tryd.func36, Tryd.ntmps36
    go_wp2_with fail
    obtain ⟨V1, hV1⟩ : ∃ V1, w.alloc (.cells (shc f a b c d) 52) = V1 := ⟨_, rfl⟩
    have B : Ob V1 w.heap.size 52 (shc f a b c d) := by rw [← hV1]; exact Ob.mk_ _ _ _
    have uV1 : Up w V1 := by rw [← hV1]; exact (Up.refl _).alloc _
    have ltB : w.heap.size ≤ w.heap.size := U.size
    rw [hV1]
    clear hV1
    replace U := U.trans uV1
    clear uV1
    have B0 := B.get 0
    have B1 := B.get 1
    have B2 := B.get 2
    have B3 := B.get 3
    have B4 := B.get 4
    have B5 := B.get 5
    have B6 := B.get 6
    have B7 := B.get 7
    have B8 := B.get 8
    have B9 := B.get 9
    have B10 := B.get 10
    have Bf0 := B.fr 0
    have Bf1 := B.fr 1
    have Bf2 := B.fr 2
    have Bf3 := B.fr 3
    have Bf4 := B.fr 4
    have Bf5 := B.fr 5
    have Bf6 := B.fr 6
    have Bf7 := B.fr 7
    have Bf8 := B.fr 8
    have Bf9 := B.fr 9
    have Bf10 := B.fr 10
    have Bl := B.lt
    simp only [List.getElem?_toArray, List.getElem?_cons_zero, List.getElem?_cons_succ] at B0 B1 B2 B3 B4 B5 B6 B7 B8 B9 B10
    go_wp2_with fail
    clear B0 Bf0 B1 Bf1 B2 Bf2 B3 Bf3 B4 Bf4 B5 Bf5 B6 Bf6 B7 Bf7 B8 Bf8 B9 Bf9 B10 Bf10 Bl
    go_ret
    exact ⟨rfl, U⟩
set_option maxHeartbeats 4000000 in
set_option maxRecDepth 100000 in
theorem vfit_out (w : World) (ii p : Int) (h : ii < 1 ∨ 15 ≤ ii) : Calls Tryd.prog 29 #[.int .i64 ii, .int .u64 p] w (Sz 3 w) := by
  have U := Up.refl w
  go_enter Tryd.func29, Tryd.ntmps29
  go_wp2_with fail
  obtain ⟨V1, hV1⟩ : ∃ V1, w.alloc (.cells zsh 52) = V1 := ⟨_, rfl⟩
  have B : Ob V1 w.heap.size 52 zsh := by rw [← hV1]; exact Ob.mk_ _ _ _
  have uV1 : Up w V1 := by rw [← hV1]; exact (Up.refl _).alloc _
  have ltB : w.heap.size ≤ w.heap.size := U.size
  rw [hV1]
  clear hV1
  replace U := U.trans uV1
  clear uV1
  refine (fits_out _ ii p h).mono ?_
  rintro _ w2 ⟨rfl, h2⟩
  replace U := U.trans h2
  replace B := B.up h2
  clear h2
  clear h
  go_wp2_with (refine store_ob rfl 52 (.tmp 4) (.tmp 12) rfl _ zsh zsh rfl rfl 11 (by kernel_rfl) rfl rfl (by simp [Value.oneCell']) w (by first | exact U | exact U.alloc _) ltB 52 (by first | exact B | exact B.up ((Up.refl _).alloc _)) ?_; clear U; intro V9 z U)
  have z0 := z.get 0
  have z1 := z.get 1
  have z2 := z.get 2
  have z3 := z.get 3
  have z4 := z.get 4
  have z5 := z.get 5
  have z6 := z.get 6
  have z7 := z.get 7
  have z8 := z.get 8
  have z9 := z.get 9
  have z10 := z.get 10
  simp only [List.getElem?_toArray, List.getElem?_cons_zero, List.getElem?_cons_succ] at z0 z1 z2 z3 z4 z5 z6 z7 z8 z9 z10
  refine bodyPost_ret (v := .tuple #[.agg zsh, .int .i64 3]) (by simp [results, Tryd.results29, go_sem, z0, z1, z2, z3, z4, z5, z6, z7, z8, z9, z10]) rfl ?_
  exact ⟨rfl, U⟩
set_option maxHeartbeats 4000000 in
set_option maxRecDepth 100000 in
theorem vfit_big (w : World) (hF : TabF w) (i : Nat) (i1 : 1 ≤ i) (i2 : i ≤ 14) (p : Int) (p1 : 0 ≤ p) (p2 : p < 18446744073709551616) (hp : M.msk (M.tb i) < p) : Calls Tryd.prog 29 #[.int .i64 (i : Int), .int .u64 p] w (Sz 1 w) := by
  have CF := Lib.hid (fun W (T : TabF W) => fits_in W T i i1 i2 p p1 p2)
  rw [show M.er i p = 1 by unfold M.er; rw [if_neg (by omega)]] at CF
  clear hp p1 p2
  have U := Up.refl w
  go_enter Tryd.func29, Tryd.ntmps29
  go_wp2_with fail
  obtain ⟨V1, hV1⟩ : ∃ V1, w.alloc (.cells zsh 52) = V1 := ⟨_, rfl⟩
  have B : Ob V1 w.heap.size 52 zsh := by rw [← hV1]; exact Ob.mk_ _ _ _
  have uV1 : Up w V1 := by rw [← hV1]; exact (Up.refl _).alloc _
  have ltB : w.heap.size ≤ w.heap.size := U.size
  rw [hV1]
  clear hV1
  replace U := U.trans uV1
  clear uV1
  refine (CF.out _ (hF.up U)).mono ?_
  rintro _ w2 ⟨rfl, h2⟩
  replace U := U.trans h2
  replace B := B.up h2
  clear h2
  go_wp2_with (refine store_ob rfl 52 (.tmp 4) (.tmp 12) rfl _ zsh zsh rfl rfl 11 (by kernel_rfl) rfl rfl (by simp [Value.oneCell']) w (by first | exact U | exact U.alloc _) ltB 52 (by first | exact B | exact B.up ((Up.refl _).alloc _)) ?_; clear U; intro V9 z U)
  have z0 := z.get 0
  have z1 := z.get 1
  have z2 := z.get 2
  have z3 := z.get 3
  have z4 := z.get 4
  have z5 := z.get 5
  have z6 := z.get 6
  have z7 := z.get 7
  have z8 := z.get 8
  have z9 := z.get 9
  have z10 := z.get 10
  simp only [List.getElem?_toArray, List.getElem?_cons_zero, List.getElem?_cons_succ] at z0 z1 z2 z3 z4 z5 z6 z7 z8 z9 z10
  refine bodyPost_ret (v := .tuple #[.agg zsh, .int .i64 1]) (by simp [results, Tryd.results29, go_sem, z0, z1, z2, z3, z4, z5, z6, z7, z8, z9, z10]) rfl ?_
  exact ⟨rfl, U⟩
set_option maxHeartbeats 4000000 in
set_option maxRecDepth 100000 in
theorem vfit_in (w : World) (hF : TabF w) (i : Nat) (f : M.Fm) (hf : Hid (M.tb i = f)) (i1 : 1 ≤ i) (i2 : i ≤ 14) (p : Int) (p1 : 0 ≤ p) (p2 : p ≤ M.msk f) (a b c d : Nat) (hk : Wk f.k a b c d) : Calls Tryd.prog 29 #[.int .i64 (i : Int), .int .u64 p] w (Sh f a b c d 0 w) := by
  have pb : p < 18446744073709551616 := by
    have := (M.ok i i1 i2).hm
    rw [hf.out] at this
    omega
  have CF := Lib.hid (fun W (T : TabF W) => fits_in W T i i1 i2 p p1 pb)
  rw [show M.er i p = 0 by unfold M.er; rw [hf.out, if_pos p2]] at CF
  have CS := Lib.hid (fun W (T : TabF W) => shape_in W T i f hf i1 i2 a b c d hk)
  clear hf hk p1 p2 i1 i2
  have U := Up.refl w
  go_enter Tryd.func29, Tryd.ntmps29
  go_wp2_with fail
  obtain ⟨V1, hV1⟩ : ∃ V1, w.alloc (.cells zsh 52) = V1 := ⟨_, rfl⟩
  have B : Ob V1 w.heap.size 52 zsh := by rw [← hV1]; exact Ob.mk_ _ _ _
  have uV1 : Up w V1 := by rw [← hV1]; exact (Up.refl _).alloc _
  have ltB : w.heap.size ≤ w.heap.size := U.size
  rw [hV1]
  clear hV1
  replace U := U.trans uV1
  clear uV1
  refine (CF.out _ (hF.up U)).mono ?_
  rintro _ w2 ⟨rfl, h2⟩
  replace U := U.trans h2
  replace B := B.up h2
  clear h2
  go_wp2_with fail
  refine (CS.out _ (hF.up U)).mono ?_
  rintro _ w3 ⟨rfl, h3⟩
  replace U := U.trans h3
  replace B := B.up h3
  clear h3
  go_wp2_with (refine store_ob rfl 52 (.tmp 4) (.tmp 16) rfl _ zsh (shc f a b c d) rfl rfl 11 (by kernel_rfl) rfl rfl (by simp [Value.oneCell']) w (by first | exact U | exact U.alloc _) ltB 52 (by first | exact B | exact B.up ((Up.refl _).alloc _)) ?_; clear U; intro V9 z U)
  have z0 := z.get 0
  have z1 := z.get 1
  have z2 := z.get 2
  have z3 := z.get 3
  have z4 := z.get 4
  have z5 := z.get 5
  have z6 := z.get 6
  have z7 := z.get 7
  have z8 := z.get 8
  have z9 := z.get 9
  have z10 := z.get 10
  simp only [List.getElem?_toArray, List.getElem?_cons_zero, List.getElem?_cons_succ] at z0 z1 z2 z3 z4 z5 z6 z7 z8 z9 z10
  refine bodyPost_ret (v := .tuple #[.agg (shc f a b c d), .int .i64 0]) (by simp [results, Tryd.results29, go_sem, z0, z1, z2, z3, z4, z5, z6, z7, z8, z9, z10]) rfl ?_
  exact ⟨rfl, U⟩
set_option maxHeartbeats 4000000 in
set_option maxRecDepth 100000 in
theorem vrng_out (w : World) (ii : Int) (k : Nat) (h : ii < 1 ∨ 15 ≤ ii) : Calls Tryd.prog 39 #[.int .i64 ii, u64 k] w (Sz 3 w) := by
  have U := Up.refl w
  go_enter Tryd.func39, Tryd.ntmps39
  go_wp2_with fail
  obtain ⟨V1, hV1⟩ : ∃ V1, w.alloc (.cells zsh 52) = V1 := ⟨_, rfl⟩
  have B : Ob V1 w.heap.size 52 zsh := by rw [← hV1]; exact Ob.mk_ _ _ _
  have uV1 : Up w V1 := by rw [← hV1]; exact (Up.refl _).alloc _
  have ltB : w.heap.size ≤ w.heap.size := U.size
  rw [hV1]
  clear hV1
  replace U := U.trans uV1
  clear uV1
  refine (shape_out _ ii h).mono ?_
  rintro _ w2 ⟨rfl, h2⟩
  replace U := U.trans h2
  replace B := B.up h2
  clear h2
  clear h
  go_wp2_with (first | (refine store_ob rfl 52 (.tmp 6) (.tmp 11) rfl _ zsh zsh rfl rfl 11 (by kernel_rfl) rfl rfl (by simp [Value.oneCell']) w2 ((Up.refl _).alloc _) (Nat.le_refl _) 52 (Ob.mk_ _ _ _) ?_; intro V3 C uV3; have ltC : w.heap.size ≤ w2.heap.size := U.size; replace U := U.trans uV3; replace B := B.up uV3; clear uV3; have C0 := C.get 0; have C1 := C.get 1; have C2 := C.get 2; have C3 := C.get 3; have C4 := C.get 4; have C5 := C.get 5; have C6 := C.get 6; have C7 := C.get 7; have C8 := C.get 8; have C9 := C.get 9; have C10 := C.get 10; simp only [List.getElem?_toArray, List.getElem?_cons_zero, List.getElem?_cons_succ] at C0 C1 C2 C3 C4 C5 C6 C7 C8 C9 C10) | (refine store_ob rfl 52 (.tmp 4) (.tmp 22) rfl _ zsh zsh rfl rfl 11 (by kernel_rfl) rfl rfl (by simp [Value.oneCell']) w (by first | exact U | exact U.alloc _) ltB 52 (by first | exact B | exact B.up ((Up.refl _).alloc _)) ?_; clear U; intro V9 z U))
  have z0 := z.get 0
  have z1 := z.get 1
  have z2 := z.get 2
  have z3 := z.get 3
  have z4 := z.get 4
  have z5 := z.get 5
  have z6 := z.get 6
  have z7 := z.get 7
  have z8 := z.get 8
  have z9 := z.get 9
  have z10 := z.get 10
  simp only [List.getElem?_toArray, List.getElem?_cons_zero, List.getElem?_cons_succ] at z0 z1 z2 z3 z4 z5 z6 z7 z8 z9 z10
  refine bodyPost_ret (v := .tuple #[.agg zsh, .int .i64 3]) (by simp [results, Tryd.results39, go_sem, z0, z1, z2, z3, z4, z5, z6, z7, z8, z9, z10]) rfl ?_
  exact ⟨rfl, U⟩
set_option maxHeartbeats 4000000 in
set_option maxRecDepth 100000 in
theorem vrng_big (w : World) (hF : TabF w) (i : Nat) (f : M.Fm) (hf : Hid (M.tb i = f)) (i1 : 1 ≤ i) (i2 : i ≤ 14) (k : Nat) (hk : M.tp f < (k : Int)) (a b c d : Nat) (hw : Wk f.k a b c d) : Calls Tryd.prog 39 #[.int .i64 (i : Int), u64 k] w (Sz 4 w) := by
  have CS := Lib.hid (fun W (T : TabF W) => shape_in W T i f hf i1 i2 a b c d hw)
  have tt : 0 ≤ f.t ∧ f.t ≤ 18446744073709551000 := by
    have h1 := M.ok i i1 i2
    rw [hf.out] at h1
    have := M.ok2 i i1 i2
    rw [hf.out] at this
    have a1 := this.one
    have a3 := this.tri
    have a4 := this.four
    have a2 := h1.two
    have := h1.hm
    have := h1.t
    rcases h1.k with e | e | e | e <;> omega
  obtain ⟨q, hq⟩ : ∃ q, M.tp f = q := ⟨_, rfl⟩
  have CM := Lib.hid (fun W => smost_any W f a b c d tt true q (by rw [← hq]; unfold M.mst M.tp; by_cases e : f.k = 3 <;> simp [e]))
  rw [hq] at hk
  have d2 : decide (q < (k : Int)) = true := decide_eq_true (by omega)
  clear hf hk i1 i2 hw hq
  have U := Up.refl w
  go_enter Tryd.func39, Tryd.ntmps39
  go_wp2_with fail
  obtain ⟨V1, hV1⟩ : ∃ V1, w.alloc (.cells zsh 52) = V1 := ⟨_, rfl⟩
  have B : Ob V1 w.heap.size 52 zsh := by rw [← hV1]; exact Ob.mk_ _ _ _
  have uV1 : Up w V1 := by rw [← hV1]; exact (Up.refl _).alloc _
  have ltB : w.heap.size ≤ w.heap.size := U.size
  rw [hV1]
  clear hV1
  replace U := U.trans uV1
  clear uV1
  refine (CS.out _ (hF.up U)).mono ?_
  rintro _ w2 ⟨rfl, h2⟩
  replace U := U.trans h2
  replace B := B.up h2
  clear h2
  go_wp2_with (refine store_ob rfl 52 (.tmp 6) (.tmp 11) rfl _ zsh (shc f a b c d) rfl rfl 11 (by kernel_rfl) rfl rfl (by simp [Value.oneCell']) w2 ((Up.refl _).alloc _) (Nat.le_refl _) 52 (Ob.mk_ _ _ _) ?_; intro V3 C uV3; have ltC : w.heap.size ≤ w2.heap.size := U.size; replace U := U.trans uV3; replace B := B.up uV3; clear uV3; have C0 := C.get 0; have C1 := C.get 1; have C2 := C.get 2; have C3 := C.get 3; have C4 := C.get 4; have C5 := C.get 5; have C6 := C.get 6; have C7 := C.get 7; have C8 := C.get 8; have C9 := C.get 9; have C10 := C.get 10; simp only [List.getElem?_toArray, List.getElem?_cons_zero, List.getElem?_cons_succ] at C0 C1 C2 C3 C4 C5 C6 C7 C8 C9 C10)
  clear C0 C1 C2 C3 C4 C5 C6 C7 C8 C9 C10
  refine (CM.out _).mono ?_
  rintro _ w4 ⟨rfl, h4⟩
  replace U := U.trans h4
  replace B := B.up h4
  replace C := C.up h4
  clear h4
  have C0 := C.get 0
  have C1 := C.get 1
  have C2 := C.get 2
  have C3 := C.get 3
  have C4 := C.get 4
  have C5 := C.get 5
  have C6 := C.get 6
  have C7 := C.get 7
  have C8 := C.get 8
  have C9 := C.get 9
  have C10 := C.get 10
  have Cf0 := C.fr 0
  have Cf1 := C.fr 1
  have Cf2 := C.fr 2
  have Cf3 := C.fr 3
  have Cf4 := C.fr 4
  have Cf5 := C.fr 5
  have Cf6 := C.fr 6
  have Cf7 := C.fr 7
  have Cf8 := C.fr 8
  have Cf9 := C.fr 9
  have Cf10 := C.fr 10
  have Cl := C.lt
  simp only [List.getElem?_toArray, List.getElem?_cons_zero, List.getElem?_cons_succ] at C0 C1 C2 C3 C4 C5 C6 C7 C8 C9 C10
  go_wp2_with (refine store_ob rfl 52 (.tmp 4) (.tmp 21) rfl _ zsh zsh rfl rfl 11 (by kernel_rfl) rfl rfl (by simp [Value.oneCell']) w (by first | exact U | exact U.alloc _) ltB 52 (by first | exact B | exact B.up ((Up.refl _).alloc _)) ?_; clear U; intro V9 z U)
  have z0 := z.get 0
  have z1 := z.get 1
  have z2 := z.get 2
  have z3 := z.get 3
  have z4 := z.get 4
  have z5 := z.get 5
  have z6 := z.get 6
  have z7 := z.get 7
  have z8 := z.get 8
  have z9 := z.get 9
  have z10 := z.get 10
  simp only [List.getElem?_toArray, List.getElem?_cons_zero, List.getElem?_cons_succ] at z0 z1 z2 z3 z4 z5 z6 z7 z8 z9 z10
  refine bodyPost_ret (v := .tuple #[.agg zsh, .int .i64 4]) (by simp [results, Tryd.results39, go_sem, z0, z1, z2, z3, z4, z5, z6, z7, z8, z9, z10]) rfl ?_
  exact ⟨rfl, U⟩
set_option maxHeartbeats 4000000 in
set_option maxRecDepth 100000 in
theorem vrng_in (w : World) (hF : TabF w) (i : Nat) (f : M.Fm) (hf : Hid (M.tb i = f)) (i1 : 1 ≤ i) (i2 : i ≤ 14) (k : Nat) (hk : (k : Int) ≤ M.tp f) (a b c d : Nat) (hw : Wk f.k a b c d) : Calls Tryd.prog 39 #[.int .i64 (i : Int), u64 k] w (Sh f a b c d 0 w) := by
  have CS := Lib.hid (fun W (T : TabF W) => shape_in W T i f hf i1 i2 a b c d hw)
  have tt : 0 ≤ f.t ∧ f.t ≤ 18446744073709551000 := by
    have h1 := M.ok i i1 i2
    rw [hf.out] at h1
    have := M.ok2 i i1 i2
    rw [hf.out] at this
    have a1 := this.one
    have a3 := this.tri
    have a4 := this.four
    have a2 := h1.two
    have := h1.hm
    have := h1.t
    rcases h1.k with e | e | e | e <;> omega
  obtain ⟨q, hq⟩ : ∃ q, M.tp f = q := ⟨_, rfl⟩
  have CM := Lib.hid (fun W => smost_any W f a b c d tt true q (by rw [← hq]; unfold M.mst M.tp; by_cases e : f.k = 3 <;> simp [e]))
  rw [hq] at hk
  have d2 : decide (q < (k : Int)) = false := decide_eq_false (by omega)
  clear hf hk i1 i2 hw hq
  have U := Up.refl w
  go_enter Tryd.func39, Tryd.ntmps39
  go_wp2_with fail
  obtain ⟨V1, hV1⟩ : ∃ V1, w.alloc (.cells zsh 52) = V1 := ⟨_, rfl⟩
  have B : Ob V1 w.heap.size 52 zsh := by rw [← hV1]; exact Ob.mk_ _ _ _
  have uV1 : Up w V1 := by rw [← hV1]; exact (Up.refl _).alloc _
  have ltB : w.heap.size ≤ w.heap.size := U.size
  rw [hV1]
  clear hV1
  replace U := U.trans uV1
  clear uV1
  refine (CS.out _ (hF.up U)).mono ?_
  rintro _ w2 ⟨rfl, h2⟩
  replace U := U.trans h2
  replace B := B.up h2
  clear h2
  go_wp2_with (refine store_ob rfl 52 (.tmp 6) (.tmp 11) rfl _ zsh (shc f a b c d) rfl rfl 11 (by kernel_rfl) rfl rfl (by simp [Value.oneCell']) w2 ((Up.refl _).alloc _) (Nat.le_refl _) 52 (Ob.mk_ _ _ _) ?_; intro V3 C uV3; have ltC : w.heap.size ≤ w2.heap.size := U.size; replace U := U.trans uV3; replace B := B.up uV3; clear uV3; have C0 := C.get 0; have C1 := C.get 1; have C2 := C.get 2; have C3 := C.get 3; have C4 := C.get 4; have C5 := C.get 5; have C6 := C.get 6; have C7 := C.get 7; have C8 := C.get 8; have C9 := C.get 9; have C10 := C.get 10; simp only [List.getElem?_toArray, List.getElem?_cons_zero, List.getElem?_cons_succ] at C0 C1 C2 C3 C4 C5 C6 C7 C8 C9 C10)
  clear C0 C1 C2 C3 C4 C5 C6 C7 C8 C9 C10
  refine (CM.out _).mono ?_
  rintro _ w4 ⟨rfl, h4⟩
  replace U := U.trans h4
  replace B := B.up h4
  replace C := C.up h4
  clear h4
  have C0 := C.get 0
  have C1 := C.get 1
  have C2 := C.get 2
  have C3 := C.get 3
  have C4 := C.get 4
  have C5 := C.get 5
  have C6 := C.get 6
  have C7 := C.get 7
  have C8 := C.get 8
  have C9 := C.get 9
  have C10 := C.get 10
  have Cf0 := C.fr 0
  have Cf1 := C.fr 1
  have Cf2 := C.fr 2
  have Cf3 := C.fr 3
  have Cf4 := C.fr 4
  have Cf5 := C.fr 5
  have Cf6 := C.fr 6
  have Cf7 := C.fr 7
  have Cf8 := C.fr 8
  have Cf9 := C.fr 9
  have Cf10 := C.fr 10
  have Cl := C.lt
  simp only [List.getElem?_toArray, List.getElem?_cons_zero, List.getElem?_cons_succ] at C0 C1 C2 C3 C4 C5 C6 C7 C8 C9 C10
  go_wp2_with (refine store_ob rfl 52 (.tmp 4) (.tmp 22) rfl _ zsh (shc f a b c d) rfl rfl 11 (by kernel_rfl) rfl rfl (by simp [Value.oneCell']) w (by first | exact U | exact U.alloc _) ltB 52 (by first | exact B | exact B.up ((Up.refl _).alloc _)) ?_; clear U; intro V9 z U)
  have z0 := z.get 0
  have z1 := z.get 1
  have z2 := z.get 2
  have z3 := z.get 3
  have z4 := z.get 4
  have z5 := z.get 5
  have z6 := z.get 6
  have z7 := z.get 7
  have z8 := z.get 8
  have z9 := z.get 9
  have z10 := z.get 10
  simp only [List.getElem?_toArray, List.getElem?_cons_zero, List.getElem?_cons_succ] at z0 z1 z2 z3 z4 z5 z6 z7 z8 z9 z10
  refine bodyPost_ret (v := .tuple #[.agg (shc f a b c d), .int .i64 0]) (by simp [results, Tryd.results39, go_sem, z0, z1, z2, z3, z4, z5, z6, z7, z8, z9, z10]) rfl ?_
  exact ⟨rfl, U⟩
end Go.Proofs.YtjcbncfpcechnaaDoor
