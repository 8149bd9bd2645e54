/-
  Package round: Limits.
-/
import Derived.Test.YtlogglhonlannaaGreatDoorRu
import Derived.Deep.RegionHeld3
import Derived.OwnWalk
namespace Go.Proofs.YtlogglhonlannaaGreatDoor
open Go.RowKit
set_option linter.unusedSimpArgs false
set_option linter.unusedVariables false

set_option maxHeartbeats 1000000 in
set_option maxRecDepth 100000 in
theorem rnd_limits (w : World) (TT : Hid (Tz w)) (TF : Hid (TabF w)) (ii : Int) (p : Nat) (pb : p < 18446744073709551616) (m1 : Nat) (z1 : Int) (m2 : Nat) (z2 : Int) (ev : Bool) (x : Int) (h : M.Lc ii p m1 z1 m2 z2 ev x) : Calls Tryz.prog 13 #[.int .i64 ii, u64 p] w (Lx m1 z1 m2 z2 ev x w) := by
  obtain ⟨gg, k, hF, h⟩ := h
  have CF := Lib.hid (fun W (T : Tz W) (F : TabF W) => rnd_finite W (Lib.hid T) (Lib.hid F) ii p pb gg k x hF)
  rcases h with ⟨hx, rfl, rfl, rfl, rfl, rfl⟩ | ⟨rfl, hl, hev⟩
  ·
    have d1 : (x != 0) = true := by simpa using hx
    clear hx hF pb
    have U := Up.refl w
    go_enter Tryz.func13, Tryz.ntmps13
    go_wp2_with fail
    obtain ⟨V1, hV1⟩ : ∃ V1, w.alloc (.cells #[.bool false, .slice none 0 0, .int .i64 0, .int .i64 0] 25) = V1 := ⟨_, rfl⟩
    have sV1 : V1.heap.size = w.heap.size + 1 := by rw [← hV1]; exact Array.size_push _
    have R1 : Ob V1 w.heap.size 25 #[.bool false, .slice none 0 0, .int .i64 0, .int .i64 0] := by rw [← hV1]; exact Ob.mk_ _ _ _
    have uV1 : Up w V1 := by rw [← hV1]; exact (Up.refl _).alloc _
    have ltR1 : w.heap.size ≤ w.heap.size := U.size
    have ltR2 : w.heap.size ≤ w.heap.size + 1 := Nat.le_succ_of_le U.size
    rw [hV1]
    clear hV1
    obtain ⟨V2, hV2⟩ : ∃ V2, V1.alloc (.cells #[.bool false, .slice none 0 0, .int .i64 0, .int .i64 0] 25) = V2 := ⟨_, rfl⟩
    have R2 : Ob V2 (w.heap.size + 1) 25 #[.bool false, .slice none 0 0, .int .i64 0, .int .i64 0] := by rw [← sV1, ← hV2]; exact Ob.mk_ _ _ _
    have uV2 : Up V1 V2 := by rw [← hV2]; exact (Up.refl _).alloc _
    rw [hV2]
    clear hV2 sV1
    replace R1 := R1.up uV2
    replace uV2 := uV1.trans uV2
    clear uV1
    replace U := U.trans uV2
    clear uV2
    refine (CF.out _ (TT.out.up U) (TF.out.up U)).mono ?_
    rintro _ w3 ⟨rfl, h3⟩
    replace U := U.trans h3
    replace R1 := R1.up h3
    replace R2 := R2.up h3
    clear h3
    go_wp2_with (first | (refine store_ob2 rfl 25 (.tmp 4) (.tmp 22) rfl _ #[.bool false, .slice none 0 0, .int .i64 0, .int .i64 0] #[.bool false, .slice none 0 0, .int .i64 0, .int .i64 0] rfl rfl 4 (by kernel_rfl) rfl rfl (by simp [Value.oneCell']) w U ltR1 25 R1 ?_; clear U; intro V9 Z9 U ho; replace R2 := Ob.oth R2 ho (by omega); clear ho R1; have R1 := Z9; clear Z9) | (refine store_ob2 rfl 25 (.tmp 5) (.tmp 23) rfl _ #[.bool false, .slice none 0 0, .int .i64 0, .int .i64 0] #[.bool false, .slice none 0 0, .int .i64 0, .int .i64 0] rfl rfl 4 (by kernel_rfl) rfl rfl (by simp [Value.oneCell']) w U ltR2 25 R2 ?_; clear U; intro V9 Z9 U ho; replace R1 := Ob.oth R1 ho (by omega); clear ho R2; have R2 := Z9; clear Z9))
    have yy0 := R1.get 0
    have yy1 := R1.get 1
    have yy2 := R1.get 2
    have yy3 := R1.get 3
    simp only [List.getElem?_toArray, List.getElem?_cons_zero, List.getElem?_cons_succ] at yy0 yy1 yy2 yy3
    have zz0 := R2.get 0
    have zz1 := R2.get 1
    have zz2 := R2.get 2
    have zz3 := R2.get 3
    simp only [List.getElem?_toArray, List.getElem?_cons_zero, List.getElem?_cons_succ] at zz0 zz1 zz2 zz3
    refine bodyPost_ret (v := .tuple #[xv false (.slice none 0 0) 0 0, xv false (.slice none 0 0) 0 0, .bool false, .int .i64 x]) (by simp [results, Tryz.results13, go_sem, yy0, yy1, yy2, yy3, zz0, zz1, zz2, zz3]) rfl ?_
    exact ⟨_, _, rfl, Nt.nil _ _ _, Nt.nil _ _ _, U⟩
  ·
    obtain ⟨i, rfl, i1, i2, hp, hc, hg, hk, km, kt, k0⟩ := M.fc_in hF
    have hl := hl i rfl
    have ok := M.ok i i1 i2
    have ok2 := M.ok2 i i1 i2
    have ok3 := M.ok3 i i1 i2
    have h4 : ¬ ((M.tb i).k = 4 ∧ gg = true) := fun e => by
      have := M.ngs_four ok e.1 p
      rw [← hg, e.2] at this
      cases this
    have kb : k < 18446744073709551616 := by
      obtain ⟨q, hq, _, qb, _⟩ := M.mst_rng ok ok2 ok3 gg
      omega
    clear hF hp hc hg hk km
    obtain ⟨f, hf⟩ : ∃ f, M.tb i = f := ⟨_, rfl⟩
    rw [hf] at ok ok2 ok3 h4 hl kt k0
    have HF := Lib.hid hf
    clear hf
    obtain ⟨l, hll⟩ : ∃ l, M.lst f = l := ⟨_, rfl⟩
    have CL := Lib.hid (fun W (F : TabF W) => least_any W (Lib.hid F) i f HF i1 i2 l (Lib.hid hll))
    have CE := Lib.hid (fun W (r : Bool) (hr : Hid (r = true ↔ (M.mst f gg = k ∧ M.st f 2))) (F : TabF W) => rnd_endless W (Lib.hid F) i f HF i1 i2 gg h4 k kb r hr)
    have CV := Lib.hid (fun W => iseven_any W k kb ev (Lib.hid hev.symm))
    have CB := Lib.hid (fun W (T : Tz W) (F : TabF W) (j m : Nat) (z : Int) (jb : j < 18446744073709551616) (hj : (j : Int) ≤ M.tp f) (hbd : M.Bd f j m z) => rnd_behind W (Lib.hid T) (Lib.hid F) i f HF i1 i2 j jb hj m z hbd (M.bd_z ok ok2 ok3 hj hbd).2.1 (M.bd_z ok ok2 ok3 hj hbd).2.2)
    obtain ⟨l1, l2⟩ := hl
    rw [hll] at l1
    rcases l1 with ⟨c1, rfl, rfl⟩ | ⟨c1, b1⟩ <;> rcases l2 with ⟨c2, rfl, rfl⟩ | ⟨c2, b2⟩
    ·
      replace c1 : ¬ l < k := by omega
      have CE1 := Lib.hid (fun W F => CE.out W true ⟨fun _ => c2, fun _ => rfl⟩ F)
      clear CB CE c2 kt k0 h4 ok ok2 ok3 hll hev
      have U := Up.refl w
      go_enter Tryz.func13, Tryz.ntmps13
      go_wp2_with fail
      obtain ⟨V1, hV1⟩ : ∃ V1, w.alloc (.cells #[.bool false, .slice none 0 0, .int .i64 0, .int .i64 0] 25) = V1 := ⟨_, rfl⟩
      have sV1 : V1.heap.size = w.heap.size + 1 := by rw [← hV1]; exact Array.size_push _
      have R1 : Ob V1 w.heap.size 25 #[.bool false, .slice none 0 0, .int .i64 0, .int .i64 0] := by rw [← hV1]; exact Ob.mk_ _ _ _
      have uV1 : Up w V1 := by rw [← hV1]; exact (Up.refl _).alloc _
      have ltR1 : w.heap.size ≤ w.heap.size := U.size
      have ltR2 : w.heap.size ≤ w.heap.size + 1 := Nat.le_succ_of_le U.size
      rw [hV1]
      clear hV1
      obtain ⟨V2, hV2⟩ : ∃ V2, V1.alloc (.cells #[.bool false, .slice none 0 0, .int .i64 0, .int .i64 0] 25) = V2 := ⟨_, rfl⟩
      have R2 : Ob V2 (w.heap.size + 1) 25 #[.bool false, .slice none 0 0, .int .i64 0, .int .i64 0] := by rw [← sV1, ← hV2]; exact Ob.mk_ _ _ _
      have uV2 : Up V1 V2 := by rw [← hV2]; exact (Up.refl _).alloc _
      rw [hV2]
      clear hV2 sV1
      replace R1 := R1.up uV2
      replace uV2 := uV1.trans uV2
      clear uV1
      replace U := U.trans uV2
      clear uV2
      refine (CF.out _ (TT.out.up U) (TF.out.up U)).mono ?_
      rintro _ w3 ⟨rfl, h3⟩
      replace U := U.trans h3
      replace R1 := R1.up h3
      replace R2 := R2.up h3
      clear h3
      go_wp2_with fail
      obtain ⟨V4, hV4⟩ : ∃ V4, w3.alloc (.cells #[.bool false, .slice none 0 0, .int .i64 0, .int .i64 0] 25) = V4 := ⟨_, rfl⟩
      have sV4 : V4.heap.size = w3.heap.size + 1 := by rw [← hV4]; exact Array.size_push _
      have A : Ob V4 w3.heap.size 25 #[.bool false, .slice none 0 0, .int .i64 0, .int .i64 0] := by rw [← hV4]; exact Ob.mk_ _ _ _
      have uV4 : Up w3 V4 := by rw [← hV4]; exact (Up.refl _).alloc _
      have ltA : w.heap.size ≤ w3.heap.size := U.size
      have ltB : w.heap.size ≤ w3.heap.size + 1 := Nat.le_succ_of_le U.size
      have gAR1 := R1.lt
      have gAR2 := R2.lt
      rw [hV4]
      clear hV4
      obtain ⟨V5, hV5⟩ : ∃ V5, V4.alloc (.cells #[.bool false, .slice none 0 0, .int .i64 0, .int .i64 0] 25) = V5 := ⟨_, rfl⟩
      have B : Ob V5 (w3.heap.size + 1) 25 #[.bool false, .slice none 0 0, .int .i64 0, .int .i64 0] := by rw [← sV4, ← hV5]; exact Ob.mk_ _ _ _
      have uV5 : Up V4 V5 := by rw [← hV5]; exact (Up.refl _).alloc _
      rw [hV5]
      clear hV5 sV4
      replace A := A.up uV5
      replace uV5 := uV4.trans uV5
      clear uV4
      replace U := U.trans uV5
      replace R1 := R1.up uV5
      replace R2 := R2.up uV5
      clear uV5
      refine (CL.out _ (TF.out.up U)).mono ?_
      rintro _ w6 ⟨rfl, h6⟩
      replace U := U.trans h6
      replace R1 := R1.up h6
      replace R2 := R2.up h6
      replace A := A.up h6
      replace B := B.up h6
      clear h6
      go_wp2_with fail
      refine (CE1.out _ (TF.out.up U)).mono ?_
      rintro _ w7 ⟨rfl, h7⟩
      replace U := U.trans h7
      replace R1 := R1.up h7
      replace R2 := R2.up h7
      replace A := A.up h7
      replace B := B.up h7
      clear h7
      go_wp2_with fail
      refine wp_region_held_drew (S := fun w' => Ob w' (w3.heap.size) 25 #[.bool false, .slice none 0 0, .int .i64 0, .int .i64 0] ∧ Ob w' (w3.heap.size + 1) 25 #[.bool false, .slice none 0 0, .int .i64 0, .int .i64 0]) (by kernel_rfl) ⟨A.up ((Up.refl _).drew), B.up ((Up.refl _).drew)⟩ (fun hHeld => ?_)
      refine wpAnyH_take (i := 0) (v := ?_) rfl (by kernel_rfl) (by kernel_rfl) (by kernel_rfl) (fun _ _ _ h => h) (Or.inl ⟨by rfl, ?_⟩) (by assumption) ?_
      rotate_left
      · intro w hSw
        obtain ⟨hA, hB⟩ := hSw
        have A0 := hA.get 0
        have A1 := hA.get 1
        have A2 := hA.get 2
        have A3 := hA.get 3
        simp only [List.getElem?_toArray, List.getElem?_cons_zero, List.getElem?_cons_succ] at A0 A1 A2 A3
        have B0 := hB.get 0
        have B1 := hB.get 1
        have B2 := hB.get 2
        have B3 := hB.get 3
        simp only [List.getElem?_toArray, List.getElem?_cons_zero, List.getElem?_cons_succ] at B0 B1 B2 B3
        go_simp
        all_goals with_reducible rfl
      try simp only [Act.put, List.setIfInBounds_toArray, List.set_cons_zero, List.set_cons_succ, List.getElem_toArray, List.getElem_cons_zero, List.getElem_cons_succ]
      refine wpAnyH_take (i := 1) (v := ?_) rfl (by kernel_rfl) (by kernel_rfl) (by kernel_rfl) (fun _ _ _ h => h) (Or.inl ⟨by rfl, ?_⟩) (by assumption) ?_
      rotate_left
      · intro w hSw
        obtain ⟨hA, hB⟩ := hSw
        have A0 := hA.get 0
        have A1 := hA.get 1
        have A2 := hA.get 2
        have A3 := hA.get 3
        simp only [List.getElem?_toArray, List.getElem?_cons_zero, List.getElem?_cons_succ] at A0 A1 A2 A3
        have B0 := hB.get 0
        have B1 := hB.get 1
        have B2 := hB.get 2
        have B3 := hB.get 3
        simp only [List.getElem?_toArray, List.getElem?_cons_zero, List.getElem?_cons_succ] at B0 B1 B2 B3
        go_simp
        all_goals with_reducible rfl
      try simp only [Act.put, List.setIfInBounds_toArray, List.set_cons_zero, List.set_cons_succ, List.getElem_toArray, List.getElem_cons_zero, List.getElem_cons_succ]
      refine wpAnyH_take (i := 2) (v := ?_) rfl (by kernel_rfl) (by kernel_rfl) (by kernel_rfl) (fun _ _ _ h => h) (Or.inl ⟨by rfl, ?_⟩) (by assumption) ?_
      rotate_left
      · intro w hSw
        obtain ⟨hA, hB⟩ := hSw
        have A0 := hA.get 0
        have A1 := hA.get 1
        have A2 := hA.get 2
        have A3 := hA.get 3
        simp only [List.getElem?_toArray, List.getElem?_cons_zero, List.getElem?_cons_succ] at A0 A1 A2 A3
        have B0 := hB.get 0
        have B1 := hB.get 1
        have B2 := hB.get 2
        have B3 := hB.get 3
        simp only [List.getElem?_toArray, List.getElem?_cons_zero, List.getElem?_cons_succ] at B0 B1 B2 B3
        go_simp
        all_goals with_reducible rfl
      try simp only [Act.put, List.setIfInBounds_toArray, List.set_cons_zero, List.set_cons_succ, List.getElem_toArray, List.getElem_cons_zero, List.getElem_cons_succ]
      refine wpAnyH_ready (rs := [3]) (by kernel_rfl) (by simp) ?_
      refine AllReadyH.cons rfl (fun K hK => ?_) AllReadyH.nil
      go_simp
      refine (CV.out _).mono ?_
      rintro _ _ ⟨rfl, rfl⟩
      have R1d := R1.up ((Up.refl _).drew)
      have R2d := R2.up ((Up.refl _).drew)
      have Ad := A.up ((Up.refl _).drew)
      have Bd := B.up ((Up.refl _).drew)
      have Ud := U.drew
      refine hK.out _ _ ⟨Ad, Bd⟩ (fun _ => ?_)
      try simp only [Act.put, List.setIfInBounds_toArray, List.set_cons_zero, List.set_cons_succ, List.getElem_toArray, List.getElem_cons_zero, List.getElem_cons_succ]
      clear hK
      replace R1 := R1d
      clear R1d
      replace R2 := R2d
      clear R2d
      replace A := Ad
      clear Ad
      replace B := Bd
      clear Bd
      replace U := Ud
      clear Ud hHeld
      refine wpAnyH_ready (rs := [4]) (by kernel_rfl) (by simp) ?_
      refine AllReadyH.cons rfl (fun K hK => ?_) AllReadyH.nil
      rw [if_pos (by rfl)]
      refine wp_store_row 25 (.tmp 4) (.tmp 41) rfl w.heap.size #[.bool false, .slice none 0 0, .int .i64 0, .int .i64 0] rfl rfl 25 #[.bool false, .slice none 0 0, .int .i64 0, .int .i64 0] R1 (by kernel_rfl) rfl (by simp [Value.oneCell']) ?_
      have oS : ∀ b', b' ≠ w.heap.size → (w7.drew.setRow w.heap.size #[.bool false, .slice none 0 0, .int .i64 0, .int .i64 0]).heap[b']? = w7.drew.heap[b']? := fun b' h => setRow_other _ _ _ _ h
      replace R1 : Ob (w7.drew.setRow w.heap.size #[.bool false, .slice none 0 0, .int .i64 0, .int .i64 0]) w.heap.size 25 #[.bool false, .slice none 0 0, .int .i64 0, .int .i64 0] := setRow_heap _ _ _ _ _ _ R1
      replace U : Up w (w7.drew.setRow w.heap.size #[.bool false, .slice none 0 0, .int .i64 0, .int .i64 0]) := U.setRow_ ltR1 _
      replace R2 := Ob.oth R2 oS (by omega)
      replace A := Ob.oth A oS (by omega)
      replace B := Ob.oth B oS (by omega)
      refine hK.out _ _ ⟨A, B⟩ (fun _ => ?_)
      try simp only [Act.put, List.setIfInBounds_toArray, List.set_cons_zero, List.set_cons_succ, List.getElem_toArray, List.getElem_cons_zero, List.getElem_cons_succ]
      clear hK oS
      obtain ⟨VC, hVC⟩ : ∃ VC, w7.drew.setRow w.heap.size #[.bool false, .slice none 0 0, .int .i64 0, .int .i64 0] = VC := ⟨_, rfl⟩
      rw [hVC] at U R1 R2 A B  ⊢
      clear hVC
      refine wpAnyH_ready (rs := [5]) (by kernel_rfl) (by simp) ?_
      refine AllReadyH.cons rfl (fun K hK => ?_) AllReadyH.nil
      rw [if_pos (by rfl)]
      refine wp_store_row 25 (.tmp 5) (.tmp 42) rfl (w.heap.size + 1) #[.bool false, .slice none 0 0, .int .i64 0, .int .i64 0] rfl rfl 25 #[.bool false, .slice none 0 0, .int .i64 0, .int .i64 0] R2 (by kernel_rfl) rfl (by simp [Value.oneCell']) ?_
      have oS : ∀ b', b' ≠ (w.heap.size + 1) → (VC.setRow (w.heap.size + 1) #[.bool false, .slice none 0 0, .int .i64 0, .int .i64 0]).heap[b']? = VC.heap[b']? := fun b' h => setRow_other _ _ _ _ h
      replace R2 : Ob (VC.setRow (w.heap.size + 1) #[.bool false, .slice none 0 0, .int .i64 0, .int .i64 0]) (w.heap.size + 1) 25 #[.bool false, .slice none 0 0, .int .i64 0, .int .i64 0] := setRow_heap _ _ _ _ _ _ R2
      replace U : Up w (VC.setRow (w.heap.size + 1) #[.bool false, .slice none 0 0, .int .i64 0, .int .i64 0]) := U.setRow_ ltR2 _
      replace R1 := Ob.oth R1 oS (by omega)
      replace A := Ob.oth A oS (by omega)
      replace B := Ob.oth B oS (by omega)
      refine hK.out _ _ ⟨A, B⟩ (fun _ => ?_)
      try simp only [Act.put, List.setIfInBounds_toArray, List.set_cons_zero, List.set_cons_succ, List.getElem_toArray, List.getElem_cons_zero, List.getElem_cons_succ]
      clear hK oS
      obtain ⟨VD, hVD⟩ : ∃ VD, VC.setRow (w.heap.size + 1) #[.bool false, .slice none 0 0, .int .i64 0, .int .i64 0] = VD := ⟨_, rfl⟩
      rw [hVD] at U R1 R2 A B  ⊢
      clear hVD
      refine wpAnyH_ready (rs := [6]) (by kernel_rfl) (by simp) ?_
      refine AllReadyH.cons rfl (fun K hK => ?_) AllReadyH.nil
      go_simp
      refine hK.out _ _ ⟨A, B⟩ (fun _ => ?_)
      try simp only [Act.put, List.setIfInBounds_toArray, List.set_cons_zero, List.set_cons_succ, List.getElem_toArray, List.getElem_cons_zero, List.getElem_cons_succ]
      clear hK
      refine wpAnyH_ready (rs := [7]) (by kernel_rfl) (by simp) ?_
      refine AllReadyH.cons rfl (fun K hK => ?_) AllReadyH.nil
      go_simp
      refine hK.out _ _ ⟨A, B⟩ (fun _ => ?_)
      try simp only [Act.put, List.setIfInBounds_toArray, List.set_cons_zero, List.set_cons_succ, List.getElem_toArray, List.getElem_cons_zero, List.getElem_cons_succ]
      clear hK
      refine wpAnyH_done (by kernel_rfl) ?_ _
      go_wp2_with fail
      have yy0 := R1.get 0
      have yy1 := R1.get 1
      have yy2 := R1.get 2
      have yy3 := R1.get 3
      simp only [List.getElem?_toArray, List.getElem?_cons_zero, List.getElem?_cons_succ] at yy0 yy1 yy2 yy3
      have zz0 := R2.get 0
      have zz1 := R2.get 1
      have zz2 := R2.get 2
      have zz3 := R2.get 3
      simp only [List.getElem?_toArray, List.getElem?_cons_zero, List.getElem?_cons_succ] at zz0 zz1 zz2 zz3
      refine bodyPost_ret (v := .tuple #[xv false (.slice none 0 0) 0 0, xv false (.slice none 0 0) 0 0, .bool ev, .int .i64 0]) (by simp [results, Tryz.results13, go_sem, yy0, yy1, yy2, yy3, zz0, zz1, zz2, zz3]) rfl ?_
      exact ⟨_, _, rfl, Nt.nil _ _ _, Nt.nil _ _ _, U⟩
    ·
      replace c1 : ¬ l < k := by omega
      have CE1 := Lib.hid (fun W F => CE.out W false ⟨fun e => (by cases e), fun e => absurd e c2⟩ F)
      have CD := Lib.hid (fun W T F => CB.out W T F k m2 z2 kb kt b2)
      clear CB CE c2 kt k0 h4 ok ok2 ok3 hll hev b2
      have U := Up.refl w
      go_enter Tryz.func13, Tryz.ntmps13
      go_wp2_with fail
      obtain ⟨V1, hV1⟩ : ∃ V1, w.alloc (.cells #[.bool false, .slice none 0 0, .int .i64 0, .int .i64 0] 25) = V1 := ⟨_, rfl⟩
      have sV1 : V1.heap.size = w.heap.size + 1 := by rw [← hV1]; exact Array.size_push _
      have R1 : Ob V1 w.heap.size 25 #[.bool false, .slice none 0 0, .int .i64 0, .int .i64 0] := by rw [← hV1]; exact Ob.mk_ _ _ _
      have uV1 : Up w V1 := by rw [← hV1]; exact (Up.refl _).alloc _
      have ltR1 : w.heap.size ≤ w.heap.size := U.size
      have ltR2 : w.heap.size ≤ w.heap.size + 1 := Nat.le_succ_of_le U.size
      rw [hV1]
      clear hV1
      obtain ⟨V2, hV2⟩ : ∃ V2, V1.alloc (.cells #[.bool false, .slice none 0 0, .int .i64 0, .int .i64 0] 25) = V2 := ⟨_, rfl⟩
      have R2 : Ob V2 (w.heap.size + 1) 25 #[.bool false, .slice none 0 0, .int .i64 0, .int .i64 0] := by rw [← sV1, ← hV2]; exact Ob.mk_ _ _ _
      have uV2 : Up V1 V2 := by rw [← hV2]; exact (Up.refl _).alloc _
      rw [hV2]
      clear hV2 sV1
      replace R1 := R1.up uV2
      replace uV2 := uV1.trans uV2
      clear uV1
      replace U := U.trans uV2
      clear uV2
      refine (CF.out _ (TT.out.up U) (TF.out.up U)).mono ?_
      rintro _ w3 ⟨rfl, h3⟩
      replace U := U.trans h3
      replace R1 := R1.up h3
      replace R2 := R2.up h3
      clear h3
      go_wp2_with fail
      obtain ⟨V4, hV4⟩ : ∃ V4, w3.alloc (.cells #[.bool false, .slice none 0 0, .int .i64 0, .int .i64 0] 25) = V4 := ⟨_, rfl⟩
      have sV4 : V4.heap.size = w3.heap.size + 1 := by rw [← hV4]; exact Array.size_push _
      have A : Ob V4 w3.heap.size 25 #[.bool false, .slice none 0 0, .int .i64 0, .int .i64 0] := by rw [← hV4]; exact Ob.mk_ _ _ _
      have uV4 : Up w3 V4 := by rw [← hV4]; exact (Up.refl _).alloc _
      have ltA : w.heap.size ≤ w3.heap.size := U.size
      have ltB : w.heap.size ≤ w3.heap.size + 1 := Nat.le_succ_of_le U.size
      have gAR1 := R1.lt
      have gAR2 := R2.lt
      rw [hV4]
      clear hV4
      obtain ⟨V5, hV5⟩ : ∃ V5, V4.alloc (.cells #[.bool false, .slice none 0 0, .int .i64 0, .int .i64 0] 25) = V5 := ⟨_, rfl⟩
      have B : Ob V5 (w3.heap.size + 1) 25 #[.bool false, .slice none 0 0, .int .i64 0, .int .i64 0] := by rw [← sV4, ← hV5]; exact Ob.mk_ _ _ _
      have uV5 : Up V4 V5 := by rw [← hV5]; exact (Up.refl _).alloc _
      rw [hV5]
      clear hV5 sV4
      replace A := A.up uV5
      replace uV5 := uV4.trans uV5
      clear uV4
      replace U := U.trans uV5
      replace R1 := R1.up uV5
      replace R2 := R2.up uV5
      clear uV5
      refine (CL.out _ (TF.out.up U)).mono ?_
      rintro _ w6 ⟨rfl, h6⟩
      replace U := U.trans h6
      replace R1 := R1.up h6
      replace R2 := R2.up h6
      replace A := A.up h6
      replace B := B.up h6
      clear h6
      go_wp2_with fail
      refine (CE1.out _ (TF.out.up U)).mono ?_
      rintro _ w7 ⟨rfl, h7⟩
      replace U := U.trans h7
      replace R1 := R1.up h7
      replace R2 := R2.up h7
      replace A := A.up h7
      replace B := B.up h7
      clear h7
      go_wp2_with fail
      have gM := B.lt
      refine (CD.out _ (TT.out.up U) (TF.out.up U)).mono ?_
      rintro _ w8 ⟨_, rfl, ⟨A2, n2, k2, ys2, rfl, N2⟩, h8⟩
      replace U := U.trans h8
      replace R1 := R1.up h8
      replace R2 := R2.up h8
      replace A := A.up h8
      replace B := B.up h8
      clear h8
      replace N2 : Nt w8 _ 1 (.slice A2 n2 k2) m2 := ⟨_, _, _, _, rfl, N2⟩
      go_upto_region 9 with (refine store_ob2 rfl 25 (.tmp 12) (.tmp 40) rfl _ #[.bool false, .slice none 0 0, .int .i64 0, .int .i64 0] #[.bool false, .slice A2 n2 k2, .int .i64 z2, .int .i64 0] rfl rfl 4 (by kernel_rfl) rfl rfl (by simp [Value.oneCell']) w U ltB 25 B ?_; clear U; intro VB Z9 U ho; replace N2 := Nt.other N2 ho (by omega); replace R1 := Ob.oth R1 ho (by omega); replace R2 := Ob.oth R2 ho (by omega); replace A := Ob.oth A ho (by omega); clear ho B; have B := Z9; clear Z9)
      refine wp_region_held_drew (S := fun w' => Ob w' (w3.heap.size) 25 #[.bool false, .slice none 0 0, .int .i64 0, .int .i64 0] ∧ Ob w' (w3.heap.size + 1) 25 #[.bool false, .slice A2 n2 k2, .int .i64 z2, .int .i64 0]) (by kernel_rfl) ⟨A.up ((Up.refl _).drew), B.up ((Up.refl _).drew)⟩ (fun hHeld => ?_)
      refine wpAnyH_take (i := 0) (v := ?_) rfl (by kernel_rfl) (by kernel_rfl) (by kernel_rfl) (fun _ _ _ h => h) (Or.inl ⟨by rfl, ?_⟩) (by assumption) ?_
      rotate_left
      · intro w hSw
        obtain ⟨hA, hB⟩ := hSw
        have A0 := hA.get 0
        have A1 := hA.get 1
        have A2 := hA.get 2
        have A3 := hA.get 3
        simp only [List.getElem?_toArray, List.getElem?_cons_zero, List.getElem?_cons_succ] at A0 A1 A2 A3
        have B0 := hB.get 0
        have B1 := hB.get 1
        have B2 := hB.get 2
        have B3 := hB.get 3
        simp only [List.getElem?_toArray, List.getElem?_cons_zero, List.getElem?_cons_succ] at B0 B1 B2 B3
        go_simp
        all_goals with_reducible rfl
      try simp only [Act.put, List.setIfInBounds_toArray, List.set_cons_zero, List.set_cons_succ, List.getElem_toArray, List.getElem_cons_zero, List.getElem_cons_succ]
      refine wpAnyH_take (i := 1) (v := ?_) rfl (by kernel_rfl) (by kernel_rfl) (by kernel_rfl) (fun _ _ _ h => h) (Or.inl ⟨by rfl, ?_⟩) (by assumption) ?_
      rotate_left
      · intro w hSw
        obtain ⟨hA, hB⟩ := hSw
        have A0 := hA.get 0
        have A1 := hA.get 1
        have A2 := hA.get 2
        have A3 := hA.get 3
        simp only [List.getElem?_toArray, List.getElem?_cons_zero, List.getElem?_cons_succ] at A0 A1 A2 A3
        have B0 := hB.get 0
        have B1 := hB.get 1
        have B2 := hB.get 2
        have B3 := hB.get 3
        simp only [List.getElem?_toArray, List.getElem?_cons_zero, List.getElem?_cons_succ] at B0 B1 B2 B3
        go_simp
        all_goals with_reducible rfl
      try simp only [Act.put, List.setIfInBounds_toArray, List.set_cons_zero, List.set_cons_succ, List.getElem_toArray, List.getElem_cons_zero, List.getElem_cons_succ]
      refine wpAnyH_take (i := 2) (v := ?_) rfl (by kernel_rfl) (by kernel_rfl) (by kernel_rfl) (fun _ _ _ h => h) (Or.inl ⟨by rfl, ?_⟩) (by assumption) ?_
      rotate_left
      · intro w hSw
        obtain ⟨hA, hB⟩ := hSw
        have A0 := hA.get 0
        have A1 := hA.get 1
        have A2 := hA.get 2
        have A3 := hA.get 3
        simp only [List.getElem?_toArray, List.getElem?_cons_zero, List.getElem?_cons_succ] at A0 A1 A2 A3
        have B0 := hB.get 0
        have B1 := hB.get 1
        have B2 := hB.get 2
        have B3 := hB.get 3
        simp only [List.getElem?_toArray, List.getElem?_cons_zero, List.getElem?_cons_succ] at B0 B1 B2 B3
        go_simp
        all_goals with_reducible rfl
      try simp only [Act.put, List.setIfInBounds_toArray, List.set_cons_zero, List.set_cons_succ, List.getElem_toArray, List.getElem_cons_zero, List.getElem_cons_succ]
      refine wpAnyH_ready (rs := [3]) (by kernel_rfl) (by simp) ?_
      refine AllReadyH.cons rfl (fun K hK => ?_) AllReadyH.nil
      go_simp
      refine (CV.out _).mono ?_
      rintro _ _ ⟨rfl, rfl⟩
      have R1d := R1.up ((Up.refl _).drew)
      have R2d := R2.up ((Up.refl _).drew)
      have Ad := A.up ((Up.refl _).drew)
      have Bd := B.up ((Up.refl _).drew)
      have Ud := U.drew
      replace N2 := N2.up ((Up.refl _).drew)
      refine hK.out _ _ ⟨Ad, Bd⟩ (fun _ => ?_)
      try simp only [Act.put, List.setIfInBounds_toArray, List.set_cons_zero, List.set_cons_succ, List.getElem_toArray, List.getElem_cons_zero, List.getElem_cons_succ]
      clear hK
      replace R1 := R1d
      clear R1d
      replace R2 := R2d
      clear R2d
      replace A := Ad
      clear Ad
      replace B := Bd
      clear Bd
      replace U := Ud
      clear Ud hHeld
      refine wpAnyH_ready (rs := [4]) (by kernel_rfl) (by simp) ?_
      refine AllReadyH.cons rfl (fun K hK => ?_) AllReadyH.nil
      rw [if_pos (by rfl)]
      refine wp_store_row 25 (.tmp 4) (.tmp 41) rfl w.heap.size #[.bool false, .slice none 0 0, .int .i64 0, .int .i64 0] rfl rfl 25 #[.bool false, .slice none 0 0, .int .i64 0, .int .i64 0] R1 (by kernel_rfl) rfl (by simp [Value.oneCell']) ?_
      have oS : ∀ b', b' ≠ w.heap.size → (VB.drew.setRow w.heap.size #[.bool false, .slice none 0 0, .int .i64 0, .int .i64 0]).heap[b']? = VB.drew.heap[b']? := fun b' h => setRow_other _ _ _ _ h
      replace R1 : Ob (VB.drew.setRow w.heap.size #[.bool false, .slice none 0 0, .int .i64 0, .int .i64 0]) w.heap.size 25 #[.bool false, .slice none 0 0, .int .i64 0, .int .i64 0] := setRow_heap _ _ _ _ _ _ R1
      replace U : Up w (VB.drew.setRow w.heap.size #[.bool false, .slice none 0 0, .int .i64 0, .int .i64 0]) := U.setRow_ ltR1 _
      replace R2 := Ob.oth R2 oS (by omega)
      replace A := Ob.oth A oS (by omega)
      replace B := Ob.oth B oS (by omega)
      replace N2 := Nt.other N2 oS (by omega)
      refine hK.out _ _ ⟨A, B⟩ (fun _ => ?_)
      try simp only [Act.put, List.setIfInBounds_toArray, List.set_cons_zero, List.set_cons_succ, List.getElem_toArray, List.getElem_cons_zero, List.getElem_cons_succ]
      clear hK oS
      obtain ⟨VC, hVC⟩ : ∃ VC, VB.drew.setRow w.heap.size #[.bool false, .slice none 0 0, .int .i64 0, .int .i64 0] = VC := ⟨_, rfl⟩
      rw [hVC] at U R1 R2 A B N2 ⊢
      clear hVC
      refine wpAnyH_ready (rs := [5]) (by kernel_rfl) (by simp) ?_
      refine AllReadyH.cons rfl (fun K hK => ?_) AllReadyH.nil
      rw [if_pos (by rfl)]
      refine wp_store_row 25 (.tmp 5) (.tmp 42) rfl (w.heap.size + 1) #[.bool false, .slice A2 n2 k2, .int .i64 z2, .int .i64 0] rfl rfl 25 #[.bool false, .slice none 0 0, .int .i64 0, .int .i64 0] R2 (by kernel_rfl) rfl (by simp [Value.oneCell']) ?_
      have oS : ∀ b', b' ≠ (w.heap.size + 1) → (VC.setRow (w.heap.size + 1) #[.bool false, .slice A2 n2 k2, .int .i64 z2, .int .i64 0]).heap[b']? = VC.heap[b']? := fun b' h => setRow_other _ _ _ _ h
      replace R2 : Ob (VC.setRow (w.heap.size + 1) #[.bool false, .slice A2 n2 k2, .int .i64 z2, .int .i64 0]) (w.heap.size + 1) 25 #[.bool false, .slice A2 n2 k2, .int .i64 z2, .int .i64 0] := setRow_heap _ _ _ _ _ _ R2
      replace U : Up w (VC.setRow (w.heap.size + 1) #[.bool false, .slice A2 n2 k2, .int .i64 z2, .int .i64 0]) := U.setRow_ ltR2 _
      replace R1 := Ob.oth R1 oS (by omega)
      replace A := Ob.oth A oS (by omega)
      replace B := Ob.oth B oS (by omega)
      replace N2 := Nt.other N2 oS (by omega)
      refine hK.out _ _ ⟨A, B⟩ (fun _ => ?_)
      try simp only [Act.put, List.setIfInBounds_toArray, List.set_cons_zero, List.set_cons_succ, List.getElem_toArray, List.getElem_cons_zero, List.getElem_cons_succ]
      clear hK oS
      obtain ⟨VD, hVD⟩ : ∃ VD, VC.setRow (w.heap.size + 1) #[.bool false, .slice A2 n2 k2, .int .i64 z2, .int .i64 0] = VD := ⟨_, rfl⟩
      rw [hVD] at U R1 R2 A B N2 ⊢
      clear hVD
      refine wpAnyH_ready (rs := [6]) (by kernel_rfl) (by simp) ?_
      refine AllReadyH.cons rfl (fun K hK => ?_) AllReadyH.nil
      go_simp
      refine hK.out _ _ ⟨A, B⟩ (fun _ => ?_)
      try simp only [Act.put, List.setIfInBounds_toArray, List.set_cons_zero, List.set_cons_succ, List.getElem_toArray, List.getElem_cons_zero, List.getElem_cons_succ]
      clear hK
      refine wpAnyH_ready (rs := [7]) (by kernel_rfl) (by simp) ?_
      refine AllReadyH.cons rfl (fun K hK => ?_) AllReadyH.nil
      go_simp
      refine hK.out _ _ ⟨A, B⟩ (fun _ => ?_)
      try simp only [Act.put, List.setIfInBounds_toArray, List.set_cons_zero, List.set_cons_succ, List.getElem_toArray, List.getElem_cons_zero, List.getElem_cons_succ]
      clear hK
      refine wpAnyH_done (by kernel_rfl) ?_ _
      go_wp2_with fail
      have yy0 := R1.get 0
      have yy1 := R1.get 1
      have yy2 := R1.get 2
      have yy3 := R1.get 3
      simp only [List.getElem?_toArray, List.getElem?_cons_zero, List.getElem?_cons_succ] at yy0 yy1 yy2 yy3
      have zz0 := R2.get 0
      have zz1 := R2.get 1
      have zz2 := R2.get 2
      have zz3 := R2.get 3
      simp only [List.getElem?_toArray, List.getElem?_cons_zero, List.getElem?_cons_succ] at zz0 zz1 zz2 zz3
      refine bodyPost_ret (v := .tuple #[xv false (.slice none 0 0) 0 0, xv false (.slice A2 n2 k2) z2 0, .bool ev, .int .i64 0]) (by simp [results, Tryz.results13, go_sem, yy0, yy1, yy2, yy3, zz0, zz1, zz2, zz3]) rfl ?_
      exact ⟨_, _, rfl, Nt.nil _ _ _, N2.lower (by omega), U⟩
    ·
      obtain ⟨k', hk'⟩ : ∃ k', k - 1 = k' := ⟨_, rfl⟩
      rw [hk'] at b1
      have e1 : IntKind.u64.wrap ((k : Int) - 1) = (k' : Int) := wrap_u64 (by omega) (by omega)
      have CA := Lib.hid (fun W T F => CB.out W T F k' m1 z1 (by omega) (by omega) b1)
      have CE1 := Lib.hid (fun W F => CE.out W true ⟨fun _ => c2, fun _ => rfl⟩ F)
      clear CB CE c2 kt k0 h4 ok ok2 ok3 hll hev b1 hk'
      have U := Up.refl w
      go_enter Tryz.func13, Tryz.ntmps13
      go_wp2_with fail
      obtain ⟨V1, hV1⟩ : ∃ V1, w.alloc (.cells #[.bool false, .slice none 0 0, .int .i64 0, .int .i64 0] 25) = V1 := ⟨_, rfl⟩
      have sV1 : V1.heap.size = w.heap.size + 1 := by rw [← hV1]; exact Array.size_push _
      have R1 : Ob V1 w.heap.size 25 #[.bool false, .slice none 0 0, .int .i64 0, .int .i64 0] := by rw [← hV1]; exact Ob.mk_ _ _ _
      have uV1 : Up w V1 := by rw [← hV1]; exact (Up.refl _).alloc _
      have ltR1 : w.heap.size ≤ w.heap.size := U.size
      have ltR2 : w.heap.size ≤ w.heap.size + 1 := Nat.le_succ_of_le U.size
      rw [hV1]
      clear hV1
      obtain ⟨V2, hV2⟩ : ∃ V2, V1.alloc (.cells #[.bool false, .slice none 0 0, .int .i64 0, .int .i64 0] 25) = V2 := ⟨_, rfl⟩
      have R2 : Ob V2 (w.heap.size + 1) 25 #[.bool false, .slice none 0 0, .int .i64 0, .int .i64 0] := by rw [← sV1, ← hV2]; exact Ob.mk_ _ _ _
      have uV2 : Up V1 V2 := by rw [← hV2]; exact (Up.refl _).alloc _
      rw [hV2]
      clear hV2 sV1
      replace R1 := R1.up uV2
      replace uV2 := uV1.trans uV2
      clear uV1
      replace U := U.trans uV2
      clear uV2
      refine (CF.out _ (TT.out.up U) (TF.out.up U)).mono ?_
      rintro _ w3 ⟨rfl, h3⟩
      replace U := U.trans h3
      replace R1 := R1.up h3
      replace R2 := R2.up h3
      clear h3
      go_wp2_with fail
      obtain ⟨V4, hV4⟩ : ∃ V4, w3.alloc (.cells #[.bool false, .slice none 0 0, .int .i64 0, .int .i64 0] 25) = V4 := ⟨_, rfl⟩
      have sV4 : V4.heap.size = w3.heap.size + 1 := by rw [← hV4]; exact Array.size_push _
      have A : Ob V4 w3.heap.size 25 #[.bool false, .slice none 0 0, .int .i64 0, .int .i64 0] := by rw [← hV4]; exact Ob.mk_ _ _ _
      have uV4 : Up w3 V4 := by rw [← hV4]; exact (Up.refl _).alloc _
      have ltA : w.heap.size ≤ w3.heap.size := U.size
      have ltB : w.heap.size ≤ w3.heap.size + 1 := Nat.le_succ_of_le U.size
      have gAR1 := R1.lt
      have gAR2 := R2.lt
      rw [hV4]
      clear hV4
      obtain ⟨V5, hV5⟩ : ∃ V5, V4.alloc (.cells #[.bool false, .slice none 0 0, .int .i64 0, .int .i64 0] 25) = V5 := ⟨_, rfl⟩
      have B : Ob V5 (w3.heap.size + 1) 25 #[.bool false, .slice none 0 0, .int .i64 0, .int .i64 0] := by rw [← sV4, ← hV5]; exact Ob.mk_ _ _ _
      have uV5 : Up V4 V5 := by rw [← hV5]; exact (Up.refl _).alloc _
      rw [hV5]
      clear hV5 sV4
      replace A := A.up uV5
      replace uV5 := uV4.trans uV5
      clear uV4
      replace U := U.trans uV5
      replace R1 := R1.up uV5
      replace R2 := R2.up uV5
      clear uV5
      refine (CL.out _ (TF.out.up U)).mono ?_
      rintro _ w6 ⟨rfl, h6⟩
      replace U := U.trans h6
      replace R1 := R1.up h6
      replace R2 := R2.up h6
      replace A := A.up h6
      replace B := B.up h6
      clear h6
      go_wp2_with fail
      have gN := B.lt
      refine (CA.out _ (TT.out.up U) (TF.out.up U)).mono ?_
      rintro _ w7 ⟨_, rfl, ⟨A1, n1, k1, ys1, rfl, N⟩, h7⟩
      replace U := U.trans h7
      replace R1 := R1.up h7
      replace R2 := R2.up h7
      replace A := A.up h7
      replace B := B.up h7
      clear h7
      replace N : Nt w7 _ 1 (.slice A1 n1 k1) m1 := ⟨_, _, _, _, rfl, N⟩
      go_wp2_with (refine store_ob2 rfl 25 (.tmp 11) (.tmp 32) rfl _ #[.bool false, .slice none 0 0, .int .i64 0, .int .i64 0] #[.bool false, .slice A1 n1 k1, .int .i64 z1, .int .i64 0] rfl rfl 4 (by kernel_rfl) rfl rfl (by simp [Value.oneCell']) w U ltA 25 A ?_; clear U; intro VA Z9 U ho; replace N := Nt.other N ho (by omega); replace R1 := Ob.oth R1 ho (by omega); replace R2 := Ob.oth R2 ho (by omega); replace B := Ob.oth B ho (by omega); clear ho A; have A := Z9; clear Z9)
      refine (CE1.out _ (TF.out.up U)).mono ?_
      rintro _ w8 ⟨rfl, h8⟩
      replace U := U.trans h8
      replace R1 := R1.up h8
      replace R2 := R2.up h8
      replace A := A.up h8
      replace B := B.up h8
      replace N := N.up h8
      clear h8
      go_wp2_with fail
      refine wp_region_held_drew (S := fun w' => Ob w' (w3.heap.size) 25 #[.bool false, .slice A1 n1 k1, .int .i64 z1, .int .i64 0] ∧ Ob w' (w3.heap.size + 1) 25 #[.bool false, .slice none 0 0, .int .i64 0, .int .i64 0]) (by kernel_rfl) ⟨A.up ((Up.refl _).drew), B.up ((Up.refl _).drew)⟩ (fun hHeld => ?_)
      refine wpAnyH_take (i := 0) (v := ?_) rfl (by kernel_rfl) (by kernel_rfl) (by kernel_rfl) (fun _ _ _ h => h) (Or.inl ⟨by rfl, ?_⟩) (by assumption) ?_
      rotate_left
      · intro w hSw
        obtain ⟨hA, hB⟩ := hSw
        have A0 := hA.get 0
        have A1 := hA.get 1
        have A2 := hA.get 2
        have A3 := hA.get 3
        simp only [List.getElem?_toArray, List.getElem?_cons_zero, List.getElem?_cons_succ] at A0 A1 A2 A3
        have B0 := hB.get 0
        have B1 := hB.get 1
        have B2 := hB.get 2
        have B3 := hB.get 3
        simp only [List.getElem?_toArray, List.getElem?_cons_zero, List.getElem?_cons_succ] at B0 B1 B2 B3
        go_simp
        all_goals with_reducible rfl
      try simp only [Act.put, List.setIfInBounds_toArray, List.set_cons_zero, List.set_cons_succ, List.getElem_toArray, List.getElem_cons_zero, List.getElem_cons_succ]
      refine wpAnyH_take (i := 1) (v := ?_) rfl (by kernel_rfl) (by kernel_rfl) (by kernel_rfl) (fun _ _ _ h => h) (Or.inl ⟨by rfl, ?_⟩) (by assumption) ?_
      rotate_left
      · intro w hSw
        obtain ⟨hA, hB⟩ := hSw
        have A0 := hA.get 0
        have A1 := hA.get 1
        have A2 := hA.get 2
        have A3 := hA.get 3
        simp only [List.getElem?_toArray, List.getElem?_cons_zero, List.getElem?_cons_succ] at A0 A1 A2 A3
        have B0 := hB.get 0
        have B1 := hB.get 1
        have B2 := hB.get 2
        have B3 := hB.get 3
        simp only [List.getElem?_toArray, List.getElem?_cons_zero, List.getElem?_cons_succ] at B0 B1 B2 B3
        go_simp
        all_goals with_reducible rfl
      try simp only [Act.put, List.setIfInBounds_toArray, List.set_cons_zero, List.set_cons_succ, List.getElem_toArray, List.getElem_cons_zero, List.getElem_cons_succ]
      refine wpAnyH_take (i := 2) (v := ?_) rfl (by kernel_rfl) (by kernel_rfl) (by kernel_rfl) (fun _ _ _ h => h) (Or.inl ⟨by rfl, ?_⟩) (by assumption) ?_
      rotate_left
      · intro w hSw
        obtain ⟨hA, hB⟩ := hSw
        have A0 := hA.get 0
        have A1 := hA.get 1
        have A2 := hA.get 2
        have A3 := hA.get 3
        simp only [List.getElem?_toArray, List.getElem?_cons_zero, List.getElem?_cons_succ] at A0 A1 A2 A3
        have B0 := hB.get 0
        have B1 := hB.get 1
        have B2 := hB.get 2
        have B3 := hB.get 3
        simp only [List.getElem?_toArray, List.getElem?_cons_zero, List.getElem?_cons_succ] at B0 B1 B2 B3
        go_simp
        all_goals with_reducible rfl
      try simp only [Act.put, List.setIfInBounds_toArray, List.set_cons_zero, List.set_cons_succ, List.getElem_toArray, List.getElem_cons_zero, List.getElem_cons_succ]
      refine wpAnyH_ready (rs := [3]) (by kernel_rfl) (by simp) ?_
      refine AllReadyH.cons rfl (fun K hK => ?_) AllReadyH.nil
      go_simp
      refine (CV.out _).mono ?_
      rintro _ _ ⟨rfl, rfl⟩
      have R1d := R1.up ((Up.refl _).drew)
      have R2d := R2.up ((Up.refl _).drew)
      have Ad := A.up ((Up.refl _).drew)
      have Bd := B.up ((Up.refl _).drew)
      have Ud := U.drew
      replace N := N.up ((Up.refl _).drew)
      refine hK.out _ _ ⟨Ad, Bd⟩ (fun _ => ?_)
      try simp only [Act.put, List.setIfInBounds_toArray, List.set_cons_zero, List.set_cons_succ, List.getElem_toArray, List.getElem_cons_zero, List.getElem_cons_succ]
      clear hK
      replace R1 := R1d
      clear R1d
      replace R2 := R2d
      clear R2d
      replace A := Ad
      clear Ad
      replace B := Bd
      clear Bd
      replace U := Ud
      clear Ud hHeld
      refine wpAnyH_ready (rs := [4]) (by kernel_rfl) (by simp) ?_
      refine AllReadyH.cons rfl (fun K hK => ?_) AllReadyH.nil
      rw [if_pos (by rfl)]
      refine wp_store_row 25 (.tmp 4) (.tmp 41) rfl w.heap.size #[.bool false, .slice A1 n1 k1, .int .i64 z1, .int .i64 0] rfl rfl 25 #[.bool false, .slice none 0 0, .int .i64 0, .int .i64 0] R1 (by kernel_rfl) rfl (by simp [Value.oneCell']) ?_
      have oS : ∀ b', b' ≠ w.heap.size → (w8.drew.setRow w.heap.size #[.bool false, .slice A1 n1 k1, .int .i64 z1, .int .i64 0]).heap[b']? = w8.drew.heap[b']? := fun b' h => setRow_other _ _ _ _ h
      replace R1 : Ob (w8.drew.setRow w.heap.size #[.bool false, .slice A1 n1 k1, .int .i64 z1, .int .i64 0]) w.heap.size 25 #[.bool false, .slice A1 n1 k1, .int .i64 z1, .int .i64 0] := setRow_heap _ _ _ _ _ _ R1
      replace U : Up w (w8.drew.setRow w.heap.size #[.bool false, .slice A1 n1 k1, .int .i64 z1, .int .i64 0]) := U.setRow_ ltR1 _
      replace R2 := Ob.oth R2 oS (by omega)
      replace A := Ob.oth A oS (by omega)
      replace B := Ob.oth B oS (by omega)
      replace N := Nt.other N oS (by omega)
      refine hK.out _ _ ⟨A, B⟩ (fun _ => ?_)
      try simp only [Act.put, List.setIfInBounds_toArray, List.set_cons_zero, List.set_cons_succ, List.getElem_toArray, List.getElem_cons_zero, List.getElem_cons_succ]
      clear hK oS
      obtain ⟨VC, hVC⟩ : ∃ VC, w8.drew.setRow w.heap.size #[.bool false, .slice A1 n1 k1, .int .i64 z1, .int .i64 0] = VC := ⟨_, rfl⟩
      rw [hVC] at U R1 R2 A B N ⊢
      clear hVC
      refine wpAnyH_ready (rs := [5]) (by kernel_rfl) (by simp) ?_
      refine AllReadyH.cons rfl (fun K hK => ?_) AllReadyH.nil
      rw [if_pos (by rfl)]
      refine wp_store_row 25 (.tmp 5) (.tmp 42) rfl (w.heap.size + 1) #[.bool false, .slice none 0 0, .int .i64 0, .int .i64 0] rfl rfl 25 #[.bool false, .slice none 0 0, .int .i64 0, .int .i64 0] R2 (by kernel_rfl) rfl (by simp [Value.oneCell']) ?_
      have oS : ∀ b', b' ≠ (w.heap.size + 1) → (VC.setRow (w.heap.size + 1) #[.bool false, .slice none 0 0, .int .i64 0, .int .i64 0]).heap[b']? = VC.heap[b']? := fun b' h => setRow_other _ _ _ _ h
      replace R2 : Ob (VC.setRow (w.heap.size + 1) #[.bool false, .slice none 0 0, .int .i64 0, .int .i64 0]) (w.heap.size + 1) 25 #[.bool false, .slice none 0 0, .int .i64 0, .int .i64 0] := setRow_heap _ _ _ _ _ _ R2
      replace U : Up w (VC.setRow (w.heap.size + 1) #[.bool false, .slice none 0 0, .int .i64 0, .int .i64 0]) := U.setRow_ ltR2 _
      replace R1 := Ob.oth R1 oS (by omega)
      replace A := Ob.oth A oS (by omega)
      replace B := Ob.oth B oS (by omega)
      replace N := Nt.other N oS (by omega)
      refine hK.out _ _ ⟨A, B⟩ (fun _ => ?_)
      try simp only [Act.put, List.setIfInBounds_toArray, List.set_cons_zero, List.set_cons_succ, List.getElem_toArray, List.getElem_cons_zero, List.getElem_cons_succ]
      clear hK oS
      obtain ⟨VD, hVD⟩ : ∃ VD, VC.setRow (w.heap.size + 1) #[.bool false, .slice none 0 0, .int .i64 0, .int .i64 0] = VD := ⟨_, rfl⟩
      rw [hVD] at U R1 R2 A B N ⊢
      clear hVD
      refine wpAnyH_ready (rs := [6]) (by kernel_rfl) (by simp) ?_
      refine AllReadyH.cons rfl (fun K hK => ?_) AllReadyH.nil
      go_simp
      refine hK.out _ _ ⟨A, B⟩ (fun _ => ?_)
      try simp only [Act.put, List.setIfInBounds_toArray, List.set_cons_zero, List.set_cons_succ, List.getElem_toArray, List.getElem_cons_zero, List.getElem_cons_succ]
      clear hK
      refine wpAnyH_ready (rs := [7]) (by kernel_rfl) (by simp) ?_
      refine AllReadyH.cons rfl (fun K hK => ?_) AllReadyH.nil
      go_simp
      refine hK.out _ _ ⟨A, B⟩ (fun _ => ?_)
      try simp only [Act.put, List.setIfInBounds_toArray, List.set_cons_zero, List.set_cons_succ, List.getElem_toArray, List.getElem_cons_zero, List.getElem_cons_succ]
      clear hK
      refine wpAnyH_done (by kernel_rfl) ?_ _
      go_wp2_with fail
      have yy0 := R1.get 0
      have yy1 := R1.get 1
      have yy2 := R1.get 2
      have yy3 := R1.get 3
      simp only [List.getElem?_toArray, List.getElem?_cons_zero, List.getElem?_cons_succ] at yy0 yy1 yy2 yy3
      have zz0 := R2.get 0
      have zz1 := R2.get 1
      have zz2 := R2.get 2
      have zz3 := R2.get 3
      simp only [List.getElem?_toArray, List.getElem?_cons_zero, List.getElem?_cons_succ] at zz0 zz1 zz2 zz3
      refine bodyPost_ret (v := .tuple #[xv false (.slice A1 n1 k1) z1 0, xv false (.slice none 0 0) 0 0, .bool ev, .int .i64 0]) (by simp [results, Tryz.results13, go_sem, yy0, yy1, yy2, yy3, zz0, zz1, zz2, zz3]) rfl ?_
      exact ⟨_, _, rfl, N.lower (by omega), Nt.nil _ _ _, U⟩
    ·
      obtain ⟨k', hk'⟩ : ∃ k', k - 1 = k' := ⟨_, rfl⟩
      rw [hk'] at b1
      have e1 : IntKind.u64.wrap ((k : Int) - 1) = (k' : Int) := wrap_u64 (by omega) (by omega)
      have CA := Lib.hid (fun W T F => CB.out W T F k' m1 z1 (by omega) (by omega) b1)
      have CE1 := Lib.hid (fun W F => CE.out W false ⟨fun e => (by cases e), fun e => absurd e c2⟩ F)
      have CD := Lib.hid (fun W T F => CB.out W T F k m2 z2 kb kt b2)
      clear CB CE c2 kt k0 h4 ok ok2 ok3 hll hev b1 hk' b2
      have U := Up.refl w
      go_enter Tryz.func13, Tryz.ntmps13
      go_wp2_with fail
      obtain ⟨V1, hV1⟩ : ∃ V1, w.alloc (.cells #[.bool false, .slice none 0 0, .int .i64 0, .int .i64 0] 25) = V1 := ⟨_, rfl⟩
      have sV1 : V1.heap.size = w.heap.size + 1 := by rw [← hV1]; exact Array.size_push _
      have R1 : Ob V1 w.heap.size 25 #[.bool false, .slice none 0 0, .int .i64 0, .int .i64 0] := by rw [← hV1]; exact Ob.mk_ _ _ _
      have uV1 : Up w V1 := by rw [← hV1]; exact (Up.refl _).alloc _
      have ltR1 : w.heap.size ≤ w.heap.size := U.size
      have ltR2 : w.heap.size ≤ w.heap.size + 1 := Nat.le_succ_of_le U.size
      rw [hV1]
      clear hV1
      obtain ⟨V2, hV2⟩ : ∃ V2, V1.alloc (.cells #[.bool false, .slice none 0 0, .int .i64 0, .int .i64 0] 25) = V2 := ⟨_, rfl⟩
      have R2 : Ob V2 (w.heap.size + 1) 25 #[.bool false, .slice none 0 0, .int .i64 0, .int .i64 0] := by rw [← sV1, ← hV2]; exact Ob.mk_ _ _ _
      have uV2 : Up V1 V2 := by rw [← hV2]; exact (Up.refl _).alloc _
      rw [hV2]
      clear hV2 sV1
      replace R1 := R1.up uV2
      replace uV2 := uV1.trans uV2
      clear uV1
      replace U := U.trans uV2
      clear uV2
      refine (CF.out _ (TT.out.up U) (TF.out.up U)).mono ?_
      rintro _ w3 ⟨rfl, h3⟩
      replace U := U.trans h3
      replace R1 := R1.up h3
      replace R2 := R2.up h3
      clear h3
      go_wp2_with fail
      obtain ⟨V4, hV4⟩ : ∃ V4, w3.alloc (.cells #[.bool false, .slice none 0 0, .int .i64 0, .int .i64 0] 25) = V4 := ⟨_, rfl⟩
      have sV4 : V4.heap.size = w3.heap.size + 1 := by rw [← hV4]; exact Array.size_push _
      have A : Ob V4 w3.heap.size 25 #[.bool false, .slice none 0 0, .int .i64 0, .int .i64 0] := by rw [← hV4]; exact Ob.mk_ _ _ _
      have uV4 : Up w3 V4 := by rw [← hV4]; exact (Up.refl _).alloc _
      have ltA : w.heap.size ≤ w3.heap.size := U.size
      have ltB : w.heap.size ≤ w3.heap.size + 1 := Nat.le_succ_of_le U.size
      have gAR1 := R1.lt
      have gAR2 := R2.lt
      rw [hV4]
      clear hV4
      obtain ⟨V5, hV5⟩ : ∃ V5, V4.alloc (.cells #[.bool false, .slice none 0 0, .int .i64 0, .int .i64 0] 25) = V5 := ⟨_, rfl⟩
      have B : Ob V5 (w3.heap.size + 1) 25 #[.bool false, .slice none 0 0, .int .i64 0, .int .i64 0] := by rw [← sV4, ← hV5]; exact Ob.mk_ _ _ _
      have uV5 : Up V4 V5 := by rw [← hV5]; exact (Up.refl _).alloc _
      rw [hV5]
      clear hV5 sV4
      replace A := A.up uV5
      replace uV5 := uV4.trans uV5
      clear uV4
      replace U := U.trans uV5
      replace R1 := R1.up uV5
      replace R2 := R2.up uV5
      clear uV5
      refine (CL.out _ (TF.out.up U)).mono ?_
      rintro _ w6 ⟨rfl, h6⟩
      replace U := U.trans h6
      replace R1 := R1.up h6
      replace R2 := R2.up h6
      replace A := A.up h6
      replace B := B.up h6
      clear h6
      go_wp2_with fail
      have gN := B.lt
      refine (CA.out _ (TT.out.up U) (TF.out.up U)).mono ?_
      rintro _ w7 ⟨_, rfl, ⟨A1, n1, k1, ys1, rfl, N⟩, h7⟩
      replace U := U.trans h7
      replace R1 := R1.up h7
      replace R2 := R2.up h7
      replace A := A.up h7
      replace B := B.up h7
      clear h7
      replace N : Nt w7 _ 1 (.slice A1 n1 k1) m1 := ⟨_, _, _, _, rfl, N⟩
      go_wp2_with (refine store_ob2 rfl 25 (.tmp 11) (.tmp 32) rfl _ #[.bool false, .slice none 0 0, .int .i64 0, .int .i64 0] #[.bool false, .slice A1 n1 k1, .int .i64 z1, .int .i64 0] rfl rfl 4 (by kernel_rfl) rfl rfl (by simp [Value.oneCell']) w U ltA 25 A ?_; clear U; intro VA Z9 U ho; replace N := Nt.other N ho (by omega); replace R1 := Ob.oth R1 ho (by omega); replace R2 := Ob.oth R2 ho (by omega); replace B := Ob.oth B ho (by omega); clear ho A; have A := Z9; clear Z9)
      refine (CE1.out _ (TF.out.up U)).mono ?_
      rintro _ w8 ⟨rfl, h8⟩
      replace U := U.trans h8
      replace R1 := R1.up h8
      replace R2 := R2.up h8
      replace A := A.up h8
      replace B := B.up h8
      replace N := N.up h8
      clear h8
      go_wp2_with fail
      have gM := B.lt
      refine (CD.out _ (TT.out.up U) (TF.out.up U)).mono ?_
      rintro _ w9 ⟨_, rfl, ⟨A2, n2, k2, ys2, rfl, N2⟩, h9⟩
      replace U := U.trans h9
      replace R1 := R1.up h9
      replace R2 := R2.up h9
      replace A := A.up h9
      replace B := B.up h9
      replace N := N.up h9
      clear h9
      replace N2 : Nt w9 _ 1 (.slice A2 n2 k2) m2 := ⟨_, _, _, _, rfl, N2⟩
      go_upto_region 9 with (refine store_ob2 rfl 25 (.tmp 12) (.tmp 40) rfl _ #[.bool false, .slice none 0 0, .int .i64 0, .int .i64 0] #[.bool false, .slice A2 n2 k2, .int .i64 z2, .int .i64 0] rfl rfl 4 (by kernel_rfl) rfl rfl (by simp [Value.oneCell']) w U ltB 25 B ?_; clear U; intro VB Z9 U ho; replace N := Nt.other N ho (by omega); replace N2 := Nt.other N2 ho (by omega); replace R1 := Ob.oth R1 ho (by omega); replace R2 := Ob.oth R2 ho (by omega); replace A := Ob.oth A ho (by omega); clear ho B; have B := Z9; clear Z9)
      refine wp_region_held_drew (S := fun w' => Ob w' (w3.heap.size) 25 #[.bool false, .slice A1 n1 k1, .int .i64 z1, .int .i64 0] ∧ Ob w' (w3.heap.size + 1) 25 #[.bool false, .slice A2 n2 k2, .int .i64 z2, .int .i64 0]) (by kernel_rfl) ⟨A.up ((Up.refl _).drew), B.up ((Up.refl _).drew)⟩ (fun hHeld => ?_)
      refine wpAnyH_take (i := 0) (v := ?_) rfl (by kernel_rfl) (by kernel_rfl) (by kernel_rfl) (fun _ _ _ h => h) (Or.inl ⟨by rfl, ?_⟩) (by assumption) ?_
      rotate_left
      · intro w hSw
        obtain ⟨hA, hB⟩ := hSw
        have A0 := hA.get 0
        have A1 := hA.get 1
        have A2 := hA.get 2
        have A3 := hA.get 3
        simp only [List.getElem?_toArray, List.getElem?_cons_zero, List.getElem?_cons_succ] at A0 A1 A2 A3
        have B0 := hB.get 0
        have B1 := hB.get 1
        have B2 := hB.get 2
        have B3 := hB.get 3
        simp only [List.getElem?_toArray, List.getElem?_cons_zero, List.getElem?_cons_succ] at B0 B1 B2 B3
        go_simp
        all_goals with_reducible rfl
      try simp only [Act.put, List.setIfInBounds_toArray, List.set_cons_zero, List.set_cons_succ, List.getElem_toArray, List.getElem_cons_zero, List.getElem_cons_succ]
      refine wpAnyH_take (i := 1) (v := ?_) rfl (by kernel_rfl) (by kernel_rfl) (by kernel_rfl) (fun _ _ _ h => h) (Or.inl ⟨by rfl, ?_⟩) (by assumption) ?_
      rotate_left
      · intro w hSw
        obtain ⟨hA, hB⟩ := hSw
        have A0 := hA.get 0
        have A1 := hA.get 1
        have A2 := hA.get 2
        have A3 := hA.get 3
        simp only [List.getElem?_toArray, List.getElem?_cons_zero, List.getElem?_cons_succ] at A0 A1 A2 A3
        have B0 := hB.get 0
        have B1 := hB.get 1
        have B2 := hB.get 2
        have B3 := hB.get 3
        simp only [List.getElem?_toArray, List.getElem?_cons_zero, List.getElem?_cons_succ] at B0 B1 B2 B3
        go_simp
        all_goals with_reducible rfl
      try simp only [Act.put, List.setIfInBounds_toArray, List.set_cons_zero, List.set_cons_succ, List.getElem_toArray, List.getElem_cons_zero, List.getElem_cons_succ]
      refine wpAnyH_take (i := 2) (v := ?_) rfl (by kernel_rfl) (by kernel_rfl) (by kernel_rfl) (fun _ _ _ h => h) (Or.inl ⟨by rfl, ?_⟩) (by assumption) ?_
      rotate_left
      · intro w hSw
        obtain ⟨hA, hB⟩ := hSw
        have A0 := hA.get 0
        have A1 := hA.get 1
        have A2 := hA.get 2
        have A3 := hA.get 3
        simp only [List.getElem?_toArray, List.getElem?_cons_zero, List.getElem?_cons_succ] at A0 A1 A2 A3
        have B0 := hB.get 0
        have B1 := hB.get 1
        have B2 := hB.get 2
        have B3 := hB.get 3
        simp only [List.getElem?_toArray, List.getElem?_cons_zero, List.getElem?_cons_succ] at B0 B1 B2 B3
        go_simp
        all_goals with_reducible rfl
      try simp only [Act.put, List.setIfInBounds_toArray, List.set_cons_zero, List.set_cons_succ, List.getElem_toArray, List.getElem_cons_zero, List.getElem_cons_succ]
      refine wpAnyH_ready (rs := [3]) (by kernel_rfl) (by simp) ?_
      refine AllReadyH.cons rfl (fun K hK => ?_) AllReadyH.nil
      go_simp
      refine (CV.out _).mono ?_
      rintro _ _ ⟨rfl, rfl⟩
      have R1d := R1.up ((Up.refl _).drew)
      have R2d := R2.up ((Up.refl _).drew)
      have Ad := A.up ((Up.refl _).drew)
      have Bd := B.up ((Up.refl _).drew)
      have Ud := U.drew
      replace N := N.up ((Up.refl _).drew)
      replace N2 := N2.up ((Up.refl _).drew)
      refine hK.out _ _ ⟨Ad, Bd⟩ (fun _ => ?_)
      try simp only [Act.put, List.setIfInBounds_toArray, List.set_cons_zero, List.set_cons_succ, List.getElem_toArray, List.getElem_cons_zero, List.getElem_cons_succ]
      clear hK
      replace R1 := R1d
      clear R1d
      replace R2 := R2d
      clear R2d
      replace A := Ad
      clear Ad
      replace B := Bd
      clear Bd
      replace U := Ud
      clear Ud hHeld
      refine wpAnyH_ready (rs := [4]) (by kernel_rfl) (by simp) ?_
      refine AllReadyH.cons rfl (fun K hK => ?_) AllReadyH.nil
      rw [if_pos (by rfl)]
      refine wp_store_row 25 (.tmp 4) (.tmp 41) rfl w.heap.size #[.bool false, .slice A1 n1 k1, .int .i64 z1, .int .i64 0] rfl rfl 25 #[.bool false, .slice none 0 0, .int .i64 0, .int .i64 0] R1 (by kernel_rfl) rfl (by simp [Value.oneCell']) ?_
      have oS : ∀ b', b' ≠ w.heap.size → (VB.drew.setRow w.heap.size #[.bool false, .slice A1 n1 k1, .int .i64 z1, .int .i64 0]).heap[b']? = VB.drew.heap[b']? := fun b' h => setRow_other _ _ _ _ h
      replace R1 : Ob (VB.drew.setRow w.heap.size #[.bool false, .slice A1 n1 k1, .int .i64 z1, .int .i64 0]) w.heap.size 25 #[.bool false, .slice A1 n1 k1, .int .i64 z1, .int .i64 0] := setRow_heap _ _ _ _ _ _ R1
      replace U : Up w (VB.drew.setRow w.heap.size #[.bool false, .slice A1 n1 k1, .int .i64 z1, .int .i64 0]) := U.setRow_ ltR1 _
      replace R2 := Ob.oth R2 oS (by omega)
      replace A := Ob.oth A oS (by omega)
      replace B := Ob.oth B oS (by omega)
      replace N := Nt.other N oS (by omega)
      replace N2 := Nt.other N2 oS (by omega)
      refine hK.out _ _ ⟨A, B⟩ (fun _ => ?_)
      try simp only [Act.put, List.setIfInBounds_toArray, List.set_cons_zero, List.set_cons_succ, List.getElem_toArray, List.getElem_cons_zero, List.getElem_cons_succ]
      clear hK oS
      obtain ⟨VC, hVC⟩ : ∃ VC, VB.drew.setRow w.heap.size #[.bool false, .slice A1 n1 k1, .int .i64 z1, .int .i64 0] = VC := ⟨_, rfl⟩
      rw [hVC] at U R1 R2 A B N N2 ⊢
      clear hVC
      refine wpAnyH_ready (rs := [5]) (by kernel_rfl) (by simp) ?_
      refine AllReadyH.cons rfl (fun K hK => ?_) AllReadyH.nil
      rw [if_pos (by rfl)]
      refine wp_store_row 25 (.tmp 5) (.tmp 42) rfl (w.heap.size + 1) #[.bool false, .slice A2 n2 k2, .int .i64 z2, .int .i64 0] rfl rfl 25 #[.bool false, .slice none 0 0, .int .i64 0, .int .i64 0] R2 (by kernel_rfl) rfl (by simp [Value.oneCell']) ?_
      have oS : ∀ b', b' ≠ (w.heap.size + 1) → (VC.setRow (w.heap.size + 1) #[.bool false, .slice A2 n2 k2, .int .i64 z2, .int .i64 0]).heap[b']? = VC.heap[b']? := fun b' h => setRow_other _ _ _ _ h
      replace R2 : Ob (VC.setRow (w.heap.size + 1) #[.bool false, .slice A2 n2 k2, .int .i64 z2, .int .i64 0]) (w.heap.size + 1) 25 #[.bool false, .slice A2 n2 k2, .int .i64 z2, .int .i64 0] := setRow_heap _ _ _ _ _ _ R2
      replace U : Up w (VC.setRow (w.heap.size + 1) #[.bool false, .slice A2 n2 k2, .int .i64 z2, .int .i64 0]) := U.setRow_ ltR2 _
      replace R1 := Ob.oth R1 oS (by omega)
      replace A := Ob.oth A oS (by omega)
      replace B := Ob.oth B oS (by omega)
      replace N := Nt.other N oS (by omega)
      replace N2 := Nt.other N2 oS (by omega)
      refine hK.out _ _ ⟨A, B⟩ (fun _ => ?_)
      try simp only [Act.put, List.setIfInBounds_toArray, List.set_cons_zero, List.set_cons_succ, List.getElem_toArray, List.getElem_cons_zero, List.getElem_cons_succ]
      clear hK oS
      obtain ⟨VD, hVD⟩ : ∃ VD, VC.setRow (w.heap.size + 1) #[.bool false, .slice A2 n2 k2, .int .i64 z2, .int .i64 0] = VD := ⟨_, rfl⟩
      rw [hVD] at U R1 R2 A B N N2 ⊢
      clear hVD
      refine wpAnyH_ready (rs := [6]) (by kernel_rfl) (by simp) ?_
      refine AllReadyH.cons rfl (fun K hK => ?_) AllReadyH.nil
      go_simp
      refine hK.out _ _ ⟨A, B⟩ (fun _ => ?_)
      try simp only [Act.put, List.setIfInBounds_toArray, List.set_cons_zero, List.set_cons_succ, List.getElem_toArray, List.getElem_cons_zero, List.getElem_cons_succ]
      clear hK
      refine wpAnyH_ready (rs := [7]) (by kernel_rfl) (by simp) ?_
      refine AllReadyH.cons rfl (fun K hK => ?_) AllReadyH.nil
      go_simp
      refine hK.out _ _ ⟨A, B⟩ (fun _ => ?_)
      try simp only [Act.put, List.setIfInBounds_toArray, List.set_cons_zero, List.set_cons_succ, List.getElem_toArray, List.getElem_cons_zero, List.getElem_cons_succ]
      clear hK
      refine wpAnyH_done (by kernel_rfl) ?_ _
      go_wp2_with fail
      have yy0 := R1.get 0
      have yy1 := R1.get 1
      have yy2 := R1.get 2
      have yy3 := R1.get 3
      simp only [List.getElem?_toArray, List.getElem?_cons_zero, List.getElem?_cons_succ] at yy0 yy1 yy2 yy3
      have zz0 := R2.get 0
      have zz1 := R2.get 1
      have zz2 := R2.get 2
      have zz3 := R2.get 3
      simp only [List.getElem?_toArray, List.getElem?_cons_zero, List.getElem?_cons_succ] at zz0 zz1 zz2 zz3
      refine bodyPost_ret (v := .tuple #[xv false (.slice A1 n1 k1) z1 0, xv false (.slice A2 n2 k2) z2 0, .bool ev, .int .i64 0]) (by simp [results, Tryz.results13, go_sem, yy0, yy1, yy2, yy3, zz0, zz1, zz2, zz3]) rfl ?_
      exact ⟨_, _, rfl, N.lower (by omega), N2.lower (by omega), U⟩
end Go.Proofs.YtlogglhonlannaaGreatDoor
