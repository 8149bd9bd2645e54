/-
  The reference of layer 8: Limits; whether two numbers are the same.
-/
import Derived.Test.YtlogglhonlannaaGreatDoorZc
import Derived.Test.YtlogglhonlannaaGreatDoorRv
namespace Go.Proofs.YtlogglhonlannaaGreatDoor
open Go.RowKit
set_option linter.unusedSimpArgs false
set_option linter.unusedVariables false

theorem Bf.oth {w V : World} {g b : Nat} {ty : TypeId} {f : M.Fm} (h : Bf w b ty f) (ho : ∀ b', b' ≠ g → V.heap[b']? = w.heap[b']?) (hg : b ≠ g) : Bf V b ty f := (ho b hg).trans h
/-- What the reference's Limits comes to. -/
def Ly (m1 : Nat) (z1 : Int) (m2 : Nat) (z2 : Int) (ev : Bool) (w : World) (e : Ending) (w' : World) : Prop :=
  ∃ v1 v2, e = .returned (.tuple #[xv false v1 z1 0, xv false v2 z2 0, .bool ev]) ∧ Nt w' w.heap.size 1 v1 m1 ∧ Nt w' w.heap.size 1 v2 m2 ∧ Up w w'
set_option maxHeartbeats 2500000 in
set_option maxRecDepth 100000 in
theorem rlimits8_any (w : World) (i : Nat) (f : M.Fm) (hf : Hid (M.tb i = f)) (i1 : 1 ≤ i) (i2 : i ≤ 14) (p : Nat) (pb : p < 18446744073709551616) (gg : Bool) (k m1 : Nat) (z1 : Int) (m2 : Nat) (z2 : Int) (hF : M.Fc (i : Int) p gg k 0) (hl : M.Lm f gg k m1 z1 m2 z2) : Calls Tryz.prog 15 #[.int .i64 (i : Int), u64 p] w (Ly m1 z1 m2 z2 (decide (k % 2 = 0)) w) := by
  obtain ⟨i', hi', _, _, hp, hc, hg, hk, km, kt, k0⟩ := M.fc_in hF
  obtain rfl : i = i' := by omega
  have ok := M.ok i i1 i2
  have ok2 := M.ok2 i i1 i2
  have ok3 := M.ok3 i i1 i2
  have h4 : ¬ ((M.tb i).k = 4 ∧ gg = true) := fun e => by
    have := M.ngs_four ok e.1 p
    rw [← hg, e.2] at this
    cases this
  obtain ⟨q, hq, q3, qb, qt⟩ := M.mst_rng ok ok2 ok3 gg
  have CK := Lib.hid (fun W => rkey7_any W (i : Int) p pb gg k 0 (.inr ⟨i, rfl, i1, i2, .inr ⟨hp, .inr (.inr ⟨hc, hg, hk, rfl⟩)⟩⟩))
  have CM := Lib.hid (fun W => rmost_any W (i : Int) gg (q : Int) 0 (.inr ⟨i, rfl, i1, i2, .inr ⟨h4, hq.symm, rfl⟩⟩))
  have CB := Lib.hid (fun W (j : Nat) (jb : j < 18446744073709551616) (hj : (j : Int) ≤ M.tp (M.tb i)) (m : Nat) (z : Int) (hb : M.Bd (M.tb i) j m z) => rbetween_any W (i : Int) j jb m z 0 (.inr ⟨i, rfl, i1, i2, .inr ⟨hj, hb, rfl⟩⟩))
  have CF := Lib.hid (fun W => rof_in W i f hf i1 i2)
  have BZ := Lib.hid (fun (j m : Nat) (z : Int) (hj : (j : Int) ≤ M.tp (M.tb i)) (hb : M.Bd (M.tb i) j m z) => M.bd_z ok ok2 ok3 hj hb)
  rw [hf.out] at ok ok2 ok3 h4 hq km kt k0 qt CB BZ
  obtain ⟨ev, hev⟩ : ∃ ev, decide (k % 2 = 0) = ev := ⟨_, rfl⟩
  have em : ((k : Int).tmod 2 == 0) = ev := by
    rw [← hev, Int.tmod_eq_emod_of_nonneg (by omega)]
    by_cases h : k % 2 = 0
    · rw [decide_eq_true h, beq_iff_eq]; omega
    · rw [decide_eq_false h, beq_eq_false_iff_ne]; omega
  rw [hev]
  have kq : k ≤ q := by omega
  have kb : k < 18446744073709551616 := by omega
  obtain ⟨l1, l2⟩ := hl
  have L1 : (1 < k ∧ M.Bd f (k - 1) m1 z1) ∨ (¬ 1 < k ∧ k = 1 ∧ f.k ≠ 1 ∧ M.Bd f (k - 1) m1 z1) ∨ (¬ 1 < k ∧ k = 1 ∧ f.k = 1 ∧ m1 = 0 ∧ z1 = 0) ∨ (k = 0 ∧ m1 = 0 ∧ z1 = 0) := by
    unfold M.lst at l1
    by_cases e : f.k = 1
    · rw [if_pos e] at l1
      rcases l1 with ⟨h1, h2, h3⟩ | ⟨h1, h2⟩
      · rcases (show k = 0 ∨ k = 1 by omega) with h | h
        · exact .inr (.inr (.inr ⟨h, h2, h3⟩))
        · exact .inr (.inr (.inl ⟨by omega, h, e, h2, h3⟩))
      · exact .inl ⟨h1, h2⟩
    · rw [if_neg e] at l1
      rcases l1 with ⟨h1, h2, h3⟩ | ⟨h1, h2⟩
      · exact .inr (.inr (.inr ⟨by omega, h2, h3⟩))
      · rcases (show 1 < k ∨ k = 1 by omega) with h | h
        · exact .inl ⟨h, h2⟩
        · exact .inr (.inl ⟨by omega, h, e, h2⟩)
  have L2 : (k < q ∧ M.Bd f k m2 z2) ∨ (1 < k ∧ ¬ k < q ∧ f.k ≠ 1 ∧ f.n ≠ 0 ∧ M.Bd f k m2 z2) ∨ (1 < k ∧ ¬ k < q ∧ f.k ≠ 1 ∧ f.n = 0 ∧ f.x ≠ 0 ∧ M.Bd f k m2 z2) ∨ (1 < k ∧ ¬ k < q ∧ f.k = 1 ∧ m2 = 0 ∧ z2 = 0) ∨ (1 < k ∧ ¬ k < q ∧ f.k ≠ 1 ∧ f.n = 0 ∧ f.x = 0 ∧ m2 = 0 ∧ z2 = 0) := by
    unfold M.st at l2
    rcases Nat.lt_or_ge k q with e | e
    · rcases l2 with ⟨⟨h, _⟩, _⟩ | ⟨_, h⟩
      · omega
      · exact .inl ⟨e, h⟩
    · by_cases e1 : f.k = 1
      · rcases l2 with ⟨_, h2, h3⟩ | ⟨h, _⟩
        · exact .inr (.inr (.inr (.inl ⟨by omega, by omega, e1, h2, h3⟩)))
        · exact absurd ⟨by omega, .inr (.inl e1)⟩ h
      · by_cases e2 : f.n = 0
        · by_cases e3 : f.x = 0
          · rcases l2 with ⟨_, h2, h3⟩ | ⟨h, _⟩
            · exact .inr (.inr (.inr (.inr ⟨by omega, by omega, e1, e2, e3, h2, h3⟩)))
            · exact absurd ⟨by omega, .inr (.inr ⟨e2, e3⟩)⟩ h
          · rcases l2 with ⟨⟨_, h⟩, _⟩ | ⟨_, h⟩
            · omega
            · exact .inr (.inr (.inl ⟨by omega, by omega, e1, e2, e3, h⟩))
        · rcases l2 with ⟨⟨_, h⟩, _⟩ | ⟨_, h⟩
          · omega
          · exact .inr (.inl ⟨by omega, by omega, e1, e2, h⟩)
  clear hF hp hc hg hk hq h4 l1 l2 ok ok2 ok3 hev hf pb k0 km hi'
  
  rcases L1 with ⟨a1, b1⟩ | ⟨a1, a2, a3, b1⟩ | ⟨a1, a2, a3, rfl, rfl⟩ | ⟨a1, rfl, rfl⟩
  ·
    rcases L2 with ⟨c1, b2⟩ | ⟨_, c1, c2, c3, b2⟩ | ⟨_, c1, c2, c3, c4, b2⟩ | ⟨_, c1, c2, rfl, rfl⟩ | ⟨_, c1, c2, c3, c4, rfl, rfl⟩
    ·
      skip
      obtain ⟨k', hk'⟩ : ∃ k', k - 1 = k' := ⟨_, rfl⟩
      rw [hk'] at b1
      have e1 : IntKind.u64.wrap ((k : Int) - 1) = (k' : Int) := wrap_u64 (by omega) (by omega)
      have CA := Lib.hid (fun W => CB.out W k' (by omega) (by omega) m1 z1 b1)
      have hz1 := BZ.out k' m1 z1 (by omega) b1
      have CS1 := Lib.hid (fun W => rsize_any W m1 hz1.2.1 (by omega) z1)
      have CD := Lib.hid (fun W => CB.out W k kb kt m2 z2 b2)
      have hz2 := BZ.out k m2 z2 kt b2
      have CS2 := Lib.hid (fun W => rsize_any W m2 hz2.2.1 (by omega) z2)
      clear CB BZ kt qt b1 hk' hz1 b2 hz2
      have U := Up.refl w
      go_enter Tryz.func15, Tryz.ntmps15
      go_wp2_with fail
      obtain ⟨V1, hV1⟩ : ∃ V1, w.alloc (.cells #[.bool false, .slice none 0 0, .int .i64 0, .int .i64 0] 25) = V1 := ⟨_, rfl⟩
      have sV1 : V1.heap.size = w.heap.size + 1 := by rw [← hV1]; exact Array.size_push _
      have R1 : Ob V1 w.heap.size 25 #[.bool false, .slice none 0 0, .int .i64 0, .int .i64 0] := by rw [← hV1]; exact Ob.mk_ _ _ _
      have uV1 : Up w V1 := by rw [← hV1]; exact (Up.refl _).alloc _
      have ltR1 : w.heap.size ≤ w.heap.size := U.size
      have ltR2 : w.heap.size ≤ w.heap.size + 1 := Nat.le_succ_of_le U.size
      rw [hV1]
      clear hV1
      obtain ⟨V2, hV2⟩ : ∃ V2, V1.alloc (.cells #[.bool false, .slice none 0 0, .int .i64 0, .int .i64 0] 25) = V2 := ⟨_, rfl⟩
      have R2 : Ob V2 (w.heap.size + 1) 25 #[.bool false, .slice none 0 0, .int .i64 0, .int .i64 0] := by rw [← sV1, ← hV2]; exact Ob.mk_ _ _ _
      have uV2 : Up V1 V2 := by rw [← hV2]; exact (Up.refl _).alloc _
      rw [hV2]
      clear hV2 sV1
      replace R1 := R1.up uV2
      replace uV2 := uV1.trans uV2
      clear uV1
      replace U := U.trans uV2
      clear uV2
      refine (CF.out _).mono ?_
      rintro _ w3 ⟨rfl, h3⟩
      replace U := U.trans h3
      replace R1 := R1.up h3
      replace R2 := R2.up h3
      clear h3
      go_wp2_with fail
      obtain ⟨V4, hV4⟩ : ∃ V4, w3.alloc (.cells #[.int .i64 f.k, .int .i64 f.W, .int .i64 f.m, .int .i64 f.b, .int .u64 f.t, .int .u64 f.n, .int .u64 f.x] 35) = V4 := ⟨_, rfl⟩
      have C : Bf V4 w3.heap.size 35 f := by rw [← hV4]; exact Bf.mk_ w3 f 35
      have ltC : w.heap.size ≤ w3.heap.size := U.size
      have uV4 : Up w3 V4 := by rw [← hV4]; exact (Up.refl _).alloc _
      rw [hV4]
      clear hV4
      replace U := U.trans uV4
      replace R1 := R1.up uV4
      replace R2 := R2.up uV4
      clear uV4
      refine (CK.out _).mono ?_
      rintro _ w5 ⟨rfl, h5⟩
      replace U := U.trans h5
      replace C := C.up h5
      replace R1 := R1.up h5
      replace R2 := R2.up h5
      clear h5
      go_wp2_with fail
      refine (CM.out _).mono ?_
      rintro _ w6 ⟨rfl, h6⟩
      replace U := U.trans h6
      replace C := C.up h6
      replace R1 := R1.up h6
      replace R2 := R2.up h6
      clear h6
      have hAR1 := R1.lt
      have hAR2 := R2.lt
      have hAC := Bf.lt C
      obtain ⟨C0, C1, C2, C3, C4, C5, C6⟩ := Bf.cs C
      have C7 := Bf.lt C
      simp only [Nat.zero_add] at C0 C1 C2 C3 C4 C5 C6 C7
      go_wp2_with fail
      clear C0 C1 C2 C3 C4 C5 C6 C7
      obtain ⟨V7, hV7⟩ : ∃ V7, w6.alloc (.cells #[.bool false, .slice none 0 0, .int .i64 0, .int .i64 0] 25) = V7 := ⟨_, rfl⟩
      have A : Ob V7 w6.heap.size 25 #[.bool false, .slice none 0 0, .int .i64 0, .int .i64 0] := by rw [← hV7]; exact Ob.mk_ _ _ _
      have uV7 : Up w6 V7 := by rw [← hV7]; exact (Up.refl _).alloc _
      have ltA : w.heap.size ≤ w6.heap.size := U.size
      rw [hV7]
      clear hV7
      replace U := U.trans uV7
      replace C := C.up uV7
      replace R1 := R1.up uV7
      replace R2 := R2.up uV7
      clear uV7
      refine (CA.out _).mono ?_
      rintro _ w8 ⟨rfl, h8⟩
      replace U := U.trans h8
      replace C := C.up h8
      replace R1 := R1.up h8
      replace R2 := R2.up h8
      replace A := A.up h8
      clear h8
      go_wp2_with fail
      have gN := A.lt
      refine (CS1.out _).mono ?_
      rintro _ w9 ⟨_, rfl, ⟨A1, n1, k1, ys1, rfl, N⟩, h9⟩
      replace U := U.trans h9
      replace C := C.up h9
      replace R1 := R1.up h9
      replace R2 := R2.up h9
      replace A := A.up h9
      clear h9
      replace N : Nt w9 _ 1 (.slice A1 n1 k1) m1 := ⟨_, _, _, _, rfl, N⟩
      have C7 := C
      go_upto_region 8 with (refine store_ob2 rfl 25 (.tmp 14) (.tmp 62) rfl _ #[.bool false, .slice none 0 0, .int .i64 0, .int .i64 0] #[.bool false, .slice A1 n1 k1, .int .i64 z1, .int .i64 0] rfl rfl 4 (by kernel_rfl) rfl rfl (by simp [Value.oneCell']) w U ltA 25 A ?_; clear U; intro VA Z9 U ho; replace N := Nt.other N ho (by omega); replace R1 := Ob.oth R1 ho (by omega); replace R2 := Ob.oth R2 ho (by omega); replace C := Bf.oth C7 ho (by omega); clear ho A C7; have A := Z9; clear Z9)
      have hB := A.lt
      have UA := Up.refl VA
      have UV := U
      have NV := N
      have R1V := R1
      have R2V := R2
      have AV := A
      obtain ⟨C0, C1, C2, C3, C4, C5, C6⟩ := Bf.cs C
      have C7 := Bf.lt C
      simp only [Nat.zero_add] at C0 C1 C2 C3 C4 C5 C6 C7
      go_wp2_with fail
      clear C0 C1 C2 C3 C4 C5 C6 C7
      obtain ⟨V10, hV10⟩ : ∃ V10, VA.alloc (.cells #[.bool false, .slice none 0 0, .int .i64 0, .int .i64 0] 25) = V10 := ⟨_, rfl⟩
      have B : Ob V10 VA.heap.size 25 #[.bool false, .slice none 0 0, .int .i64 0, .int .i64 0] := by rw [← hV10]; exact Ob.mk_ _ _ _
      have uV10 : Up VA V10 := by rw [← hV10]; exact (Up.refl _).alloc _
      have ltB : w.heap.size ≤ VA.heap.size := U.size
      rw [hV10]
      clear hV10
      replace U := U.trans uV10
      replace C := C.up uV10
      replace R1 := R1.up uV10
      replace R2 := R2.up uV10
      replace A := A.up uV10
      replace N := N.up uV10
      replace UA := UA.trans uV10
      clear uV10
      refine (CD.out _).mono ?_
      rintro _ w11 ⟨rfl, h11⟩
      replace U := U.trans h11
      replace C := C.up h11
      replace R1 := R1.up h11
      replace R2 := R2.up h11
      replace A := A.up h11
      replace B := B.up h11
      replace N := N.up h11
      replace UA := UA.trans h11
      clear h11
      go_wp2_with fail
      have gM := B.lt
      refine (CS2.out _).mono ?_
      rintro _ w12 ⟨_, rfl, ⟨A2, n2, k2, ys2, rfl, N2⟩, h12⟩
      replace U := U.trans h12
      replace C := C.up h12
      replace R1 := R1.up h12
      replace R2 := R2.up h12
      replace A := A.up h12
      replace B := B.up h12
      replace N := N.up h12
      replace UA := UA.trans h12
      clear h12
      replace N2 : Nt w12 _ 1 (.slice A2 n2 k2) m2 := ⟨_, _, _, _, rfl, N2⟩
      go_upto_region 12 with (refine store_ob2 rfl 25 (.tmp 18) (.tmp 91) rfl _ #[.bool false, .slice none 0 0, .int .i64 0, .int .i64 0] #[.bool false, .slice A2 n2 k2, .int .i64 z2, .int .i64 0] rfl rfl 4 (by kernel_rfl) rfl rfl (by simp [Value.oneCell']) VA UA (Nat.le_refl _) 25 B ?_; intro VB Z9 UB ho; replace N2 := Nt.other N2 ho (by omega); replace U := UV.trans UB; replace N := NV.up UB; replace R1 := R1V.up UB; replace R2 := R2V.up UB; replace A := AV.up UB; clear ho B UA; have B := Z9; clear Z9)
      clear UV NV R1V R2V AV UB
      clear C
      refine wp_region_held_drew (S := fun w' => Ob w' (w6.heap.size) 25 #[.bool false, .slice A1 n1 k1, .int .i64 z1, .int .i64 0] ∧ Ob w' (VA.heap.size) 25 #[.bool false, .slice A2 n2 k2, .int .i64 z2, .int .i64 0]) (by kernel_rfl) ⟨A.up ((Up.refl _).drew), B.up ((Up.refl _).drew)⟩ (fun hHeld => ?_)
      refine wpAnyH_take (i := 0) (v := ?_) rfl (by kernel_rfl) (by kernel_rfl) (by kernel_rfl) (fun _ _ _ h => h) (Or.inl ⟨by rfl, ?_⟩) (by assumption) ?_
      rotate_left
      · intro w hSw
        obtain ⟨hA, hB⟩ := hSw
        have A0 := hA.get 0
        have A1 := hA.get 1
        have A2 := hA.get 2
        have A3 := hA.get 3
        simp only [List.getElem?_toArray, List.getElem?_cons_zero, List.getElem?_cons_succ] at A0 A1 A2 A3
        have B0 := hB.get 0
        have B1 := hB.get 1
        have B2 := hB.get 2
        have B3 := hB.get 3
        simp only [List.getElem?_toArray, List.getElem?_cons_zero, List.getElem?_cons_succ] at B0 B1 B2 B3
        go_simp
        all_goals with_reducible rfl
      try simp only [Act.put, List.setIfInBounds_toArray, List.set_cons_zero, List.set_cons_succ, List.getElem_toArray, List.getElem_cons_zero, List.getElem_cons_succ]
      refine wpAnyH_take (i := 1) (v := ?_) rfl (by kernel_rfl) (by kernel_rfl) (by kernel_rfl) (fun _ _ _ h => h) (Or.inl ⟨by rfl, ?_⟩) (by assumption) ?_
      rotate_left
      · intro w hSw
        obtain ⟨hA, hB⟩ := hSw
        have A0 := hA.get 0
        have A1 := hA.get 1
        have A2 := hA.get 2
        have A3 := hA.get 3
        simp only [List.getElem?_toArray, List.getElem?_cons_zero, List.getElem?_cons_succ] at A0 A1 A2 A3
        have B0 := hB.get 0
        have B1 := hB.get 1
        have B2 := hB.get 2
        have B3 := hB.get 3
        simp only [List.getElem?_toArray, List.getElem?_cons_zero, List.getElem?_cons_succ] at B0 B1 B2 B3
        go_simp
        all_goals with_reducible rfl
      try simp only [Act.put, List.setIfInBounds_toArray, List.set_cons_zero, List.set_cons_succ, List.getElem_toArray, List.getElem_cons_zero, List.getElem_cons_succ]
      refine wpAnyH_take (i := 2) (v := ?_) rfl (by kernel_rfl) (by kernel_rfl) (by kernel_rfl) (fun _ _ _ h => h) (Or.inl ⟨by rfl, ?_⟩) (by assumption) ?_
      rotate_left
      · intro w hSw
        obtain ⟨hA, hB⟩ := hSw
        have A0 := hA.get 0
        have A1 := hA.get 1
        have A2 := hA.get 2
        have A3 := hA.get 3
        simp only [List.getElem?_toArray, List.getElem?_cons_zero, List.getElem?_cons_succ] at A0 A1 A2 A3
        have B0 := hB.get 0
        have B1 := hB.get 1
        have B2 := hB.get 2
        have B3 := hB.get 3
        simp only [List.getElem?_toArray, List.getElem?_cons_zero, List.getElem?_cons_succ] at B0 B1 B2 B3
        go_simp
        all_goals with_reducible rfl
      try simp only [Act.put, List.setIfInBounds_toArray, List.set_cons_zero, List.set_cons_succ, List.getElem_toArray, List.getElem_cons_zero, List.getElem_cons_succ]
      refine wpAnyH_take (i := 3) (v := ?_) rfl (by kernel_rfl) (by kernel_rfl) (by kernel_rfl) (fun _ _ _ h => h) (Or.inl ⟨by rfl, ?_⟩) (by assumption) ?_
      rotate_left
      · intro w hSw
        obtain ⟨hA, hB⟩ := hSw
        have A0 := hA.get 0
        have A1 := hA.get 1
        have A2 := hA.get 2
        have A3 := hA.get 3
        simp only [List.getElem?_toArray, List.getElem?_cons_zero, List.getElem?_cons_succ] at A0 A1 A2 A3
        have B0 := hB.get 0
        have B1 := hB.get 1
        have B2 := hB.get 2
        have B3 := hB.get 3
        simp only [List.getElem?_toArray, List.getElem?_cons_zero, List.getElem?_cons_succ] at B0 B1 B2 B3
        go_simp
        all_goals with_reducible rfl
      try simp only [Act.put, List.setIfInBounds_toArray, List.set_cons_zero, List.set_cons_succ, List.getElem_toArray, List.getElem_cons_zero, List.getElem_cons_succ]
      refine wpAnyH_take (i := 4) (v := ?_) rfl (by kernel_rfl) (by kernel_rfl) (by kernel_rfl) (fun _ _ _ h => h) (Or.inl ⟨by rfl, ?_⟩) (by assumption) ?_
      rotate_left
      · intro w hSw
        obtain ⟨hA, hB⟩ := hSw
        have A0 := hA.get 0
        have A1 := hA.get 1
        have A2 := hA.get 2
        have A3 := hA.get 3
        simp only [List.getElem?_toArray, List.getElem?_cons_zero, List.getElem?_cons_succ] at A0 A1 A2 A3
        have B0 := hB.get 0
        have B1 := hB.get 1
        have B2 := hB.get 2
        have B3 := hB.get 3
        simp only [List.getElem?_toArray, List.getElem?_cons_zero, List.getElem?_cons_succ] at B0 B1 B2 B3
        go_simp
        all_goals with_reducible rfl
      try simp only [Act.put, List.setIfInBounds_toArray, List.set_cons_zero, List.set_cons_succ, List.getElem_toArray, List.getElem_cons_zero, List.getElem_cons_succ]
      replace R1 := R1.up ((Up.refl _).drew)
      replace R2 := R2.up ((Up.refl _).drew)
      replace A := A.up ((Up.refl _).drew)
      replace B := B.up ((Up.refl _).drew)
      replace U := U.drew
      replace N := N.up ((Up.refl _).drew)
      replace N2 := N2.up ((Up.refl _).drew)
      clear hHeld
      refine wpAnyH_ready (rs := [5]) (by kernel_rfl) (by simp) ?_
      refine AllReadyH.cons rfl (fun K hK => ?_) AllReadyH.nil
      rw [if_pos (by rfl)]
      refine wp_store_row 25 (.tmp 4) (.tmp 92) rfl w.heap.size #[.bool false, .slice A1 n1 k1, .int .i64 z1, .int .i64 0] rfl rfl 25 #[.bool false, .slice none 0 0, .int .i64 0, .int .i64 0] R1 (by kernel_rfl) rfl (by simp [Value.oneCell']) ?_
      have oS : ∀ b', b' ≠ w.heap.size → (VB.drew.setRow w.heap.size #[.bool false, .slice A1 n1 k1, .int .i64 z1, .int .i64 0]).heap[b']? = VB.drew.heap[b']? := fun b' h => setRow_other _ _ _ _ h
      replace R1 : Ob (VB.drew.setRow w.heap.size #[.bool false, .slice A1 n1 k1, .int .i64 z1, .int .i64 0]) w.heap.size 25 #[.bool false, .slice A1 n1 k1, .int .i64 z1, .int .i64 0] := setRow_heap _ _ _ _ _ _ R1
      replace U : Up w (VB.drew.setRow w.heap.size #[.bool false, .slice A1 n1 k1, .int .i64 z1, .int .i64 0]) := U.setRow_ ltR1 _
      replace R2 := Ob.oth R2 oS (by omega)
      replace A := Ob.oth A oS (by omega)
      replace B := Ob.oth B oS (by omega)
      replace N := Nt.other N oS (by omega)
      replace N2 := Nt.other N2 oS (by omega)
      refine hK.out _ _ ⟨A, B⟩ (fun _ => ?_)
      try simp only [Act.put, List.setIfInBounds_toArray, List.set_cons_zero, List.set_cons_succ, List.getElem_toArray, List.getElem_cons_zero, List.getElem_cons_succ]
      clear hK oS
      obtain ⟨VC, hVC⟩ : ∃ VC, VB.drew.setRow w.heap.size #[.bool false, .slice A1 n1 k1, .int .i64 z1, .int .i64 0] = VC := ⟨_, rfl⟩
      rw [hVC] at U R1 R2 A B N N2 ⊢
      clear hVC
      refine wpAnyH_ready (rs := [6]) (by kernel_rfl) (by simp) ?_
      refine AllReadyH.cons rfl (fun K hK => ?_) AllReadyH.nil
      rw [if_pos (by rfl)]
      refine wp_store_row 25 (.tmp 5) (.tmp 93) rfl (w.heap.size + 1) #[.bool false, .slice A2 n2 k2, .int .i64 z2, .int .i64 0] rfl rfl 25 #[.bool false, .slice none 0 0, .int .i64 0, .int .i64 0] R2 (by kernel_rfl) rfl (by simp [Value.oneCell']) ?_
      have oS : ∀ b', b' ≠ (w.heap.size + 1) → (VC.setRow (w.heap.size + 1) #[.bool false, .slice A2 n2 k2, .int .i64 z2, .int .i64 0]).heap[b']? = VC.heap[b']? := fun b' h => setRow_other _ _ _ _ h
      replace R2 : Ob (VC.setRow (w.heap.size + 1) #[.bool false, .slice A2 n2 k2, .int .i64 z2, .int .i64 0]) (w.heap.size + 1) 25 #[.bool false, .slice A2 n2 k2, .int .i64 z2, .int .i64 0] := setRow_heap _ _ _ _ _ _ R2
      replace U : Up w (VC.setRow (w.heap.size + 1) #[.bool false, .slice A2 n2 k2, .int .i64 z2, .int .i64 0]) := U.setRow_ ltR2 _
      replace R1 := Ob.oth R1 oS (by omega)
      replace A := Ob.oth A oS (by omega)
      replace B := Ob.oth B oS (by omega)
      replace N := Nt.other N oS (by omega)
      replace N2 := Nt.other N2 oS (by omega)
      refine hK.out _ _ ⟨A, B⟩ (fun _ => ?_)
      try simp only [Act.put, List.setIfInBounds_toArray, List.set_cons_zero, List.set_cons_succ, List.getElem_toArray, List.getElem_cons_zero, List.getElem_cons_succ]
      clear hK oS
      obtain ⟨VD, hVD⟩ : ∃ VD, VC.setRow (w.heap.size + 1) #[.bool false, .slice A2 n2 k2, .int .i64 z2, .int .i64 0] = VD := ⟨_, rfl⟩
      rw [hVD] at U R1 R2 A B N N2 ⊢
      clear hVD
      refine wpAnyH_ready (rs := [7]) (by kernel_rfl) (by simp) ?_
      refine AllReadyH.cons rfl (fun K hK => ?_) AllReadyH.nil
      go_simp
      refine hK.out _ _ ⟨A, B⟩ (fun _ => ?_)
      try simp only [Act.put, List.setIfInBounds_toArray, List.set_cons_zero, List.set_cons_succ, List.getElem_toArray, List.getElem_cons_zero, List.getElem_cons_succ]
      clear hK
      refine wpAnyH_done (by kernel_rfl) ?_ _
      go_wp2_with fail
      have yy0 := R1.get 0
      have yy1 := R1.get 1
      have yy2 := R1.get 2
      have yy3 := R1.get 3
      simp only [List.getElem?_toArray, List.getElem?_cons_zero, List.getElem?_cons_succ] at yy0 yy1 yy2 yy3
      have zz0 := R2.get 0
      have zz1 := R2.get 1
      have zz2 := R2.get 2
      have zz3 := R2.get 3
      simp only [List.getElem?_toArray, List.getElem?_cons_zero, List.getElem?_cons_succ] at zz0 zz1 zz2 zz3
      refine bodyPost_ret (v := .tuple #[xv false (.slice A1 n1 k1) z1 0, xv false (.slice A2 n2 k2) z2 0, .bool ev]) (by simp [results, Tryz.results15, go_sem, em, yy0, yy1, yy2, yy3, zz0, zz1, zz2, zz3]) rfl ?_
      exact ⟨_, _, rfl, N.lower (by omega), N2.lower (by omega), U⟩
    ·
      have k1 : (f.k != 1) = true := by simpa using c2
      have n0 : (f.n != 0) = true := by simpa using c3
      clear c2 c3
      obtain ⟨k', hk'⟩ : ∃ k', k - 1 = k' := ⟨_, rfl⟩
      rw [hk'] at b1
      have e1 : IntKind.u64.wrap ((k : Int) - 1) = (k' : Int) := wrap_u64 (by omega) (by omega)
      have CA := Lib.hid (fun W => CB.out W k' (by omega) (by omega) m1 z1 b1)
      have hz1 := BZ.out k' m1 z1 (by omega) b1
      have CS1 := Lib.hid (fun W => rsize_any W m1 hz1.2.1 (by omega) z1)
      have CD := Lib.hid (fun W => CB.out W k kb kt m2 z2 b2)
      have hz2 := BZ.out k m2 z2 kt b2
      have CS2 := Lib.hid (fun W => rsize_any W m2 hz2.2.1 (by omega) z2)
      clear CB BZ kt qt b1 hk' hz1 b2 hz2
      have U := Up.refl w
      go_enter Tryz.func15, Tryz.ntmps15
      go_wp2_with fail
      obtain ⟨V1, hV1⟩ : ∃ V1, w.alloc (.cells #[.bool false, .slice none 0 0, .int .i64 0, .int .i64 0] 25) = V1 := ⟨_, rfl⟩
      have sV1 : V1.heap.size = w.heap.size + 1 := by rw [← hV1]; exact Array.size_push _
      have R1 : Ob V1 w.heap.size 25 #[.bool false, .slice none 0 0, .int .i64 0, .int .i64 0] := by rw [← hV1]; exact Ob.mk_ _ _ _
      have uV1 : Up w V1 := by rw [← hV1]; exact (Up.refl _).alloc _
      have ltR1 : w.heap.size ≤ w.heap.size := U.size
      have ltR2 : w.heap.size ≤ w.heap.size + 1 := Nat.le_succ_of_le U.size
      rw [hV1]
      clear hV1
      obtain ⟨V2, hV2⟩ : ∃ V2, V1.alloc (.cells #[.bool false, .slice none 0 0, .int .i64 0, .int .i64 0] 25) = V2 := ⟨_, rfl⟩
      have R2 : Ob V2 (w.heap.size + 1) 25 #[.bool false, .slice none 0 0, .int .i64 0, .int .i64 0] := by rw [← sV1, ← hV2]; exact Ob.mk_ _ _ _
      have uV2 : Up V1 V2 := by rw [← hV2]; exact (Up.refl _).alloc _
      rw [hV2]
      clear hV2 sV1
      replace R1 := R1.up uV2
      replace uV2 := uV1.trans uV2
      clear uV1
      replace U := U.trans uV2
      clear uV2
      refine (CF.out _).mono ?_
      rintro _ w3 ⟨rfl, h3⟩
      replace U := U.trans h3
      replace R1 := R1.up h3
      replace R2 := R2.up h3
      clear h3
      go_wp2_with fail
      obtain ⟨V4, hV4⟩ : ∃ V4, w3.alloc (.cells #[.int .i64 f.k, .int .i64 f.W, .int .i64 f.m, .int .i64 f.b, .int .u64 f.t, .int .u64 f.n, .int .u64 f.x] 35) = V4 := ⟨_, rfl⟩
      have C : Bf V4 w3.heap.size 35 f := by rw [← hV4]; exact Bf.mk_ w3 f 35
      have ltC : w.heap.size ≤ w3.heap.size := U.size
      have uV4 : Up w3 V4 := by rw [← hV4]; exact (Up.refl _).alloc _
      rw [hV4]
      clear hV4
      replace U := U.trans uV4
      replace R1 := R1.up uV4
      replace R2 := R2.up uV4
      clear uV4
      refine (CK.out _).mono ?_
      rintro _ w5 ⟨rfl, h5⟩
      replace U := U.trans h5
      replace C := C.up h5
      replace R1 := R1.up h5
      replace R2 := R2.up h5
      clear h5
      go_wp2_with fail
      refine (CM.out _).mono ?_
      rintro _ w6 ⟨rfl, h6⟩
      replace U := U.trans h6
      replace C := C.up h6
      replace R1 := R1.up h6
      replace R2 := R2.up h6
      clear h6
      have hAR1 := R1.lt
      have hAR2 := R2.lt
      have hAC := Bf.lt C
      obtain ⟨C0, C1, C2, C3, C4, C5, C6⟩ := Bf.cs C
      have C7 := Bf.lt C
      simp only [Nat.zero_add] at C0 C1 C2 C3 C4 C5 C6 C7
      go_wp2_with fail
      clear C0 C1 C2 C3 C4 C5 C6 C7
      obtain ⟨V7, hV7⟩ : ∃ V7, w6.alloc (.cells #[.bool false, .slice none 0 0, .int .i64 0, .int .i64 0] 25) = V7 := ⟨_, rfl⟩
      have A : Ob V7 w6.heap.size 25 #[.bool false, .slice none 0 0, .int .i64 0, .int .i64 0] := by rw [← hV7]; exact Ob.mk_ _ _ _
      have uV7 : Up w6 V7 := by rw [← hV7]; exact (Up.refl _).alloc _
      have ltA : w.heap.size ≤ w6.heap.size := U.size
      rw [hV7]
      clear hV7
      replace U := U.trans uV7
      replace C := C.up uV7
      replace R1 := R1.up uV7
      replace R2 := R2.up uV7
      clear uV7
      refine (CA.out _).mono ?_
      rintro _ w8 ⟨rfl, h8⟩
      replace U := U.trans h8
      replace C := C.up h8
      replace R1 := R1.up h8
      replace R2 := R2.up h8
      replace A := A.up h8
      clear h8
      go_wp2_with fail
      have gN := A.lt
      refine (CS1.out _).mono ?_
      rintro _ w9 ⟨_, rfl, ⟨A1, n1, k1, ys1, rfl, N⟩, h9⟩
      replace U := U.trans h9
      replace C := C.up h9
      replace R1 := R1.up h9
      replace R2 := R2.up h9
      replace A := A.up h9
      clear h9
      replace N : Nt w9 _ 1 (.slice A1 n1 k1) m1 := ⟨_, _, _, _, rfl, N⟩
      have C7 := C
      go_upto_region 8 with (refine store_ob2 rfl 25 (.tmp 14) (.tmp 62) rfl _ #[.bool false, .slice none 0 0, .int .i64 0, .int .i64 0] #[.bool false, .slice A1 n1 k1, .int .i64 z1, .int .i64 0] rfl rfl 4 (by kernel_rfl) rfl rfl (by simp [Value.oneCell']) w U ltA 25 A ?_; clear U; intro VA Z9 U ho; replace N := Nt.other N ho (by omega); replace R1 := Ob.oth R1 ho (by omega); replace R2 := Ob.oth R2 ho (by omega); replace C := Bf.oth C7 ho (by omega); clear ho A C7; have A := Z9; clear Z9)
      have hB := A.lt
      have UA := Up.refl VA
      have UV := U
      have NV := N
      have R1V := R1
      have R2V := R2
      have AV := A
      obtain ⟨C0, C1, C2, C3, C4, C5, C6⟩ := Bf.cs C
      have C7 := Bf.lt C
      simp only [Nat.zero_add] at C0 C1 C2 C3 C4 C5 C6 C7
      go_wp2_with fail
      clear C0 C1 C2 C3 C4 C5 C6 C7
      obtain ⟨V10, hV10⟩ : ∃ V10, VA.alloc (.cells #[.bool false, .slice none 0 0, .int .i64 0, .int .i64 0] 25) = V10 := ⟨_, rfl⟩
      have B : Ob V10 VA.heap.size 25 #[.bool false, .slice none 0 0, .int .i64 0, .int .i64 0] := by rw [← hV10]; exact Ob.mk_ _ _ _
      have uV10 : Up VA V10 := by rw [← hV10]; exact (Up.refl _).alloc _
      have ltB : w.heap.size ≤ VA.heap.size := U.size
      rw [hV10]
      clear hV10
      replace U := U.trans uV10
      replace C := C.up uV10
      replace R1 := R1.up uV10
      replace R2 := R2.up uV10
      replace A := A.up uV10
      replace N := N.up uV10
      replace UA := UA.trans uV10
      clear uV10
      refine (CD.out _).mono ?_
      rintro _ w11 ⟨rfl, h11⟩
      replace U := U.trans h11
      replace C := C.up h11
      replace R1 := R1.up h11
      replace R2 := R2.up h11
      replace A := A.up h11
      replace B := B.up h11
      replace N := N.up h11
      replace UA := UA.trans h11
      clear h11
      go_wp2_with fail
      have gM := B.lt
      refine (CS2.out _).mono ?_
      rintro _ w12 ⟨_, rfl, ⟨A2, n2, k2, ys2, rfl, N2⟩, h12⟩
      replace U := U.trans h12
      replace C := C.up h12
      replace R1 := R1.up h12
      replace R2 := R2.up h12
      replace A := A.up h12
      replace B := B.up h12
      replace N := N.up h12
      replace UA := UA.trans h12
      clear h12
      replace N2 : Nt w12 _ 1 (.slice A2 n2 k2) m2 := ⟨_, _, _, _, rfl, N2⟩
      go_upto_region 12 with (refine store_ob2 rfl 25 (.tmp 18) (.tmp 91) rfl _ #[.bool false, .slice none 0 0, .int .i64 0, .int .i64 0] #[.bool false, .slice A2 n2 k2, .int .i64 z2, .int .i64 0] rfl rfl 4 (by kernel_rfl) rfl rfl (by simp [Value.oneCell']) VA UA (Nat.le_refl _) 25 B ?_; intro VB Z9 UB ho; replace N2 := Nt.other N2 ho (by omega); replace U := UV.trans UB; replace N := NV.up UB; replace R1 := R1V.up UB; replace R2 := R2V.up UB; replace A := AV.up UB; clear ho B UA; have B := Z9; clear Z9)
      clear UV NV R1V R2V AV UB
      clear C
      refine wp_region_held_drew (S := fun w' => Ob w' (w6.heap.size) 25 #[.bool false, .slice A1 n1 k1, .int .i64 z1, .int .i64 0] ∧ Ob w' (VA.heap.size) 25 #[.bool false, .slice A2 n2 k2, .int .i64 z2, .int .i64 0]) (by kernel_rfl) ⟨A.up ((Up.refl _).drew), B.up ((Up.refl _).drew)⟩ (fun hHeld => ?_)
      refine wpAnyH_take (i := 0) (v := ?_) rfl (by kernel_rfl) (by kernel_rfl) (by kernel_rfl) (fun _ _ _ h => h) (Or.inl ⟨by rfl, ?_⟩) (by assumption) ?_
      rotate_left
      · intro w hSw
        obtain ⟨hA, hB⟩ := hSw
        have A0 := hA.get 0
        have A1 := hA.get 1
        have A2 := hA.get 2
        have A3 := hA.get 3
        simp only [List.getElem?_toArray, List.getElem?_cons_zero, List.getElem?_cons_succ] at A0 A1 A2 A3
        have B0 := hB.get 0
        have B1 := hB.get 1
        have B2 := hB.get 2
        have B3 := hB.get 3
        simp only [List.getElem?_toArray, List.getElem?_cons_zero, List.getElem?_cons_succ] at B0 B1 B2 B3
        go_simp
        all_goals with_reducible rfl
      try simp only [Act.put, List.setIfInBounds_toArray, List.set_cons_zero, List.set_cons_succ, List.getElem_toArray, List.getElem_cons_zero, List.getElem_cons_succ]
      refine wpAnyH_take (i := 1) (v := ?_) rfl (by kernel_rfl) (by kernel_rfl) (by kernel_rfl) (fun _ _ _ h => h) (Or.inl ⟨by rfl, ?_⟩) (by assumption) ?_
      rotate_left
      · intro w hSw
        obtain ⟨hA, hB⟩ := hSw
        have A0 := hA.get 0
        have A1 := hA.get 1
        have A2 := hA.get 2
        have A3 := hA.get 3
        simp only [List.getElem?_toArray, List.getElem?_cons_zero, List.getElem?_cons_succ] at A0 A1 A2 A3
        have B0 := hB.get 0
        have B1 := hB.get 1
        have B2 := hB.get 2
        have B3 := hB.get 3
        simp only [List.getElem?_toArray, List.getElem?_cons_zero, List.getElem?_cons_succ] at B0 B1 B2 B3
        go_simp
        all_goals with_reducible rfl
      try simp only [Act.put, List.setIfInBounds_toArray, List.set_cons_zero, List.set_cons_succ, List.getElem_toArray, List.getElem_cons_zero, List.getElem_cons_succ]
      refine wpAnyH_take (i := 2) (v := ?_) rfl (by kernel_rfl) (by kernel_rfl) (by kernel_rfl) (fun _ _ _ h => h) (Or.inl ⟨by rfl, ?_⟩) (by assumption) ?_
      rotate_left
      · intro w hSw
        obtain ⟨hA, hB⟩ := hSw
        have A0 := hA.get 0
        have A1 := hA.get 1
        have A2 := hA.get 2
        have A3 := hA.get 3
        simp only [List.getElem?_toArray, List.getElem?_cons_zero, List.getElem?_cons_succ] at A0 A1 A2 A3
        have B0 := hB.get 0
        have B1 := hB.get 1
        have B2 := hB.get 2
        have B3 := hB.get 3
        simp only [List.getElem?_toArray, List.getElem?_cons_zero, List.getElem?_cons_succ] at B0 B1 B2 B3
        go_simp
        all_goals with_reducible rfl
      try simp only [Act.put, List.setIfInBounds_toArray, List.set_cons_zero, List.set_cons_succ, List.getElem_toArray, List.getElem_cons_zero, List.getElem_cons_succ]
      refine wpAnyH_take (i := 3) (v := ?_) rfl (by kernel_rfl) (by kernel_rfl) (by kernel_rfl) (fun _ _ _ h => h) (Or.inl ⟨by rfl, ?_⟩) (by assumption) ?_
      rotate_left
      · intro w hSw
        obtain ⟨hA, hB⟩ := hSw
        have A0 := hA.get 0
        have A1 := hA.get 1
        have A2 := hA.get 2
        have A3 := hA.get 3
        simp only [List.getElem?_toArray, List.getElem?_cons_zero, List.getElem?_cons_succ] at A0 A1 A2 A3
        have B0 := hB.get 0
        have B1 := hB.get 1
        have B2 := hB.get 2
        have B3 := hB.get 3
        simp only [List.getElem?_toArray, List.getElem?_cons_zero, List.getElem?_cons_succ] at B0 B1 B2 B3
        go_simp
        all_goals with_reducible rfl
      try simp only [Act.put, List.setIfInBounds_toArray, List.set_cons_zero, List.set_cons_succ, List.getElem_toArray, List.getElem_cons_zero, List.getElem_cons_succ]
      refine wpAnyH_take (i := 4) (v := ?_) rfl (by kernel_rfl) (by kernel_rfl) (by kernel_rfl) (fun _ _ _ h => h) (Or.inl ⟨by rfl, ?_⟩) (by assumption) ?_
      rotate_left
      · intro w hSw
        obtain ⟨hA, hB⟩ := hSw
        have A0 := hA.get 0
        have A1 := hA.get 1
        have A2 := hA.get 2
        have A3 := hA.get 3
        simp only [List.getElem?_toArray, List.getElem?_cons_zero, List.getElem?_cons_succ] at A0 A1 A2 A3
        have B0 := hB.get 0
        have B1 := hB.get 1
        have B2 := hB.get 2
        have B3 := hB.get 3
        simp only [List.getElem?_toArray, List.getElem?_cons_zero, List.getElem?_cons_succ] at B0 B1 B2 B3
        go_simp
        all_goals with_reducible rfl
      try simp only [Act.put, List.setIfInBounds_toArray, List.set_cons_zero, List.set_cons_succ, List.getElem_toArray, List.getElem_cons_zero, List.getElem_cons_succ]
      replace R1 := R1.up ((Up.refl _).drew)
      replace R2 := R2.up ((Up.refl _).drew)
      replace A := A.up ((Up.refl _).drew)
      replace B := B.up ((Up.refl _).drew)
      replace U := U.drew
      replace N := N.up ((Up.refl _).drew)
      replace N2 := N2.up ((Up.refl _).drew)
      clear hHeld
      refine wpAnyH_ready (rs := [5]) (by kernel_rfl) (by simp) ?_
      refine AllReadyH.cons rfl (fun K hK => ?_) AllReadyH.nil
      rw [if_pos (by rfl)]
      refine wp_store_row 25 (.tmp 4) (.tmp 92) rfl w.heap.size #[.bool false, .slice A1 n1 k1, .int .i64 z1, .int .i64 0] rfl rfl 25 #[.bool false, .slice none 0 0, .int .i64 0, .int .i64 0] R1 (by kernel_rfl) rfl (by simp [Value.oneCell']) ?_
      have oS : ∀ b', b' ≠ w.heap.size → (VB.drew.setRow w.heap.size #[.bool false, .slice A1 n1 k1, .int .i64 z1, .int .i64 0]).heap[b']? = VB.drew.heap[b']? := fun b' h => setRow_other _ _ _ _ h
      replace R1 : Ob (VB.drew.setRow w.heap.size #[.bool false, .slice A1 n1 k1, .int .i64 z1, .int .i64 0]) w.heap.size 25 #[.bool false, .slice A1 n1 k1, .int .i64 z1, .int .i64 0] := setRow_heap _ _ _ _ _ _ R1
      replace U : Up w (VB.drew.setRow w.heap.size #[.bool false, .slice A1 n1 k1, .int .i64 z1, .int .i64 0]) := U.setRow_ ltR1 _
      replace R2 := Ob.oth R2 oS (by omega)
      replace A := Ob.oth A oS (by omega)
      replace B := Ob.oth B oS (by omega)
      replace N := Nt.other N oS (by omega)
      replace N2 := Nt.other N2 oS (by omega)
      refine hK.out _ _ ⟨A, B⟩ (fun _ => ?_)
      try simp only [Act.put, List.setIfInBounds_toArray, List.set_cons_zero, List.set_cons_succ, List.getElem_toArray, List.getElem_cons_zero, List.getElem_cons_succ]
      clear hK oS
      obtain ⟨VC, hVC⟩ : ∃ VC, VB.drew.setRow w.heap.size #[.bool false, .slice A1 n1 k1, .int .i64 z1, .int .i64 0] = VC := ⟨_, rfl⟩
      rw [hVC] at U R1 R2 A B N N2 ⊢
      clear hVC
      refine wpAnyH_ready (rs := [6]) (by kernel_rfl) (by simp) ?_
      refine AllReadyH.cons rfl (fun K hK => ?_) AllReadyH.nil
      rw [if_pos (by rfl)]
      refine wp_store_row 25 (.tmp 5) (.tmp 93) rfl (w.heap.size + 1) #[.bool false, .slice A2 n2 k2, .int .i64 z2, .int .i64 0] rfl rfl 25 #[.bool false, .slice none 0 0, .int .i64 0, .int .i64 0] R2 (by kernel_rfl) rfl (by simp [Value.oneCell']) ?_
      have oS : ∀ b', b' ≠ (w.heap.size + 1) → (VC.setRow (w.heap.size + 1) #[.bool false, .slice A2 n2 k2, .int .i64 z2, .int .i64 0]).heap[b']? = VC.heap[b']? := fun b' h => setRow_other _ _ _ _ h
      replace R2 : Ob (VC.setRow (w.heap.size + 1) #[.bool false, .slice A2 n2 k2, .int .i64 z2, .int .i64 0]) (w.heap.size + 1) 25 #[.bool false, .slice A2 n2 k2, .int .i64 z2, .int .i64 0] := setRow_heap _ _ _ _ _ _ R2
      replace U : Up w (VC.setRow (w.heap.size + 1) #[.bool false, .slice A2 n2 k2, .int .i64 z2, .int .i64 0]) := U.setRow_ ltR2 _
      replace R1 := Ob.oth R1 oS (by omega)
      replace A := Ob.oth A oS (by omega)
      replace B := Ob.oth B oS (by omega)
      replace N := Nt.other N oS (by omega)
      replace N2 := Nt.other N2 oS (by omega)
      refine hK.out _ _ ⟨A, B⟩ (fun _ => ?_)
      try simp only [Act.put, List.setIfInBounds_toArray, List.set_cons_zero, List.set_cons_succ, List.getElem_toArray, List.getElem_cons_zero, List.getElem_cons_succ]
      clear hK oS
      obtain ⟨VD, hVD⟩ : ∃ VD, VC.setRow (w.heap.size + 1) #[.bool false, .slice A2 n2 k2, .int .i64 z2, .int .i64 0] = VD := ⟨_, rfl⟩
      rw [hVD] at U R1 R2 A B N N2 ⊢
      clear hVD
      refine wpAnyH_ready (rs := [7]) (by kernel_rfl) (by simp) ?_
      refine AllReadyH.cons rfl (fun K hK => ?_) AllReadyH.nil
      go_simp
      refine hK.out _ _ ⟨A, B⟩ (fun _ => ?_)
      try simp only [Act.put, List.setIfInBounds_toArray, List.set_cons_zero, List.set_cons_succ, List.getElem_toArray, List.getElem_cons_zero, List.getElem_cons_succ]
      clear hK
      refine wpAnyH_done (by kernel_rfl) ?_ _
      go_wp2_with fail
      have yy0 := R1.get 0
      have yy1 := R1.get 1
      have yy2 := R1.get 2
      have yy3 := R1.get 3
      simp only [List.getElem?_toArray, List.getElem?_cons_zero, List.getElem?_cons_succ] at yy0 yy1 yy2 yy3
      have zz0 := R2.get 0
      have zz1 := R2.get 1
      have zz2 := R2.get 2
      have zz3 := R2.get 3
      simp only [List.getElem?_toArray, List.getElem?_cons_zero, List.getElem?_cons_succ] at zz0 zz1 zz2 zz3
      refine bodyPost_ret (v := .tuple #[xv false (.slice A1 n1 k1) z1 0, xv false (.slice A2 n2 k2) z2 0, .bool ev]) (by simp [results, Tryz.results15, go_sem, em, yy0, yy1, yy2, yy3, zz0, zz1, zz2, zz3]) rfl ?_
      exact ⟨_, _, rfl, N.lower (by omega), N2.lower (by omega), U⟩
    ·
      have k1 : (f.k != 1) = true := by simpa using c2
      have n0 : (f.n != 0) = false := by simpa using c3
      have x0 : (f.x != 0) = true := by simpa using c4
      clear c2 c3 c4
      obtain ⟨k', hk'⟩ : ∃ k', k - 1 = k' := ⟨_, rfl⟩
      rw [hk'] at b1
      have e1 : IntKind.u64.wrap ((k : Int) - 1) = (k' : Int) := wrap_u64 (by omega) (by omega)
      have CA := Lib.hid (fun W => CB.out W k' (by omega) (by omega) m1 z1 b1)
      have hz1 := BZ.out k' m1 z1 (by omega) b1
      have CS1 := Lib.hid (fun W => rsize_any W m1 hz1.2.1 (by omega) z1)
      have CD := Lib.hid (fun W => CB.out W k kb kt m2 z2 b2)
      have hz2 := BZ.out k m2 z2 kt b2
      have CS2 := Lib.hid (fun W => rsize_any W m2 hz2.2.1 (by omega) z2)
      clear CB BZ kt qt b1 hk' hz1 b2 hz2
      have U := Up.refl w
      go_enter Tryz.func15, Tryz.ntmps15
      go_wp2_with fail
      obtain ⟨V1, hV1⟩ : ∃ V1, w.alloc (.cells #[.bool false, .slice none 0 0, .int .i64 0, .int .i64 0] 25) = V1 := ⟨_, rfl⟩
      have sV1 : V1.heap.size = w.heap.size + 1 := by rw [← hV1]; exact Array.size_push _
      have R1 : Ob V1 w.heap.size 25 #[.bool false, .slice none 0 0, .int .i64 0, .int .i64 0] := by rw [← hV1]; exact Ob.mk_ _ _ _
      have uV1 : Up w V1 := by rw [← hV1]; exact (Up.refl _).alloc _
      have ltR1 : w.heap.size ≤ w.heap.size := U.size
      have ltR2 : w.heap.size ≤ w.heap.size + 1 := Nat.le_succ_of_le U.size
      rw [hV1]
      clear hV1
      obtain ⟨V2, hV2⟩ : ∃ V2, V1.alloc (.cells #[.bool false, .slice none 0 0, .int .i64 0, .int .i64 0] 25) = V2 := ⟨_, rfl⟩
      have R2 : Ob V2 (w.heap.size + 1) 25 #[.bool false, .slice none 0 0, .int .i64 0, .int .i64 0] := by rw [← sV1, ← hV2]; exact Ob.mk_ _ _ _
      have uV2 : Up V1 V2 := by rw [← hV2]; exact (Up.refl _).alloc _
      rw [hV2]
      clear hV2 sV1
      replace R1 := R1.up uV2
      replace uV2 := uV1.trans uV2
      clear uV1
      replace U := U.trans uV2
      clear uV2
      refine (CF.out _).mono ?_
      rintro _ w3 ⟨rfl, h3⟩
      replace U := U.trans h3
      replace R1 := R1.up h3
      replace R2 := R2.up h3
      clear h3
      go_wp2_with fail
      obtain ⟨V4, hV4⟩ : ∃ V4, w3.alloc (.cells #[.int .i64 f.k, .int .i64 f.W, .int .i64 f.m, .int .i64 f.b, .int .u64 f.t, .int .u64 f.n, .int .u64 f.x] 35) = V4 := ⟨_, rfl⟩
      have C : Bf V4 w3.heap.size 35 f := by rw [← hV4]; exact Bf.mk_ w3 f 35
      have ltC : w.heap.size ≤ w3.heap.size := U.size
      have uV4 : Up w3 V4 := by rw [← hV4]; exact (Up.refl _).alloc _
      rw [hV4]
      clear hV4
      replace U := U.trans uV4
      replace R1 := R1.up uV4
      replace R2 := R2.up uV4
      clear uV4
      refine (CK.out _).mono ?_
      rintro _ w5 ⟨rfl, h5⟩
      replace U := U.trans h5
      replace C := C.up h5
      replace R1 := R1.up h5
      replace R2 := R2.up h5
      clear h5
      go_wp2_with fail
      refine (CM.out _).mono ?_
      rintro _ w6 ⟨rfl, h6⟩
      replace U := U.trans h6
      replace C := C.up h6
      replace R1 := R1.up h6
      replace R2 := R2.up h6
      clear h6
      have hAR1 := R1.lt
      have hAR2 := R2.lt
      have hAC := Bf.lt C
      obtain ⟨C0, C1, C2, C3, C4, C5, C6⟩ := Bf.cs C
      have C7 := Bf.lt C
      simp only [Nat.zero_add] at C0 C1 C2 C3 C4 C5 C6 C7
      go_wp2_with fail
      clear C0 C1 C2 C3 C4 C5 C6 C7
      obtain ⟨V7, hV7⟩ : ∃ V7, w6.alloc (.cells #[.bool false, .slice none 0 0, .int .i64 0, .int .i64 0] 25) = V7 := ⟨_, rfl⟩
      have A : Ob V7 w6.heap.size 25 #[.bool false, .slice none 0 0, .int .i64 0, .int .i64 0] := by rw [← hV7]; exact Ob.mk_ _ _ _
      have uV7 : Up w6 V7 := by rw [← hV7]; exact (Up.refl _).alloc _
      have ltA : w.heap.size ≤ w6.heap.size := U.size
      rw [hV7]
      clear hV7
      replace U := U.trans uV7
      replace C := C.up uV7
      replace R1 := R1.up uV7
      replace R2 := R2.up uV7
      clear uV7
      refine (CA.out _).mono ?_
      rintro _ w8 ⟨rfl, h8⟩
      replace U := U.trans h8
      replace C := C.up h8
      replace R1 := R1.up h8
      replace R2 := R2.up h8
      replace A := A.up h8
      clear h8
      go_wp2_with fail
      have gN := A.lt
      refine (CS1.out _).mono ?_
      rintro _ w9 ⟨_, rfl, ⟨A1, n1, k1, ys1, rfl, N⟩, h9⟩
      replace U := U.trans h9
      replace C := C.up h9
      replace R1 := R1.up h9
      replace R2 := R2.up h9
      replace A := A.up h9
      clear h9
      replace N : Nt w9 _ 1 (.slice A1 n1 k1) m1 := ⟨_, _, _, _, rfl, N⟩
      have C7 := C
      go_upto_region 8 with (refine store_ob2 rfl 25 (.tmp 14) (.tmp 62) rfl _ #[.bool false, .slice none 0 0, .int .i64 0, .int .i64 0] #[.bool false, .slice A1 n1 k1, .int .i64 z1, .int .i64 0] rfl rfl 4 (by kernel_rfl) rfl rfl (by simp [Value.oneCell']) w U ltA 25 A ?_; clear U; intro VA Z9 U ho; replace N := Nt.other N ho (by omega); replace R1 := Ob.oth R1 ho (by omega); replace R2 := Ob.oth R2 ho (by omega); replace C := Bf.oth C7 ho (by omega); clear ho A C7; have A := Z9; clear Z9)
      have hB := A.lt
      have UA := Up.refl VA
      have UV := U
      have NV := N
      have R1V := R1
      have R2V := R2
      have AV := A
      obtain ⟨C0, C1, C2, C3, C4, C5, C6⟩ := Bf.cs C
      have C7 := Bf.lt C
      simp only [Nat.zero_add] at C0 C1 C2 C3 C4 C5 C6 C7
      go_wp2_with fail
      clear C0 C1 C2 C3 C4 C5 C6 C7
      obtain ⟨V10, hV10⟩ : ∃ V10, VA.alloc (.cells #[.bool false, .slice none 0 0, .int .i64 0, .int .i64 0] 25) = V10 := ⟨_, rfl⟩
      have B : Ob V10 VA.heap.size 25 #[.bool false, .slice none 0 0, .int .i64 0, .int .i64 0] := by rw [← hV10]; exact Ob.mk_ _ _ _
      have uV10 : Up VA V10 := by rw [← hV10]; exact (Up.refl _).alloc _
      have ltB : w.heap.size ≤ VA.heap.size := U.size
      rw [hV10]
      clear hV10
      replace U := U.trans uV10
      replace C := C.up uV10
      replace R1 := R1.up uV10
      replace R2 := R2.up uV10
      replace A := A.up uV10
      replace N := N.up uV10
      replace UA := UA.trans uV10
      clear uV10
      refine (CD.out _).mono ?_
      rintro _ w11 ⟨rfl, h11⟩
      replace U := U.trans h11
      replace C := C.up h11
      replace R1 := R1.up h11
      replace R2 := R2.up h11
      replace A := A.up h11
      replace B := B.up h11
      replace N := N.up h11
      replace UA := UA.trans h11
      clear h11
      go_wp2_with fail
      have gM := B.lt
      refine (CS2.out _).mono ?_
      rintro _ w12 ⟨_, rfl, ⟨A2, n2, k2, ys2, rfl, N2⟩, h12⟩
      replace U := U.trans h12
      replace C := C.up h12
      replace R1 := R1.up h12
      replace R2 := R2.up h12
      replace A := A.up h12
      replace B := B.up h12
      replace N := N.up h12
      replace UA := UA.trans h12
      clear h12
      replace N2 : Nt w12 _ 1 (.slice A2 n2 k2) m2 := ⟨_, _, _, _, rfl, N2⟩
      go_upto_region 12 with (refine store_ob2 rfl 25 (.tmp 18) (.tmp 91) rfl _ #[.bool false, .slice none 0 0, .int .i64 0, .int .i64 0] #[.bool false, .slice A2 n2 k2, .int .i64 z2, .int .i64 0] rfl rfl 4 (by kernel_rfl) rfl rfl (by simp [Value.oneCell']) VA UA (Nat.le_refl _) 25 B ?_; intro VB Z9 UB ho; replace N2 := Nt.other N2 ho (by omega); replace U := UV.trans UB; replace N := NV.up UB; replace R1 := R1V.up UB; replace R2 := R2V.up UB; replace A := AV.up UB; clear ho B UA; have B := Z9; clear Z9)
      clear UV NV R1V R2V AV UB
      clear C
      refine wp_region_held_drew (S := fun w' => Ob w' (w6.heap.size) 25 #[.bool false, .slice A1 n1 k1, .int .i64 z1, .int .i64 0] ∧ Ob w' (VA.heap.size) 25 #[.bool false, .slice A2 n2 k2, .int .i64 z2, .int .i64 0]) (by kernel_rfl) ⟨A.up ((Up.refl _).drew), B.up ((Up.refl _).drew)⟩ (fun hHeld => ?_)
      refine wpAnyH_take (i := 0) (v := ?_) rfl (by kernel_rfl) (by kernel_rfl) (by kernel_rfl) (fun _ _ _ h => h) (Or.inl ⟨by rfl, ?_⟩) (by assumption) ?_
      rotate_left
      · intro w hSw
        obtain ⟨hA, hB⟩ := hSw
        have A0 := hA.get 0
        have A1 := hA.get 1
        have A2 := hA.get 2
        have A3 := hA.get 3
        simp only [List.getElem?_toArray, List.getElem?_cons_zero, List.getElem?_cons_succ] at A0 A1 A2 A3
        have B0 := hB.get 0
        have B1 := hB.get 1
        have B2 := hB.get 2
        have B3 := hB.get 3
        simp only [List.getElem?_toArray, List.getElem?_cons_zero, List.getElem?_cons_succ] at B0 B1 B2 B3
        go_simp
        all_goals with_reducible rfl
      try simp only [Act.put, List.setIfInBounds_toArray, List.set_cons_zero, List.set_cons_succ, List.getElem_toArray, List.getElem_cons_zero, List.getElem_cons_succ]
      refine wpAnyH_take (i := 1) (v := ?_) rfl (by kernel_rfl) (by kernel_rfl) (by kernel_rfl) (fun _ _ _ h => h) (Or.inl ⟨by rfl, ?_⟩) (by assumption) ?_
      rotate_left
      · intro w hSw
        obtain ⟨hA, hB⟩ := hSw
        have A0 := hA.get 0
        have A1 := hA.get 1
        have A2 := hA.get 2
        have A3 := hA.get 3
        simp only [List.getElem?_toArray, List.getElem?_cons_zero, List.getElem?_cons_succ] at A0 A1 A2 A3
        have B0 := hB.get 0
        have B1 := hB.get 1
        have B2 := hB.get 2
        have B3 := hB.get 3
        simp only [List.getElem?_toArray, List.getElem?_cons_zero, List.getElem?_cons_succ] at B0 B1 B2 B3
        go_simp
        all_goals with_reducible rfl
      try simp only [Act.put, List.setIfInBounds_toArray, List.set_cons_zero, List.set_cons_succ, List.getElem_toArray, List.getElem_cons_zero, List.getElem_cons_succ]
      refine wpAnyH_take (i := 2) (v := ?_) rfl (by kernel_rfl) (by kernel_rfl) (by kernel_rfl) (fun _ _ _ h => h) (Or.inl ⟨by rfl, ?_⟩) (by assumption) ?_
      rotate_left
      · intro w hSw
        obtain ⟨hA, hB⟩ := hSw
        have A0 := hA.get 0
        have A1 := hA.get 1
        have A2 := hA.get 2
        have A3 := hA.get 3
        simp only [List.getElem?_toArray, List.getElem?_cons_zero, List.getElem?_cons_succ] at A0 A1 A2 A3
        have B0 := hB.get 0
        have B1 := hB.get 1
        have B2 := hB.get 2
        have B3 := hB.get 3
        simp only [List.getElem?_toArray, List.getElem?_cons_zero, List.getElem?_cons_succ] at B0 B1 B2 B3
        go_simp
        all_goals with_reducible rfl
      try simp only [Act.put, List.setIfInBounds_toArray, List.set_cons_zero, List.set_cons_succ, List.getElem_toArray, List.getElem_cons_zero, List.getElem_cons_succ]
      refine wpAnyH_take (i := 3) (v := ?_) rfl (by kernel_rfl) (by kernel_rfl) (by kernel_rfl) (fun _ _ _ h => h) (Or.inl ⟨by rfl, ?_⟩) (by assumption) ?_
      rotate_left
      · intro w hSw
        obtain ⟨hA, hB⟩ := hSw
        have A0 := hA.get 0
        have A1 := hA.get 1
        have A2 := hA.get 2
        have A3 := hA.get 3
        simp only [List.getElem?_toArray, List.getElem?_cons_zero, List.getElem?_cons_succ] at A0 A1 A2 A3
        have B0 := hB.get 0
        have B1 := hB.get 1
        have B2 := hB.get 2
        have B3 := hB.get 3
        simp only [List.getElem?_toArray, List.getElem?_cons_zero, List.getElem?_cons_succ] at B0 B1 B2 B3
        go_simp
        all_goals with_reducible rfl
      try simp only [Act.put, List.setIfInBounds_toArray, List.set_cons_zero, List.set_cons_succ, List.getElem_toArray, List.getElem_cons_zero, List.getElem_cons_succ]
      refine wpAnyH_take (i := 4) (v := ?_) rfl (by kernel_rfl) (by kernel_rfl) (by kernel_rfl) (fun _ _ _ h => h) (Or.inl ⟨by rfl, ?_⟩) (by assumption) ?_
      rotate_left
      · intro w hSw
        obtain ⟨hA, hB⟩ := hSw
        have A0 := hA.get 0
        have A1 := hA.get 1
        have A2 := hA.get 2
        have A3 := hA.get 3
        simp only [List.getElem?_toArray, List.getElem?_cons_zero, List.getElem?_cons_succ] at A0 A1 A2 A3
        have B0 := hB.get 0
        have B1 := hB.get 1
        have B2 := hB.get 2
        have B3 := hB.get 3
        simp only [List.getElem?_toArray, List.getElem?_cons_zero, List.getElem?_cons_succ] at B0 B1 B2 B3
        go_simp
        all_goals with_reducible rfl
      try simp only [Act.put, List.setIfInBounds_toArray, List.set_cons_zero, List.set_cons_succ, List.getElem_toArray, List.getElem_cons_zero, List.getElem_cons_succ]
      replace R1 := R1.up ((Up.refl _).drew)
      replace R2 := R2.up ((Up.refl _).drew)
      replace A := A.up ((Up.refl _).drew)
      replace B := B.up ((Up.refl _).drew)
      replace U := U.drew
      replace N := N.up ((Up.refl _).drew)
      replace N2 := N2.up ((Up.refl _).drew)
      clear hHeld
      refine wpAnyH_ready (rs := [5]) (by kernel_rfl) (by simp) ?_
      refine AllReadyH.cons rfl (fun K hK => ?_) AllReadyH.nil
      rw [if_pos (by rfl)]
      refine wp_store_row 25 (.tmp 4) (.tmp 92) rfl w.heap.size #[.bool false, .slice A1 n1 k1, .int .i64 z1, .int .i64 0] rfl rfl 25 #[.bool false, .slice none 0 0, .int .i64 0, .int .i64 0] R1 (by kernel_rfl) rfl (by simp [Value.oneCell']) ?_
      have oS : ∀ b', b' ≠ w.heap.size → (VB.drew.setRow w.heap.size #[.bool false, .slice A1 n1 k1, .int .i64 z1, .int .i64 0]).heap[b']? = VB.drew.heap[b']? := fun b' h => setRow_other _ _ _ _ h
      replace R1 : Ob (VB.drew.setRow w.heap.size #[.bool false, .slice A1 n1 k1, .int .i64 z1, .int .i64 0]) w.heap.size 25 #[.bool false, .slice A1 n1 k1, .int .i64 z1, .int .i64 0] := setRow_heap _ _ _ _ _ _ R1
      replace U : Up w (VB.drew.setRow w.heap.size #[.bool false, .slice A1 n1 k1, .int .i64 z1, .int .i64 0]) := U.setRow_ ltR1 _
      replace R2 := Ob.oth R2 oS (by omega)
      replace A := Ob.oth A oS (by omega)
      replace B := Ob.oth B oS (by omega)
      replace N := Nt.other N oS (by omega)
      replace N2 := Nt.other N2 oS (by omega)
      refine hK.out _ _ ⟨A, B⟩ (fun _ => ?_)
      try simp only [Act.put, List.setIfInBounds_toArray, List.set_cons_zero, List.set_cons_succ, List.getElem_toArray, List.getElem_cons_zero, List.getElem_cons_succ]
      clear hK oS
      obtain ⟨VC, hVC⟩ : ∃ VC, VB.drew.setRow w.heap.size #[.bool false, .slice A1 n1 k1, .int .i64 z1, .int .i64 0] = VC := ⟨_, rfl⟩
      rw [hVC] at U R1 R2 A B N N2 ⊢
      clear hVC
      refine wpAnyH_ready (rs := [6]) (by kernel_rfl) (by simp) ?_
      refine AllReadyH.cons rfl (fun K hK => ?_) AllReadyH.nil
      rw [if_pos (by rfl)]
      refine wp_store_row 25 (.tmp 5) (.tmp 93) rfl (w.heap.size + 1) #[.bool false, .slice A2 n2 k2, .int .i64 z2, .int .i64 0] rfl rfl 25 #[.bool false, .slice none 0 0, .int .i64 0, .int .i64 0] R2 (by kernel_rfl) rfl (by simp [Value.oneCell']) ?_
      have oS : ∀ b', b' ≠ (w.heap.size + 1) → (VC.setRow (w.heap.size + 1) #[.bool false, .slice A2 n2 k2, .int .i64 z2, .int .i64 0]).heap[b']? = VC.heap[b']? := fun b' h => setRow_other _ _ _ _ h
      replace R2 : Ob (VC.setRow (w.heap.size + 1) #[.bool false, .slice A2 n2 k2, .int .i64 z2, .int .i64 0]) (w.heap.size + 1) 25 #[.bool false, .slice A2 n2 k2, .int .i64 z2, .int .i64 0] := setRow_heap _ _ _ _ _ _ R2
      replace U : Up w (VC.setRow (w.heap.size + 1) #[.bool false, .slice A2 n2 k2, .int .i64 z2, .int .i64 0]) := U.setRow_ ltR2 _
      replace R1 := Ob.oth R1 oS (by omega)
      replace A := Ob.oth A oS (by omega)
      replace B := Ob.oth B oS (by omega)
      replace N := Nt.other N oS (by omega)
      replace N2 := Nt.other N2 oS (by omega)
      refine hK.out _ _ ⟨A, B⟩ (fun _ => ?_)
      try simp only [Act.put, List.setIfInBounds_toArray, List.set_cons_zero, List.set_cons_succ, List.getElem_toArray, List.getElem_cons_zero, List.getElem_cons_succ]
      clear hK oS
      obtain ⟨VD, hVD⟩ : ∃ VD, VC.setRow (w.heap.size + 1) #[.bool false, .slice A2 n2 k2, .int .i64 z2, .int .i64 0] = VD := ⟨_, rfl⟩
      rw [hVD] at U R1 R2 A B N N2 ⊢
      clear hVD
      refine wpAnyH_ready (rs := [7]) (by kernel_rfl) (by simp) ?_
      refine AllReadyH.cons rfl (fun K hK => ?_) AllReadyH.nil
      go_simp
      refine hK.out _ _ ⟨A, B⟩ (fun _ => ?_)
      try simp only [Act.put, List.setIfInBounds_toArray, List.set_cons_zero, List.set_cons_succ, List.getElem_toArray, List.getElem_cons_zero, List.getElem_cons_succ]
      clear hK
      refine wpAnyH_done (by kernel_rfl) ?_ _
      go_wp2_with fail
      have yy0 := R1.get 0
      have yy1 := R1.get 1
      have yy2 := R1.get 2
      have yy3 := R1.get 3
      simp only [List.getElem?_toArray, List.getElem?_cons_zero, List.getElem?_cons_succ] at yy0 yy1 yy2 yy3
      have zz0 := R2.get 0
      have zz1 := R2.get 1
      have zz2 := R2.get 2
      have zz3 := R2.get 3
      simp only [List.getElem?_toArray, List.getElem?_cons_zero, List.getElem?_cons_succ] at zz0 zz1 zz2 zz3
      refine bodyPost_ret (v := .tuple #[xv false (.slice A1 n1 k1) z1 0, xv false (.slice A2 n2 k2) z2 0, .bool ev]) (by simp [results, Tryz.results15, go_sem, em, yy0, yy1, yy2, yy3, zz0, zz1, zz2, zz3]) rfl ?_
      exact ⟨_, _, rfl, N.lower (by omega), N2.lower (by omega), U⟩
    ·
      have k1 : (f.k != 1) = false := by simpa using c2
      clear c2
      obtain ⟨k', hk'⟩ : ∃ k', k - 1 = k' := ⟨_, rfl⟩
      rw [hk'] at b1
      have e1 : IntKind.u64.wrap ((k : Int) - 1) = (k' : Int) := wrap_u64 (by omega) (by omega)
      have CA := Lib.hid (fun W => CB.out W k' (by omega) (by omega) m1 z1 b1)
      have hz1 := BZ.out k' m1 z1 (by omega) b1
      have CS1 := Lib.hid (fun W => rsize_any W m1 hz1.2.1 (by omega) z1)
      clear CB BZ kt qt b1 hk' hz1
      have U := Up.refl w
      go_enter Tryz.func15, Tryz.ntmps15
      go_wp2_with fail
      obtain ⟨V1, hV1⟩ : ∃ V1, w.alloc (.cells #[.bool false, .slice none 0 0, .int .i64 0, .int .i64 0] 25) = V1 := ⟨_, rfl⟩
      have sV1 : V1.heap.size = w.heap.size + 1 := by rw [← hV1]; exact Array.size_push _
      have R1 : Ob V1 w.heap.size 25 #[.bool false, .slice none 0 0, .int .i64 0, .int .i64 0] := by rw [← hV1]; exact Ob.mk_ _ _ _
      have uV1 : Up w V1 := by rw [← hV1]; exact (Up.refl _).alloc _
      have ltR1 : w.heap.size ≤ w.heap.size := U.size
      have ltR2 : w.heap.size ≤ w.heap.size + 1 := Nat.le_succ_of_le U.size
      rw [hV1]
      clear hV1
      obtain ⟨V2, hV2⟩ : ∃ V2, V1.alloc (.cells #[.bool false, .slice none 0 0, .int .i64 0, .int .i64 0] 25) = V2 := ⟨_, rfl⟩
      have R2 : Ob V2 (w.heap.size + 1) 25 #[.bool false, .slice none 0 0, .int .i64 0, .int .i64 0] := by rw [← sV1, ← hV2]; exact Ob.mk_ _ _ _
      have uV2 : Up V1 V2 := by rw [← hV2]; exact (Up.refl _).alloc _
      rw [hV2]
      clear hV2 sV1
      replace R1 := R1.up uV2
      replace uV2 := uV1.trans uV2
      clear uV1
      replace U := U.trans uV2
      clear uV2
      refine (CF.out _).mono ?_
      rintro _ w3 ⟨rfl, h3⟩
      replace U := U.trans h3
      replace R1 := R1.up h3
      replace R2 := R2.up h3
      clear h3
      go_wp2_with fail
      obtain ⟨V4, hV4⟩ : ∃ V4, w3.alloc (.cells #[.int .i64 f.k, .int .i64 f.W, .int .i64 f.m, .int .i64 f.b, .int .u64 f.t, .int .u64 f.n, .int .u64 f.x] 35) = V4 := ⟨_, rfl⟩
      have C : Bf V4 w3.heap.size 35 f := by rw [← hV4]; exact Bf.mk_ w3 f 35
      have ltC : w.heap.size ≤ w3.heap.size := U.size
      have uV4 : Up w3 V4 := by rw [← hV4]; exact (Up.refl _).alloc _
      rw [hV4]
      clear hV4
      replace U := U.trans uV4
      replace R1 := R1.up uV4
      replace R2 := R2.up uV4
      clear uV4
      refine (CK.out _).mono ?_
      rintro _ w5 ⟨rfl, h5⟩
      replace U := U.trans h5
      replace C := C.up h5
      replace R1 := R1.up h5
      replace R2 := R2.up h5
      clear h5
      go_wp2_with fail
      refine (CM.out _).mono ?_
      rintro _ w6 ⟨rfl, h6⟩
      replace U := U.trans h6
      replace C := C.up h6
      replace R1 := R1.up h6
      replace R2 := R2.up h6
      clear h6
      have hAR1 := R1.lt
      have hAR2 := R2.lt
      have hAC := Bf.lt C
      obtain ⟨C0, C1, C2, C3, C4, C5, C6⟩ := Bf.cs C
      have C7 := Bf.lt C
      simp only [Nat.zero_add] at C0 C1 C2 C3 C4 C5 C6 C7
      go_wp2_with fail
      clear C0 C1 C2 C3 C4 C5 C6 C7
      obtain ⟨V7, hV7⟩ : ∃ V7, w6.alloc (.cells #[.bool false, .slice none 0 0, .int .i64 0, .int .i64 0] 25) = V7 := ⟨_, rfl⟩
      have A : Ob V7 w6.heap.size 25 #[.bool false, .slice none 0 0, .int .i64 0, .int .i64 0] := by rw [← hV7]; exact Ob.mk_ _ _ _
      have uV7 : Up w6 V7 := by rw [← hV7]; exact (Up.refl _).alloc _
      have ltA : w.heap.size ≤ w6.heap.size := U.size
      rw [hV7]
      clear hV7
      replace U := U.trans uV7
      replace C := C.up uV7
      replace R1 := R1.up uV7
      replace R2 := R2.up uV7
      clear uV7
      refine (CA.out _).mono ?_
      rintro _ w8 ⟨rfl, h8⟩
      replace U := U.trans h8
      replace C := C.up h8
      replace R1 := R1.up h8
      replace R2 := R2.up h8
      replace A := A.up h8
      clear h8
      go_wp2_with fail
      have gN := A.lt
      refine (CS1.out _).mono ?_
      rintro _ w9 ⟨_, rfl, ⟨A1, n1, k1, ys1, rfl, N⟩, h9⟩
      replace U := U.trans h9
      replace C := C.up h9
      replace R1 := R1.up h9
      replace R2 := R2.up h9
      replace A := A.up h9
      clear h9
      replace N : Nt w9 _ 1 (.slice A1 n1 k1) m1 := ⟨_, _, _, _, rfl, N⟩
      have C7 := C
      go_upto_region 8 with (refine store_ob2 rfl 25 (.tmp 14) (.tmp 62) rfl _ #[.bool false, .slice none 0 0, .int .i64 0, .int .i64 0] #[.bool false, .slice A1 n1 k1, .int .i64 z1, .int .i64 0] rfl rfl 4 (by kernel_rfl) rfl rfl (by simp [Value.oneCell']) w U ltA 25 A ?_; clear U; intro VA Z9 U ho; replace N := Nt.other N ho (by omega); replace R1 := Ob.oth R1 ho (by omega); replace R2 := Ob.oth R2 ho (by omega); replace C := Bf.oth C7 ho (by omega); clear ho A C7; have A := Z9; clear Z9)
      have hB := A.lt
      have UA := Up.refl VA
      have UV := U
      have NV := N
      have R1V := R1
      have R2V := R2
      have AV := A
      obtain ⟨C0, C1, C2, C3, C4, C5, C6⟩ := Bf.cs C
      have C7 := Bf.lt C
      simp only [Nat.zero_add] at C0 C1 C2 C3 C4 C5 C6 C7
      go_upto_region 12 with fail
      clear C0 C1 C2 C3 C4 C5 C6 C7
      obtain ⟨V10, hV10⟩ : ∃ V10, VA.alloc (.cells #[.bool false, .slice none 0 0, .int .i64 0, .int .i64 0] 25) = V10 := ⟨_, rfl⟩
      have B : Ob V10 VA.heap.size 25 #[.bool false, .slice none 0 0, .int .i64 0, .int .i64 0] := by rw [← hV10]; exact Ob.mk_ _ _ _
      have uV10 : Up VA V10 := by rw [← hV10]; exact (Up.refl _).alloc _
      have ltB : w.heap.size ≤ VA.heap.size := U.size
      rw [hV10]
      clear hV10
      replace U := U.trans uV10
      replace C := C.up uV10
      replace R1 := R1.up uV10
      replace R2 := R2.up uV10
      replace A := A.up uV10
      replace N := N.up uV10
      replace UA := UA.trans uV10
      clear uV10
      clear UA UV NV R1V R2V AV
      clear C
      refine wp_region_held_drew (S := fun w' => Ob w' (w6.heap.size) 25 #[.bool false, .slice A1 n1 k1, .int .i64 z1, .int .i64 0] ∧ Ob w' (VA.heap.size) 25 #[.bool false, .slice none 0 0, .int .i64 0, .int .i64 0]) (by kernel_rfl) ⟨A.up ((Up.refl _).drew), B.up ((Up.refl _).drew)⟩ (fun hHeld => ?_)
      refine wpAnyH_take (i := 0) (v := ?_) rfl (by kernel_rfl) (by kernel_rfl) (by kernel_rfl) (fun _ _ _ h => h) (Or.inl ⟨by rfl, ?_⟩) (by assumption) ?_
      rotate_left
      · intro w hSw
        obtain ⟨hA, hB⟩ := hSw
        have A0 := hA.get 0
        have A1 := hA.get 1
        have A2 := hA.get 2
        have A3 := hA.get 3
        simp only [List.getElem?_toArray, List.getElem?_cons_zero, List.getElem?_cons_succ] at A0 A1 A2 A3
        have B0 := hB.get 0
        have B1 := hB.get 1
        have B2 := hB.get 2
        have B3 := hB.get 3
        simp only [List.getElem?_toArray, List.getElem?_cons_zero, List.getElem?_cons_succ] at B0 B1 B2 B3
        go_simp
        all_goals with_reducible rfl
      try simp only [Act.put, List.setIfInBounds_toArray, List.set_cons_zero, List.set_cons_succ, List.getElem_toArray, List.getElem_cons_zero, List.getElem_cons_succ]
      refine wpAnyH_take (i := 1) (v := ?_) rfl (by kernel_rfl) (by kernel_rfl) (by kernel_rfl) (fun _ _ _ h => h) (Or.inl ⟨by rfl, ?_⟩) (by assumption) ?_
      rotate_left
      · intro w hSw
        obtain ⟨hA, hB⟩ := hSw
        have A0 := hA.get 0
        have A1 := hA.get 1
        have A2 := hA.get 2
        have A3 := hA.get 3
        simp only [List.getElem?_toArray, List.getElem?_cons_zero, List.getElem?_cons_succ] at A0 A1 A2 A3
        have B0 := hB.get 0
        have B1 := hB.get 1
        have B2 := hB.get 2
        have B3 := hB.get 3
        simp only [List.getElem?_toArray, List.getElem?_cons_zero, List.getElem?_cons_succ] at B0 B1 B2 B3
        go_simp
        all_goals with_reducible rfl
      try simp only [Act.put, List.setIfInBounds_toArray, List.set_cons_zero, List.set_cons_succ, List.getElem_toArray, List.getElem_cons_zero, List.getElem_cons_succ]
      refine wpAnyH_take (i := 2) (v := ?_) rfl (by kernel_rfl) (by kernel_rfl) (by kernel_rfl) (fun _ _ _ h => h) (Or.inl ⟨by rfl, ?_⟩) (by assumption) ?_
      rotate_left
      · intro w hSw
        obtain ⟨hA, hB⟩ := hSw
        have A0 := hA.get 0
        have A1 := hA.get 1
        have A2 := hA.get 2
        have A3 := hA.get 3
        simp only [List.getElem?_toArray, List.getElem?_cons_zero, List.getElem?_cons_succ] at A0 A1 A2 A3
        have B0 := hB.get 0
        have B1 := hB.get 1
        have B2 := hB.get 2
        have B3 := hB.get 3
        simp only [List.getElem?_toArray, List.getElem?_cons_zero, List.getElem?_cons_succ] at B0 B1 B2 B3
        go_simp
        all_goals with_reducible rfl
      try simp only [Act.put, List.setIfInBounds_toArray, List.set_cons_zero, List.set_cons_succ, List.getElem_toArray, List.getElem_cons_zero, List.getElem_cons_succ]
      refine wpAnyH_take (i := 3) (v := ?_) rfl (by kernel_rfl) (by kernel_rfl) (by kernel_rfl) (fun _ _ _ h => h) (Or.inl ⟨by rfl, ?_⟩) (by assumption) ?_
      rotate_left
      · intro w hSw
        obtain ⟨hA, hB⟩ := hSw
        have A0 := hA.get 0
        have A1 := hA.get 1
        have A2 := hA.get 2
        have A3 := hA.get 3
        simp only [List.getElem?_toArray, List.getElem?_cons_zero, List.getElem?_cons_succ] at A0 A1 A2 A3
        have B0 := hB.get 0
        have B1 := hB.get 1
        have B2 := hB.get 2
        have B3 := hB.get 3
        simp only [List.getElem?_toArray, List.getElem?_cons_zero, List.getElem?_cons_succ] at B0 B1 B2 B3
        go_simp
        all_goals with_reducible rfl
      try simp only [Act.put, List.setIfInBounds_toArray, List.set_cons_zero, List.set_cons_succ, List.getElem_toArray, List.getElem_cons_zero, List.getElem_cons_succ]
      refine wpAnyH_take (i := 4) (v := ?_) rfl (by kernel_rfl) (by kernel_rfl) (by kernel_rfl) (fun _ _ _ h => h) (Or.inl ⟨by rfl, ?_⟩) (by assumption) ?_
      rotate_left
      · intro w hSw
        obtain ⟨hA, hB⟩ := hSw
        have A0 := hA.get 0
        have A1 := hA.get 1
        have A2 := hA.get 2
        have A3 := hA.get 3
        simp only [List.getElem?_toArray, List.getElem?_cons_zero, List.getElem?_cons_succ] at A0 A1 A2 A3
        have B0 := hB.get 0
        have B1 := hB.get 1
        have B2 := hB.get 2
        have B3 := hB.get 3
        simp only [List.getElem?_toArray, List.getElem?_cons_zero, List.getElem?_cons_succ] at B0 B1 B2 B3
        go_simp
        all_goals with_reducible rfl
      try simp only [Act.put, List.setIfInBounds_toArray, List.set_cons_zero, List.set_cons_succ, List.getElem_toArray, List.getElem_cons_zero, List.getElem_cons_succ]
      replace R1 := R1.up ((Up.refl _).drew)
      replace R2 := R2.up ((Up.refl _).drew)
      replace A := A.up ((Up.refl _).drew)
      replace B := B.up ((Up.refl _).drew)
      replace U := U.drew
      replace N := N.up ((Up.refl _).drew)
      clear hHeld
      refine wpAnyH_ready (rs := [5]) (by kernel_rfl) (by simp) ?_
      refine AllReadyH.cons rfl (fun K hK => ?_) AllReadyH.nil
      rw [if_pos (by rfl)]
      refine wp_store_row 25 (.tmp 4) (.tmp 92) rfl w.heap.size #[.bool false, .slice A1 n1 k1, .int .i64 z1, .int .i64 0] rfl rfl 25 #[.bool false, .slice none 0 0, .int .i64 0, .int .i64 0] R1 (by kernel_rfl) rfl (by simp [Value.oneCell']) ?_
      have oS : ∀ b', b' ≠ w.heap.size → (V10.drew.setRow w.heap.size #[.bool false, .slice A1 n1 k1, .int .i64 z1, .int .i64 0]).heap[b']? = V10.drew.heap[b']? := fun b' h => setRow_other _ _ _ _ h
      replace R1 : Ob (V10.drew.setRow w.heap.size #[.bool false, .slice A1 n1 k1, .int .i64 z1, .int .i64 0]) w.heap.size 25 #[.bool false, .slice A1 n1 k1, .int .i64 z1, .int .i64 0] := setRow_heap _ _ _ _ _ _ R1
      replace U : Up w (V10.drew.setRow w.heap.size #[.bool false, .slice A1 n1 k1, .int .i64 z1, .int .i64 0]) := U.setRow_ ltR1 _
      replace R2 := Ob.oth R2 oS (by omega)
      replace A := Ob.oth A oS (by omega)
      replace B := Ob.oth B oS (by omega)
      replace N := Nt.other N oS (by omega)
      refine hK.out _ _ ⟨A, B⟩ (fun _ => ?_)
      try simp only [Act.put, List.setIfInBounds_toArray, List.set_cons_zero, List.set_cons_succ, List.getElem_toArray, List.getElem_cons_zero, List.getElem_cons_succ]
      clear hK oS
      obtain ⟨VC, hVC⟩ : ∃ VC, V10.drew.setRow w.heap.size #[.bool false, .slice A1 n1 k1, .int .i64 z1, .int .i64 0] = VC := ⟨_, rfl⟩
      rw [hVC] at U R1 R2 A B N ⊢
      clear hVC
      refine wpAnyH_ready (rs := [6]) (by kernel_rfl) (by simp) ?_
      refine AllReadyH.cons rfl (fun K hK => ?_) AllReadyH.nil
      rw [if_pos (by rfl)]
      refine wp_store_row 25 (.tmp 5) (.tmp 93) rfl (w.heap.size + 1) #[.bool false, .slice none 0 0, .int .i64 0, .int .i64 0] rfl rfl 25 #[.bool false, .slice none 0 0, .int .i64 0, .int .i64 0] R2 (by kernel_rfl) rfl (by simp [Value.oneCell']) ?_
      have oS : ∀ b', b' ≠ (w.heap.size + 1) → (VC.setRow (w.heap.size + 1) #[.bool false, .slice none 0 0, .int .i64 0, .int .i64 0]).heap[b']? = VC.heap[b']? := fun b' h => setRow_other _ _ _ _ h
      replace R2 : Ob (VC.setRow (w.heap.size + 1) #[.bool false, .slice none 0 0, .int .i64 0, .int .i64 0]) (w.heap.size + 1) 25 #[.bool false, .slice none 0 0, .int .i64 0, .int .i64 0] := setRow_heap _ _ _ _ _ _ R2
      replace U : Up w (VC.setRow (w.heap.size + 1) #[.bool false, .slice none 0 0, .int .i64 0, .int .i64 0]) := U.setRow_ ltR2 _
      replace R1 := Ob.oth R1 oS (by omega)
      replace A := Ob.oth A oS (by omega)
      replace B := Ob.oth B oS (by omega)
      replace N := Nt.other N oS (by omega)
      refine hK.out _ _ ⟨A, B⟩ (fun _ => ?_)
      try simp only [Act.put, List.setIfInBounds_toArray, List.set_cons_zero, List.set_cons_succ, List.getElem_toArray, List.getElem_cons_zero, List.getElem_cons_succ]
      clear hK oS
      obtain ⟨VD, hVD⟩ : ∃ VD, VC.setRow (w.heap.size + 1) #[.bool false, .slice none 0 0, .int .i64 0, .int .i64 0] = VD := ⟨_, rfl⟩
      rw [hVD] at U R1 R2 A B N ⊢
      clear hVD
      refine wpAnyH_ready (rs := [7]) (by kernel_rfl) (by simp) ?_
      refine AllReadyH.cons rfl (fun K hK => ?_) AllReadyH.nil
      go_simp
      refine hK.out _ _ ⟨A, B⟩ (fun _ => ?_)
      try simp only [Act.put, List.setIfInBounds_toArray, List.set_cons_zero, List.set_cons_succ, List.getElem_toArray, List.getElem_cons_zero, List.getElem_cons_succ]
      clear hK
      refine wpAnyH_done (by kernel_rfl) ?_ _
      go_wp2_with fail
      have yy0 := R1.get 0
      have yy1 := R1.get 1
      have yy2 := R1.get 2
      have yy3 := R1.get 3
      simp only [List.getElem?_toArray, List.getElem?_cons_zero, List.getElem?_cons_succ] at yy0 yy1 yy2 yy3
      have zz0 := R2.get 0
      have zz1 := R2.get 1
      have zz2 := R2.get 2
      have zz3 := R2.get 3
      simp only [List.getElem?_toArray, List.getElem?_cons_zero, List.getElem?_cons_succ] at zz0 zz1 zz2 zz3
      refine bodyPost_ret (v := .tuple #[xv false (.slice A1 n1 k1) z1 0, xv false (.slice none 0 0) 0 0, .bool ev]) (by simp [results, Tryz.results15, go_sem, em, yy0, yy1, yy2, yy3, zz0, zz1, zz2, zz3]) rfl ?_
      exact ⟨_, _, rfl, N.lower (by omega), Nt.nil _ _ _, U⟩
    ·
      have k1 : (f.k != 1) = true := by simpa using c2
      have n0 : (f.n != 0) = false := by simpa using c3
      have x0 : (f.x != 0) = false := by simpa using c4
      clear c2 c3 c4
      obtain ⟨k', hk'⟩ : ∃ k', k - 1 = k' := ⟨_, rfl⟩
      rw [hk'] at b1
      have e1 : IntKind.u64.wrap ((k : Int) - 1) = (k' : Int) := wrap_u64 (by omega) (by omega)
      have CA := Lib.hid (fun W => CB.out W k' (by omega) (by omega) m1 z1 b1)
      have hz1 := BZ.out k' m1 z1 (by omega) b1
      have CS1 := Lib.hid (fun W => rsize_any W m1 hz1.2.1 (by omega) z1)
      clear CB BZ kt qt b1 hk' hz1
      have U := Up.refl w
      go_enter Tryz.func15, Tryz.ntmps15
      go_wp2_with fail
      obtain ⟨V1, hV1⟩ : ∃ V1, w.alloc (.cells #[.bool false, .slice none 0 0, .int .i64 0, .int .i64 0] 25) = V1 := ⟨_, rfl⟩
      have sV1 : V1.heap.size = w.heap.size + 1 := by rw [← hV1]; exact Array.size_push _
      have R1 : Ob V1 w.heap.size 25 #[.bool false, .slice none 0 0, .int .i64 0, .int .i64 0] := by rw [← hV1]; exact Ob.mk_ _ _ _
      have uV1 : Up w V1 := by rw [← hV1]; exact (Up.refl _).alloc _
      have ltR1 : w.heap.size ≤ w.heap.size := U.size
      have ltR2 : w.heap.size ≤ w.heap.size + 1 := Nat.le_succ_of_le U.size
      rw [hV1]
      clear hV1
      obtain ⟨V2, hV2⟩ : ∃ V2, V1.alloc (.cells #[.bool false, .slice none 0 0, .int .i64 0, .int .i64 0] 25) = V2 := ⟨_, rfl⟩
      have R2 : Ob V2 (w.heap.size + 1) 25 #[.bool false, .slice none 0 0, .int .i64 0, .int .i64 0] := by rw [← sV1, ← hV2]; exact Ob.mk_ _ _ _
      have uV2 : Up V1 V2 := by rw [← hV2]; exact (Up.refl _).alloc _
      rw [hV2]
      clear hV2 sV1
      replace R1 := R1.up uV2
      replace uV2 := uV1.trans uV2
      clear uV1
      replace U := U.trans uV2
      clear uV2
      refine (CF.out _).mono ?_
      rintro _ w3 ⟨rfl, h3⟩
      replace U := U.trans h3
      replace R1 := R1.up h3
      replace R2 := R2.up h3
      clear h3
      go_wp2_with fail
      obtain ⟨V4, hV4⟩ : ∃ V4, w3.alloc (.cells #[.int .i64 f.k, .int .i64 f.W, .int .i64 f.m, .int .i64 f.b, .int .u64 f.t, .int .u64 f.n, .int .u64 f.x] 35) = V4 := ⟨_, rfl⟩
      have C : Bf V4 w3.heap.size 35 f := by rw [← hV4]; exact Bf.mk_ w3 f 35
      have ltC : w.heap.size ≤ w3.heap.size := U.size
      have uV4 : Up w3 V4 := by rw [← hV4]; exact (Up.refl _).alloc _
      rw [hV4]
      clear hV4
      replace U := U.trans uV4
      replace R1 := R1.up uV4
      replace R2 := R2.up uV4
      clear uV4
      refine (CK.out _).mono ?_
      rintro _ w5 ⟨rfl, h5⟩
      replace U := U.trans h5
      replace C := C.up h5
      replace R1 := R1.up h5
      replace R2 := R2.up h5
      clear h5
      go_wp2_with fail
      refine (CM.out _).mono ?_
      rintro _ w6 ⟨rfl, h6⟩
      replace U := U.trans h6
      replace C := C.up h6
      replace R1 := R1.up h6
      replace R2 := R2.up h6
      clear h6
      have hAR1 := R1.lt
      have hAR2 := R2.lt
      have hAC := Bf.lt C
      obtain ⟨C0, C1, C2, C3, C4, C5, C6⟩ := Bf.cs C
      have C7 := Bf.lt C
      simp only [Nat.zero_add] at C0 C1 C2 C3 C4 C5 C6 C7
      go_wp2_with fail
      clear C0 C1 C2 C3 C4 C5 C6 C7
      obtain ⟨V7, hV7⟩ : ∃ V7, w6.alloc (.cells #[.bool false, .slice none 0 0, .int .i64 0, .int .i64 0] 25) = V7 := ⟨_, rfl⟩
      have A : Ob V7 w6.heap.size 25 #[.bool false, .slice none 0 0, .int .i64 0, .int .i64 0] := by rw [← hV7]; exact Ob.mk_ _ _ _
      have uV7 : Up w6 V7 := by rw [← hV7]; exact (Up.refl _).alloc _
      have ltA : w.heap.size ≤ w6.heap.size := U.size
      rw [hV7]
      clear hV7
      replace U := U.trans uV7
      replace C := C.up uV7
      replace R1 := R1.up uV7
      replace R2 := R2.up uV7
      clear uV7
      refine (CA.out _).mono ?_
      rintro _ w8 ⟨rfl, h8⟩
      replace U := U.trans h8
      replace C := C.up h8
      replace R1 := R1.up h8
      replace R2 := R2.up h8
      replace A := A.up h8
      clear h8
      go_wp2_with fail
      have gN := A.lt
      refine (CS1.out _).mono ?_
      rintro _ w9 ⟨_, rfl, ⟨A1, n1, k1, ys1, rfl, N⟩, h9⟩
      replace U := U.trans h9
      replace C := C.up h9
      replace R1 := R1.up h9
      replace R2 := R2.up h9
      replace A := A.up h9
      clear h9
      replace N : Nt w9 _ 1 (.slice A1 n1 k1) m1 := ⟨_, _, _, _, rfl, N⟩
      have C7 := C
      go_upto_region 8 with (refine store_ob2 rfl 25 (.tmp 14) (.tmp 62) rfl _ #[.bool false, .slice none 0 0, .int .i64 0, .int .i64 0] #[.bool false, .slice A1 n1 k1, .int .i64 z1, .int .i64 0] rfl rfl 4 (by kernel_rfl) rfl rfl (by simp [Value.oneCell']) w U ltA 25 A ?_; clear U; intro VA Z9 U ho; replace N := Nt.other N ho (by omega); replace R1 := Ob.oth R1 ho (by omega); replace R2 := Ob.oth R2 ho (by omega); replace C := Bf.oth C7 ho (by omega); clear ho A C7; have A := Z9; clear Z9)
      have hB := A.lt
      have UA := Up.refl VA
      have UV := U
      have NV := N
      have R1V := R1
      have R2V := R2
      have AV := A
      obtain ⟨C0, C1, C2, C3, C4, C5, C6⟩ := Bf.cs C
      have C7 := Bf.lt C
      simp only [Nat.zero_add] at C0 C1 C2 C3 C4 C5 C6 C7
      go_upto_region 12 with fail
      clear C0 C1 C2 C3 C4 C5 C6 C7
      obtain ⟨V10, hV10⟩ : ∃ V10, VA.alloc (.cells #[.bool false, .slice none 0 0, .int .i64 0, .int .i64 0] 25) = V10 := ⟨_, rfl⟩
      have B : Ob V10 VA.heap.size 25 #[.bool false, .slice none 0 0, .int .i64 0, .int .i64 0] := by rw [← hV10]; exact Ob.mk_ _ _ _
      have uV10 : Up VA V10 := by rw [← hV10]; exact (Up.refl _).alloc _
      have ltB : w.heap.size ≤ VA.heap.size := U.size
      rw [hV10]
      clear hV10
      replace U := U.trans uV10
      replace C := C.up uV10
      replace R1 := R1.up uV10
      replace R2 := R2.up uV10
      replace A := A.up uV10
      replace N := N.up uV10
      replace UA := UA.trans uV10
      clear uV10
      clear UA UV NV R1V R2V AV
      clear C
      refine wp_region_held_drew (S := fun w' => Ob w' (w6.heap.size) 25 #[.bool false, .slice A1 n1 k1, .int .i64 z1, .int .i64 0] ∧ Ob w' (VA.heap.size) 25 #[.bool false, .slice none 0 0, .int .i64 0, .int .i64 0]) (by kernel_rfl) ⟨A.up ((Up.refl _).drew), B.up ((Up.refl _).drew)⟩ (fun hHeld => ?_)
      refine wpAnyH_take (i := 0) (v := ?_) rfl (by kernel_rfl) (by kernel_rfl) (by kernel_rfl) (fun _ _ _ h => h) (Or.inl ⟨by rfl, ?_⟩) (by assumption) ?_
      rotate_left
      · intro w hSw
        obtain ⟨hA, hB⟩ := hSw
        have A0 := hA.get 0
        have A1 := hA.get 1
        have A2 := hA.get 2
        have A3 := hA.get 3
        simp only [List.getElem?_toArray, List.getElem?_cons_zero, List.getElem?_cons_succ] at A0 A1 A2 A3
        have B0 := hB.get 0
        have B1 := hB.get 1
        have B2 := hB.get 2
        have B3 := hB.get 3
        simp only [List.getElem?_toArray, List.getElem?_cons_zero, List.getElem?_cons_succ] at B0 B1 B2 B3
        go_simp
        all_goals with_reducible rfl
      try simp only [Act.put, List.setIfInBounds_toArray, List.set_cons_zero, List.set_cons_succ, List.getElem_toArray, List.getElem_cons_zero, List.getElem_cons_succ]
      refine wpAnyH_take (i := 1) (v := ?_) rfl (by kernel_rfl) (by kernel_rfl) (by kernel_rfl) (fun _ _ _ h => h) (Or.inl ⟨by rfl, ?_⟩) (by assumption) ?_
      rotate_left
      · intro w hSw
        obtain ⟨hA, hB⟩ := hSw
        have A0 := hA.get 0
        have A1 := hA.get 1
        have A2 := hA.get 2
        have A3 := hA.get 3
        simp only [List.getElem?_toArray, List.getElem?_cons_zero, List.getElem?_cons_succ] at A0 A1 A2 A3
        have B0 := hB.get 0
        have B1 := hB.get 1
        have B2 := hB.get 2
        have B3 := hB.get 3
        simp only [List.getElem?_toArray, List.getElem?_cons_zero, List.getElem?_cons_succ] at B0 B1 B2 B3
        go_simp
        all_goals with_reducible rfl
      try simp only [Act.put, List.setIfInBounds_toArray, List.set_cons_zero, List.set_cons_succ, List.getElem_toArray, List.getElem_cons_zero, List.getElem_cons_succ]
      refine wpAnyH_take (i := 2) (v := ?_) rfl (by kernel_rfl) (by kernel_rfl) (by kernel_rfl) (fun _ _ _ h => h) (Or.inl ⟨by rfl, ?_⟩) (by assumption) ?_
      rotate_left
      · intro w hSw
        obtain ⟨hA, hB⟩ := hSw
        have A0 := hA.get 0
        have A1 := hA.get 1
        have A2 := hA.get 2
        have A3 := hA.get 3
        simp only [List.getElem?_toArray, List.getElem?_cons_zero, List.getElem?_cons_succ] at A0 A1 A2 A3
        have B0 := hB.get 0
        have B1 := hB.get 1
        have B2 := hB.get 2
        have B3 := hB.get 3
        simp only [List.getElem?_toArray, List.getElem?_cons_zero, List.getElem?_cons_succ] at B0 B1 B2 B3
        go_simp
        all_goals with_reducible rfl
      try simp only [Act.put, List.setIfInBounds_toArray, List.set_cons_zero, List.set_cons_succ, List.getElem_toArray, List.getElem_cons_zero, List.getElem_cons_succ]
      refine wpAnyH_take (i := 3) (v := ?_) rfl (by kernel_rfl) (by kernel_rfl) (by kernel_rfl) (fun _ _ _ h => h) (Or.inl ⟨by rfl, ?_⟩) (by assumption) ?_
      rotate_left
      · intro w hSw
        obtain ⟨hA, hB⟩ := hSw
        have A0 := hA.get 0
        have A1 := hA.get 1
        have A2 := hA.get 2
        have A3 := hA.get 3
        simp only [List.getElem?_toArray, List.getElem?_cons_zero, List.getElem?_cons_succ] at A0 A1 A2 A3
        have B0 := hB.get 0
        have B1 := hB.get 1
        have B2 := hB.get 2
        have B3 := hB.get 3
        simp only [List.getElem?_toArray, List.getElem?_cons_zero, List.getElem?_cons_succ] at B0 B1 B2 B3
        go_simp
        all_goals with_reducible rfl
      try simp only [Act.put, List.setIfInBounds_toArray, List.set_cons_zero, List.set_cons_succ, List.getElem_toArray, List.getElem_cons_zero, List.getElem_cons_succ]
      refine wpAnyH_take (i := 4) (v := ?_) rfl (by kernel_rfl) (by kernel_rfl) (by kernel_rfl) (fun _ _ _ h => h) (Or.inl ⟨by rfl, ?_⟩) (by assumption) ?_
      rotate_left
      · intro w hSw
        obtain ⟨hA, hB⟩ := hSw
        have A0 := hA.get 0
        have A1 := hA.get 1
        have A2 := hA.get 2
        have A3 := hA.get 3
        simp only [List.getElem?_toArray, List.getElem?_cons_zero, List.getElem?_cons_succ] at A0 A1 A2 A3
        have B0 := hB.get 0
        have B1 := hB.get 1
        have B2 := hB.get 2
        have B3 := hB.get 3
        simp only [List.getElem?_toArray, List.getElem?_cons_zero, List.getElem?_cons_succ] at B0 B1 B2 B3
        go_simp
        all_goals with_reducible rfl
      try simp only [Act.put, List.setIfInBounds_toArray, List.set_cons_zero, List.set_cons_succ, List.getElem_toArray, List.getElem_cons_zero, List.getElem_cons_succ]
      replace R1 := R1.up ((Up.refl _).drew)
      replace R2 := R2.up ((Up.refl _).drew)
      replace A := A.up ((Up.refl _).drew)
      replace B := B.up ((Up.refl _).drew)
      replace U := U.drew
      replace N := N.up ((Up.refl _).drew)
      clear hHeld
      refine wpAnyH_ready (rs := [5]) (by kernel_rfl) (by simp) ?_
      refine AllReadyH.cons rfl (fun K hK => ?_) AllReadyH.nil
      rw [if_pos (by rfl)]
      refine wp_store_row 25 (.tmp 4) (.tmp 92) rfl w.heap.size #[.bool false, .slice A1 n1 k1, .int .i64 z1, .int .i64 0] rfl rfl 25 #[.bool false, .slice none 0 0, .int .i64 0, .int .i64 0] R1 (by kernel_rfl) rfl (by simp [Value.oneCell']) ?_
      have oS : ∀ b', b' ≠ w.heap.size → (V10.drew.setRow w.heap.size #[.bool false, .slice A1 n1 k1, .int .i64 z1, .int .i64 0]).heap[b']? = V10.drew.heap[b']? := fun b' h => setRow_other _ _ _ _ h
      replace R1 : Ob (V10.drew.setRow w.heap.size #[.bool false, .slice A1 n1 k1, .int .i64 z1, .int .i64 0]) w.heap.size 25 #[.bool false, .slice A1 n1 k1, .int .i64 z1, .int .i64 0] := setRow_heap _ _ _ _ _ _ R1
      replace U : Up w (V10.drew.setRow w.heap.size #[.bool false, .slice A1 n1 k1, .int .i64 z1, .int .i64 0]) := U.setRow_ ltR1 _
      replace R2 := Ob.oth R2 oS (by omega)
      replace A := Ob.oth A oS (by omega)
      replace B := Ob.oth B oS (by omega)
      replace N := Nt.other N oS (by omega)
      refine hK.out _ _ ⟨A, B⟩ (fun _ => ?_)
      try simp only [Act.put, List.setIfInBounds_toArray, List.set_cons_zero, List.set_cons_succ, List.getElem_toArray, List.getElem_cons_zero, List.getElem_cons_succ]
      clear hK oS
      obtain ⟨VC, hVC⟩ : ∃ VC, V10.drew.setRow w.heap.size #[.bool false, .slice A1 n1 k1, .int .i64 z1, .int .i64 0] = VC := ⟨_, rfl⟩
      rw [hVC] at U R1 R2 A B N ⊢
      clear hVC
      refine wpAnyH_ready (rs := [6]) (by kernel_rfl) (by simp) ?_
      refine AllReadyH.cons rfl (fun K hK => ?_) AllReadyH.nil
      rw [if_pos (by rfl)]
      refine wp_store_row 25 (.tmp 5) (.tmp 93) rfl (w.heap.size + 1) #[.bool false, .slice none 0 0, .int .i64 0, .int .i64 0] rfl rfl 25 #[.bool false, .slice none 0 0, .int .i64 0, .int .i64 0] R2 (by kernel_rfl) rfl (by simp [Value.oneCell']) ?_
      have oS : ∀ b', b' ≠ (w.heap.size + 1) → (VC.setRow (w.heap.size + 1) #[.bool false, .slice none 0 0, .int .i64 0, .int .i64 0]).heap[b']? = VC.heap[b']? := fun b' h => setRow_other _ _ _ _ h
      replace R2 : Ob (VC.setRow (w.heap.size + 1) #[.bool false, .slice none 0 0, .int .i64 0, .int .i64 0]) (w.heap.size + 1) 25 #[.bool false, .slice none 0 0, .int .i64 0, .int .i64 0] := setRow_heap _ _ _ _ _ _ R2
      replace U : Up w (VC.setRow (w.heap.size + 1) #[.bool false, .slice none 0 0, .int .i64 0, .int .i64 0]) := U.setRow_ ltR2 _
      replace R1 := Ob.oth R1 oS (by omega)
      replace A := Ob.oth A oS (by omega)
      replace B := Ob.oth B oS (by omega)
      replace N := Nt.other N oS (by omega)
      refine hK.out _ _ ⟨A, B⟩ (fun _ => ?_)
      try simp only [Act.put, List.setIfInBounds_toArray, List.set_cons_zero, List.set_cons_succ, List.getElem_toArray, List.getElem_cons_zero, List.getElem_cons_succ]
      clear hK oS
      obtain ⟨VD, hVD⟩ : ∃ VD, VC.setRow (w.heap.size + 1) #[.bool false, .slice none 0 0, .int .i64 0, .int .i64 0] = VD := ⟨_, rfl⟩
      rw [hVD] at U R1 R2 A B N ⊢
      clear hVD
      refine wpAnyH_ready (rs := [7]) (by kernel_rfl) (by simp) ?_
      refine AllReadyH.cons rfl (fun K hK => ?_) AllReadyH.nil
      go_simp
      refine hK.out _ _ ⟨A, B⟩ (fun _ => ?_)
      try simp only [Act.put, List.setIfInBounds_toArray, List.set_cons_zero, List.set_cons_succ, List.getElem_toArray, List.getElem_cons_zero, List.getElem_cons_succ]
      clear hK
      refine wpAnyH_done (by kernel_rfl) ?_ _
      go_wp2_with fail
      have yy0 := R1.get 0
      have yy1 := R1.get 1
      have yy2 := R1.get 2
      have yy3 := R1.get 3
      simp only [List.getElem?_toArray, List.getElem?_cons_zero, List.getElem?_cons_succ] at yy0 yy1 yy2 yy3
      have zz0 := R2.get 0
      have zz1 := R2.get 1
      have zz2 := R2.get 2
      have zz3 := R2.get 3
      simp only [List.getElem?_toArray, List.getElem?_cons_zero, List.getElem?_cons_succ] at zz0 zz1 zz2 zz3
      refine bodyPost_ret (v := .tuple #[xv false (.slice A1 n1 k1) z1 0, xv false (.slice none 0 0) 0 0, .bool ev]) (by simp [results, Tryz.results15, go_sem, em, yy0, yy1, yy2, yy3, zz0, zz1, zz2, zz3]) rfl ?_
      exact ⟨_, _, rfl, N.lower (by omega), Nt.nil _ _ _, U⟩
  ·
    obtain ⟨c1, b2⟩ : k < q ∧ M.Bd f k m2 z2 := by
      rcases L2 with h | ⟨h, _⟩ | ⟨h, _⟩ | ⟨h, _⟩ | ⟨h, _⟩
      · exact h
      all_goals omega
    have k1 : ((k : Int) == 1) = true := by rw [beq_iff_eq]; omega
    have k2 : (f.k != 1) = true := by simpa using a3
    clear a3
    obtain ⟨k', hk'⟩ : ∃ k', k - 1 = k' := ⟨_, rfl⟩
    rw [hk'] at b1
    have e1 : IntKind.u64.wrap ((k : Int) - 1) = (k' : Int) := wrap_u64 (by omega) (by omega)
    have CA := Lib.hid (fun W => CB.out W k' (by omega) (by omega) m1 z1 b1)
    have hz1 := BZ.out k' m1 z1 (by omega) b1
    have CS1 := Lib.hid (fun W => rsize_any W m1 hz1.2.1 (by omega) z1)
    have CD := Lib.hid (fun W => CB.out W k kb kt m2 z2 b2)
    have hz2 := BZ.out k m2 z2 kt b2
    have CS2 := Lib.hid (fun W => rsize_any W m2 hz2.2.1 (by omega) z2)
    clear CB BZ kt qt a2 b1 hk' hz1 b2 hz2
    have U := Up.refl w
    go_enter Tryz.func15, Tryz.ntmps15
    go_wp2_with fail
    obtain ⟨V1, hV1⟩ : ∃ V1, w.alloc (.cells #[.bool false, .slice none 0 0, .int .i64 0, .int .i64 0] 25) = V1 := ⟨_, rfl⟩
    have sV1 : V1.heap.size = w.heap.size + 1 := by rw [← hV1]; exact Array.size_push _
    have R1 : Ob V1 w.heap.size 25 #[.bool false, .slice none 0 0, .int .i64 0, .int .i64 0] := by rw [← hV1]; exact Ob.mk_ _ _ _
    have uV1 : Up w V1 := by rw [← hV1]; exact (Up.refl _).alloc _
    have ltR1 : w.heap.size ≤ w.heap.size := U.size
    have ltR2 : w.heap.size ≤ w.heap.size + 1 := Nat.le_succ_of_le U.size
    rw [hV1]
    clear hV1
    obtain ⟨V2, hV2⟩ : ∃ V2, V1.alloc (.cells #[.bool false, .slice none 0 0, .int .i64 0, .int .i64 0] 25) = V2 := ⟨_, rfl⟩
    have R2 : Ob V2 (w.heap.size + 1) 25 #[.bool false, .slice none 0 0, .int .i64 0, .int .i64 0] := by rw [← sV1, ← hV2]; exact Ob.mk_ _ _ _
    have uV2 : Up V1 V2 := by rw [← hV2]; exact (Up.refl _).alloc _
    rw [hV2]
    clear hV2 sV1
    replace R1 := R1.up uV2
    replace uV2 := uV1.trans uV2
    clear uV1
    replace U := U.trans uV2
    clear uV2
    refine (CF.out _).mono ?_
    rintro _ w3 ⟨rfl, h3⟩
    replace U := U.trans h3
    replace R1 := R1.up h3
    replace R2 := R2.up h3
    clear h3
    go_wp2_with fail
    obtain ⟨V4, hV4⟩ : ∃ V4, w3.alloc (.cells #[.int .i64 f.k, .int .i64 f.W, .int .i64 f.m, .int .i64 f.b, .int .u64 f.t, .int .u64 f.n, .int .u64 f.x] 35) = V4 := ⟨_, rfl⟩
    have C : Bf V4 w3.heap.size 35 f := by rw [← hV4]; exact Bf.mk_ w3 f 35
    have ltC : w.heap.size ≤ w3.heap.size := U.size
    have uV4 : Up w3 V4 := by rw [← hV4]; exact (Up.refl _).alloc _
    rw [hV4]
    clear hV4
    replace U := U.trans uV4
    replace R1 := R1.up uV4
    replace R2 := R2.up uV4
    clear uV4
    refine (CK.out _).mono ?_
    rintro _ w5 ⟨rfl, h5⟩
    replace U := U.trans h5
    replace C := C.up h5
    replace R1 := R1.up h5
    replace R2 := R2.up h5
    clear h5
    go_wp2_with fail
    refine (CM.out _).mono ?_
    rintro _ w6 ⟨rfl, h6⟩
    replace U := U.trans h6
    replace C := C.up h6
    replace R1 := R1.up h6
    replace R2 := R2.up h6
    clear h6
    have hAR1 := R1.lt
    have hAR2 := R2.lt
    have hAC := Bf.lt C
    obtain ⟨C0, C1, C2, C3, C4, C5, C6⟩ := Bf.cs C
    have C7 := Bf.lt C
    simp only [Nat.zero_add] at C0 C1 C2 C3 C4 C5 C6 C7
    go_wp2_with fail
    clear C0 C1 C2 C3 C4 C5 C6 C7
    obtain ⟨V7, hV7⟩ : ∃ V7, w6.alloc (.cells #[.bool false, .slice none 0 0, .int .i64 0, .int .i64 0] 25) = V7 := ⟨_, rfl⟩
    have A : Ob V7 w6.heap.size 25 #[.bool false, .slice none 0 0, .int .i64 0, .int .i64 0] := by rw [← hV7]; exact Ob.mk_ _ _ _
    have uV7 : Up w6 V7 := by rw [← hV7]; exact (Up.refl _).alloc _
    have ltA : w.heap.size ≤ w6.heap.size := U.size
    rw [hV7]
    clear hV7
    replace U := U.trans uV7
    replace C := C.up uV7
    replace R1 := R1.up uV7
    replace R2 := R2.up uV7
    clear uV7
    refine (CA.out _).mono ?_
    rintro _ w8 ⟨rfl, h8⟩
    replace U := U.trans h8
    replace C := C.up h8
    replace R1 := R1.up h8
    replace R2 := R2.up h8
    replace A := A.up h8
    clear h8
    go_wp2_with fail
    have gN := A.lt
    refine (CS1.out _).mono ?_
    rintro _ w9 ⟨_, rfl, ⟨A1, n1, k1, ys1, rfl, N⟩, h9⟩
    replace U := U.trans h9
    replace C := C.up h9
    replace R1 := R1.up h9
    replace R2 := R2.up h9
    replace A := A.up h9
    clear h9
    replace N : Nt w9 _ 1 (.slice A1 n1 k1) m1 := ⟨_, _, _, _, rfl, N⟩
    have C7 := C
    go_upto_region 8 with (refine store_ob2 rfl 25 (.tmp 14) (.tmp 62) rfl _ #[.bool false, .slice none 0 0, .int .i64 0, .int .i64 0] #[.bool false, .slice A1 n1 k1, .int .i64 z1, .int .i64 0] rfl rfl 4 (by kernel_rfl) rfl rfl (by simp [Value.oneCell']) w U ltA 25 A ?_; clear U; intro VA Z9 U ho; replace N := Nt.other N ho (by omega); replace R1 := Ob.oth R1 ho (by omega); replace R2 := Ob.oth R2 ho (by omega); replace C := Bf.oth C7 ho (by omega); clear ho A C7; have A := Z9; clear Z9)
    have hB := A.lt
    have UA := Up.refl VA
    have UV := U
    have NV := N
    have R1V := R1
    have R2V := R2
    have AV := A
    obtain ⟨C0, C1, C2, C3, C4, C5, C6⟩ := Bf.cs C
    have C7 := Bf.lt C
    simp only [Nat.zero_add] at C0 C1 C2 C3 C4 C5 C6 C7
    go_wp2_with fail
    clear C0 C1 C2 C3 C4 C5 C6 C7
    obtain ⟨V10, hV10⟩ : ∃ V10, VA.alloc (.cells #[.bool false, .slice none 0 0, .int .i64 0, .int .i64 0] 25) = V10 := ⟨_, rfl⟩
    have B : Ob V10 VA.heap.size 25 #[.bool false, .slice none 0 0, .int .i64 0, .int .i64 0] := by rw [← hV10]; exact Ob.mk_ _ _ _
    have uV10 : Up VA V10 := by rw [← hV10]; exact (Up.refl _).alloc _
    have ltB : w.heap.size ≤ VA.heap.size := U.size
    rw [hV10]
    clear hV10
    replace U := U.trans uV10
    replace C := C.up uV10
    replace R1 := R1.up uV10
    replace R2 := R2.up uV10
    replace A := A.up uV10
    replace N := N.up uV10
    replace UA := UA.trans uV10
    clear uV10
    refine (CD.out _).mono ?_
    rintro _ w11 ⟨rfl, h11⟩
    replace U := U.trans h11
    replace C := C.up h11
    replace R1 := R1.up h11
    replace R2 := R2.up h11
    replace A := A.up h11
    replace B := B.up h11
    replace N := N.up h11
    replace UA := UA.trans h11
    clear h11
    go_wp2_with fail
    have gM := B.lt
    refine (CS2.out _).mono ?_
    rintro _ w12 ⟨_, rfl, ⟨A2, n2, k2, ys2, rfl, N2⟩, h12⟩
    replace U := U.trans h12
    replace C := C.up h12
    replace R1 := R1.up h12
    replace R2 := R2.up h12
    replace A := A.up h12
    replace B := B.up h12
    replace N := N.up h12
    replace UA := UA.trans h12
    clear h12
    replace N2 : Nt w12 _ 1 (.slice A2 n2 k2) m2 := ⟨_, _, _, _, rfl, N2⟩
    go_upto_region 12 with (refine store_ob2 rfl 25 (.tmp 18) (.tmp 91) rfl _ #[.bool false, .slice none 0 0, .int .i64 0, .int .i64 0] #[.bool false, .slice A2 n2 k2, .int .i64 z2, .int .i64 0] rfl rfl 4 (by kernel_rfl) rfl rfl (by simp [Value.oneCell']) VA UA (Nat.le_refl _) 25 B ?_; intro VB Z9 UB ho; replace N2 := Nt.other N2 ho (by omega); replace U := UV.trans UB; replace N := NV.up UB; replace R1 := R1V.up UB; replace R2 := R2V.up UB; replace A := AV.up UB; clear ho B UA; have B := Z9; clear Z9)
    clear UV NV R1V R2V AV UB
    clear C
    refine wp_region_held_drew (S := fun w' => Ob w' (w6.heap.size) 25 #[.bool false, .slice A1 n1 k1, .int .i64 z1, .int .i64 0] ∧ Ob w' (VA.heap.size) 25 #[.bool false, .slice A2 n2 k2, .int .i64 z2, .int .i64 0]) (by kernel_rfl) ⟨A.up ((Up.refl _).drew), B.up ((Up.refl _).drew)⟩ (fun hHeld => ?_)
    refine wpAnyH_take (i := 0) (v := ?_) rfl (by kernel_rfl) (by kernel_rfl) (by kernel_rfl) (fun _ _ _ h => h) (Or.inl ⟨by rfl, ?_⟩) (by assumption) ?_
    rotate_left
    · intro w hSw
      obtain ⟨hA, hB⟩ := hSw
      have A0 := hA.get 0
      have A1 := hA.get 1
      have A2 := hA.get 2
      have A3 := hA.get 3
      simp only [List.getElem?_toArray, List.getElem?_cons_zero, List.getElem?_cons_succ] at A0 A1 A2 A3
      have B0 := hB.get 0
      have B1 := hB.get 1
      have B2 := hB.get 2
      have B3 := hB.get 3
      simp only [List.getElem?_toArray, List.getElem?_cons_zero, List.getElem?_cons_succ] at B0 B1 B2 B3
      go_simp
      all_goals with_reducible rfl
    try simp only [Act.put, List.setIfInBounds_toArray, List.set_cons_zero, List.set_cons_succ, List.getElem_toArray, List.getElem_cons_zero, List.getElem_cons_succ]
    refine wpAnyH_take (i := 1) (v := ?_) rfl (by kernel_rfl) (by kernel_rfl) (by kernel_rfl) (fun _ _ _ h => h) (Or.inl ⟨by rfl, ?_⟩) (by assumption) ?_
    rotate_left
    · intro w hSw
      obtain ⟨hA, hB⟩ := hSw
      have A0 := hA.get 0
      have A1 := hA.get 1
      have A2 := hA.get 2
      have A3 := hA.get 3
      simp only [List.getElem?_toArray, List.getElem?_cons_zero, List.getElem?_cons_succ] at A0 A1 A2 A3
      have B0 := hB.get 0
      have B1 := hB.get 1
      have B2 := hB.get 2
      have B3 := hB.get 3
      simp only [List.getElem?_toArray, List.getElem?_cons_zero, List.getElem?_cons_succ] at B0 B1 B2 B3
      go_simp
      all_goals with_reducible rfl
    try simp only [Act.put, List.setIfInBounds_toArray, List.set_cons_zero, List.set_cons_succ, List.getElem_toArray, List.getElem_cons_zero, List.getElem_cons_succ]
    refine wpAnyH_take (i := 2) (v := ?_) rfl (by kernel_rfl) (by kernel_rfl) (by kernel_rfl) (fun _ _ _ h => h) (Or.inl ⟨by rfl, ?_⟩) (by assumption) ?_
    rotate_left
    · intro w hSw
      obtain ⟨hA, hB⟩ := hSw
      have A0 := hA.get 0
      have A1 := hA.get 1
      have A2 := hA.get 2
      have A3 := hA.get 3
      simp only [List.getElem?_toArray, List.getElem?_cons_zero, List.getElem?_cons_succ] at A0 A1 A2 A3
      have B0 := hB.get 0
      have B1 := hB.get 1
      have B2 := hB.get 2
      have B3 := hB.get 3
      simp only [List.getElem?_toArray, List.getElem?_cons_zero, List.getElem?_cons_succ] at B0 B1 B2 B3
      go_simp
      all_goals with_reducible rfl
    try simp only [Act.put, List.setIfInBounds_toArray, List.set_cons_zero, List.set_cons_succ, List.getElem_toArray, List.getElem_cons_zero, List.getElem_cons_succ]
    refine wpAnyH_take (i := 3) (v := ?_) rfl (by kernel_rfl) (by kernel_rfl) (by kernel_rfl) (fun _ _ _ h => h) (Or.inl ⟨by rfl, ?_⟩) (by assumption) ?_
    rotate_left
    · intro w hSw
      obtain ⟨hA, hB⟩ := hSw
      have A0 := hA.get 0
      have A1 := hA.get 1
      have A2 := hA.get 2
      have A3 := hA.get 3
      simp only [List.getElem?_toArray, List.getElem?_cons_zero, List.getElem?_cons_succ] at A0 A1 A2 A3
      have B0 := hB.get 0
      have B1 := hB.get 1
      have B2 := hB.get 2
      have B3 := hB.get 3
      simp only [List.getElem?_toArray, List.getElem?_cons_zero, List.getElem?_cons_succ] at B0 B1 B2 B3
      go_simp
      all_goals with_reducible rfl
    try simp only [Act.put, List.setIfInBounds_toArray, List.set_cons_zero, List.set_cons_succ, List.getElem_toArray, List.getElem_cons_zero, List.getElem_cons_succ]
    refine wpAnyH_take (i := 4) (v := ?_) rfl (by kernel_rfl) (by kernel_rfl) (by kernel_rfl) (fun _ _ _ h => h) (Or.inl ⟨by rfl, ?_⟩) (by assumption) ?_
    rotate_left
    · intro w hSw
      obtain ⟨hA, hB⟩ := hSw
      have A0 := hA.get 0
      have A1 := hA.get 1
      have A2 := hA.get 2
      have A3 := hA.get 3
      simp only [List.getElem?_toArray, List.getElem?_cons_zero, List.getElem?_cons_succ] at A0 A1 A2 A3
      have B0 := hB.get 0
      have B1 := hB.get 1
      have B2 := hB.get 2
      have B3 := hB.get 3
      simp only [List.getElem?_toArray, List.getElem?_cons_zero, List.getElem?_cons_succ] at B0 B1 B2 B3
      go_simp
      all_goals with_reducible rfl
    try simp only [Act.put, List.setIfInBounds_toArray, List.set_cons_zero, List.set_cons_succ, List.getElem_toArray, List.getElem_cons_zero, List.getElem_cons_succ]
    replace R1 := R1.up ((Up.refl _).drew)
    replace R2 := R2.up ((Up.refl _).drew)
    replace A := A.up ((Up.refl _).drew)
    replace B := B.up ((Up.refl _).drew)
    replace U := U.drew
    replace N := N.up ((Up.refl _).drew)
    replace N2 := N2.up ((Up.refl _).drew)
    clear hHeld
    refine wpAnyH_ready (rs := [5]) (by kernel_rfl) (by simp) ?_
    refine AllReadyH.cons rfl (fun K hK => ?_) AllReadyH.nil
    rw [if_pos (by rfl)]
    refine wp_store_row 25 (.tmp 4) (.tmp 92) rfl w.heap.size #[.bool false, .slice A1 n1 k1, .int .i64 z1, .int .i64 0] rfl rfl 25 #[.bool false, .slice none 0 0, .int .i64 0, .int .i64 0] R1 (by kernel_rfl) rfl (by simp [Value.oneCell']) ?_
    have oS : ∀ b', b' ≠ w.heap.size → (VB.drew.setRow w.heap.size #[.bool false, .slice A1 n1 k1, .int .i64 z1, .int .i64 0]).heap[b']? = VB.drew.heap[b']? := fun b' h => setRow_other _ _ _ _ h
    replace R1 : Ob (VB.drew.setRow w.heap.size #[.bool false, .slice A1 n1 k1, .int .i64 z1, .int .i64 0]) w.heap.size 25 #[.bool false, .slice A1 n1 k1, .int .i64 z1, .int .i64 0] := setRow_heap _ _ _ _ _ _ R1
    replace U : Up w (VB.drew.setRow w.heap.size #[.bool false, .slice A1 n1 k1, .int .i64 z1, .int .i64 0]) := U.setRow_ ltR1 _
    replace R2 := Ob.oth R2 oS (by omega)
    replace A := Ob.oth A oS (by omega)
    replace B := Ob.oth B oS (by omega)
    replace N := Nt.other N oS (by omega)
    replace N2 := Nt.other N2 oS (by omega)
    refine hK.out _ _ ⟨A, B⟩ (fun _ => ?_)
    try simp only [Act.put, List.setIfInBounds_toArray, List.set_cons_zero, List.set_cons_succ, List.getElem_toArray, List.getElem_cons_zero, List.getElem_cons_succ]
    clear hK oS
    obtain ⟨VC, hVC⟩ : ∃ VC, VB.drew.setRow w.heap.size #[.bool false, .slice A1 n1 k1, .int .i64 z1, .int .i64 0] = VC := ⟨_, rfl⟩
    rw [hVC] at U R1 R2 A B N N2 ⊢
    clear hVC
    refine wpAnyH_ready (rs := [6]) (by kernel_rfl) (by simp) ?_
    refine AllReadyH.cons rfl (fun K hK => ?_) AllReadyH.nil
    rw [if_pos (by rfl)]
    refine wp_store_row 25 (.tmp 5) (.tmp 93) rfl (w.heap.size + 1) #[.bool false, .slice A2 n2 k2, .int .i64 z2, .int .i64 0] rfl rfl 25 #[.bool false, .slice none 0 0, .int .i64 0, .int .i64 0] R2 (by kernel_rfl) rfl (by simp [Value.oneCell']) ?_
    have oS : ∀ b', b' ≠ (w.heap.size + 1) → (VC.setRow (w.heap.size + 1) #[.bool false, .slice A2 n2 k2, .int .i64 z2, .int .i64 0]).heap[b']? = VC.heap[b']? := fun b' h => setRow_other _ _ _ _ h
    replace R2 : Ob (VC.setRow (w.heap.size + 1) #[.bool false, .slice A2 n2 k2, .int .i64 z2, .int .i64 0]) (w.heap.size + 1) 25 #[.bool false, .slice A2 n2 k2, .int .i64 z2, .int .i64 0] := setRow_heap _ _ _ _ _ _ R2
    replace U : Up w (VC.setRow (w.heap.size + 1) #[.bool false, .slice A2 n2 k2, .int .i64 z2, .int .i64 0]) := U.setRow_ ltR2 _
    replace R1 := Ob.oth R1 oS (by omega)
    replace A := Ob.oth A oS (by omega)
    replace B := Ob.oth B oS (by omega)
    replace N := Nt.other N oS (by omega)
    replace N2 := Nt.other N2 oS (by omega)
    refine hK.out _ _ ⟨A, B⟩ (fun _ => ?_)
    try simp only [Act.put, List.setIfInBounds_toArray, List.set_cons_zero, List.set_cons_succ, List.getElem_toArray, List.getElem_cons_zero, List.getElem_cons_succ]
    clear hK oS
    obtain ⟨VD, hVD⟩ : ∃ VD, VC.setRow (w.heap.size + 1) #[.bool false, .slice A2 n2 k2, .int .i64 z2, .int .i64 0] = VD := ⟨_, rfl⟩
    rw [hVD] at U R1 R2 A B N N2 ⊢
    clear hVD
    refine wpAnyH_ready (rs := [7]) (by kernel_rfl) (by simp) ?_
    refine AllReadyH.cons rfl (fun K hK => ?_) AllReadyH.nil
    go_simp
    refine hK.out _ _ ⟨A, B⟩ (fun _ => ?_)
    try simp only [Act.put, List.setIfInBounds_toArray, List.set_cons_zero, List.set_cons_succ, List.getElem_toArray, List.getElem_cons_zero, List.getElem_cons_succ]
    clear hK
    refine wpAnyH_done (by kernel_rfl) ?_ _
    go_wp2_with fail
    have yy0 := R1.get 0
    have yy1 := R1.get 1
    have yy2 := R1.get 2
    have yy3 := R1.get 3
    simp only [List.getElem?_toArray, List.getElem?_cons_zero, List.getElem?_cons_succ] at yy0 yy1 yy2 yy3
    have zz0 := R2.get 0
    have zz1 := R2.get 1
    have zz2 := R2.get 2
    have zz3 := R2.get 3
    simp only [List.getElem?_toArray, List.getElem?_cons_zero, List.getElem?_cons_succ] at zz0 zz1 zz2 zz3
    refine bodyPost_ret (v := .tuple #[xv false (.slice A1 n1 k1) z1 0, xv false (.slice A2 n2 k2) z2 0, .bool ev]) (by simp [results, Tryz.results15, go_sem, em, yy0, yy1, yy2, yy3, zz0, zz1, zz2, zz3]) rfl ?_
    exact ⟨_, _, rfl, N.lower (by omega), N2.lower (by omega), U⟩
  ·
    obtain ⟨c1, b2⟩ : k < q ∧ M.Bd f k m2 z2 := by
      rcases L2 with h | ⟨h, _⟩ | ⟨h, _⟩ | ⟨h, _⟩ | ⟨h, _⟩
      · exact h
      all_goals omega
    have k1 : ((k : Int) == 1) = true := by rw [beq_iff_eq]; omega
    have k2 : (f.k != 1) = false := by simpa using a3
    clear a3
    have CD := Lib.hid (fun W => CB.out W k kb kt m2 z2 b2)
    have hz2 := BZ.out k m2 z2 kt b2
    have CS2 := Lib.hid (fun W => rsize_any W m2 hz2.2.1 (by omega) z2)
    clear CB BZ kt qt a2 b2 hz2
    have U := Up.refl w
    go_enter Tryz.func15, Tryz.ntmps15
    go_wp2_with fail
    obtain ⟨V1, hV1⟩ : ∃ V1, w.alloc (.cells #[.bool false, .slice none 0 0, .int .i64 0, .int .i64 0] 25) = V1 := ⟨_, rfl⟩
    have sV1 : V1.heap.size = w.heap.size + 1 := by rw [← hV1]; exact Array.size_push _
    have R1 : Ob V1 w.heap.size 25 #[.bool false, .slice none 0 0, .int .i64 0, .int .i64 0] := by rw [← hV1]; exact Ob.mk_ _ _ _
    have uV1 : Up w V1 := by rw [← hV1]; exact (Up.refl _).alloc _
    have ltR1 : w.heap.size ≤ w.heap.size := U.size
    have ltR2 : w.heap.size ≤ w.heap.size + 1 := Nat.le_succ_of_le U.size
    rw [hV1]
    clear hV1
    obtain ⟨V2, hV2⟩ : ∃ V2, V1.alloc (.cells #[.bool false, .slice none 0 0, .int .i64 0, .int .i64 0] 25) = V2 := ⟨_, rfl⟩
    have R2 : Ob V2 (w.heap.size + 1) 25 #[.bool false, .slice none 0 0, .int .i64 0, .int .i64 0] := by rw [← sV1, ← hV2]; exact Ob.mk_ _ _ _
    have uV2 : Up V1 V2 := by rw [← hV2]; exact (Up.refl _).alloc _
    rw [hV2]
    clear hV2 sV1
    replace R1 := R1.up uV2
    replace uV2 := uV1.trans uV2
    clear uV1
    replace U := U.trans uV2
    clear uV2
    refine (CF.out _).mono ?_
    rintro _ w3 ⟨rfl, h3⟩
    replace U := U.trans h3
    replace R1 := R1.up h3
    replace R2 := R2.up h3
    clear h3
    go_wp2_with fail
    obtain ⟨V4, hV4⟩ : ∃ V4, w3.alloc (.cells #[.int .i64 f.k, .int .i64 f.W, .int .i64 f.m, .int .i64 f.b, .int .u64 f.t, .int .u64 f.n, .int .u64 f.x] 35) = V4 := ⟨_, rfl⟩
    have C : Bf V4 w3.heap.size 35 f := by rw [← hV4]; exact Bf.mk_ w3 f 35
    have ltC : w.heap.size ≤ w3.heap.size := U.size
    have uV4 : Up w3 V4 := by rw [← hV4]; exact (Up.refl _).alloc _
    rw [hV4]
    clear hV4
    replace U := U.trans uV4
    replace R1 := R1.up uV4
    replace R2 := R2.up uV4
    clear uV4
    refine (CK.out _).mono ?_
    rintro _ w5 ⟨rfl, h5⟩
    replace U := U.trans h5
    replace C := C.up h5
    replace R1 := R1.up h5
    replace R2 := R2.up h5
    clear h5
    go_wp2_with fail
    refine (CM.out _).mono ?_
    rintro _ w6 ⟨rfl, h6⟩
    replace U := U.trans h6
    replace C := C.up h6
    replace R1 := R1.up h6
    replace R2 := R2.up h6
    clear h6
    have hAR1 := R1.lt
    have hAR2 := R2.lt
    have hAC := Bf.lt C
    obtain ⟨C0, C1, C2, C3, C4, C5, C6⟩ := Bf.cs C
    have C7 := Bf.lt C
    simp only [Nat.zero_add] at C0 C1 C2 C3 C4 C5 C6 C7
    go_wp2_with fail
    clear C0 C1 C2 C3 C4 C5 C6 C7
    obtain ⟨V7, hV7⟩ : ∃ V7, w6.alloc (.cells #[.bool false, .slice none 0 0, .int .i64 0, .int .i64 0] 25) = V7 := ⟨_, rfl⟩
    have sV7 : V7.heap.size = w6.heap.size + 1 := by rw [← hV7]; exact Array.size_push _
    have A : Ob V7 w6.heap.size 25 #[.bool false, .slice none 0 0, .int .i64 0, .int .i64 0] := by rw [← hV7]; exact Ob.mk_ _ _ _
    have uV7 : Up w6 V7 := by rw [← hV7]; exact (Up.refl _).alloc _
    have ltA : w.heap.size ≤ w6.heap.size := U.size
    have ltB : w.heap.size ≤ w6.heap.size + 1 := Nat.le_succ_of_le U.size
    have gAR1 := R1.lt
    have gAR2 := R2.lt
    rw [hV7]
    clear hV7
    obtain ⟨V8, hV8⟩ : ∃ V8, V7.alloc (.cells #[.bool false, .slice none 0 0, .int .i64 0, .int .i64 0] 25) = V8 := ⟨_, rfl⟩
    have B : Ob V8 (w6.heap.size + 1) 25 #[.bool false, .slice none 0 0, .int .i64 0, .int .i64 0] := by rw [← sV7, ← hV8]; exact Ob.mk_ _ _ _
    have uV8 : Up V7 V8 := by rw [← hV8]; exact (Up.refl _).alloc _
    rw [hV8]
    clear hV8 sV7
    replace A := A.up uV8
    replace uV8 := uV7.trans uV8
    clear uV7
    replace U := U.trans uV8
    replace C := C.up uV8
    replace R1 := R1.up uV8
    replace R2 := R2.up uV8
    clear uV8
    refine (CD.out _).mono ?_
    rintro _ w9 ⟨rfl, h9⟩
    replace U := U.trans h9
    replace C := C.up h9
    replace R1 := R1.up h9
    replace R2 := R2.up h9
    replace A := A.up h9
    replace B := B.up h9
    clear h9
    go_wp2_with fail
    have gM := B.lt
    refine (CS2.out _).mono ?_
    rintro _ w10 ⟨_, rfl, ⟨A2, n2, k2, ys2, rfl, N2⟩, h10⟩
    replace U := U.trans h10
    replace C := C.up h10
    replace R1 := R1.up h10
    replace R2 := R2.up h10
    replace A := A.up h10
    replace B := B.up h10
    clear h10
    replace N2 : Nt w10 _ 1 (.slice A2 n2 k2) m2 := ⟨_, _, _, _, rfl, N2⟩
    go_upto_region 12 with (refine store_ob2 rfl 25 (.tmp 18) (.tmp 91) rfl _ #[.bool false, .slice none 0 0, .int .i64 0, .int .i64 0] #[.bool false, .slice A2 n2 k2, .int .i64 z2, .int .i64 0] rfl rfl 4 (by kernel_rfl) rfl rfl (by simp [Value.oneCell']) w U ltB 25 B ?_; clear U; intro VB Z9 U ho; replace N2 := Nt.other N2 ho (by omega); replace R1 := Ob.oth R1 ho (by omega); replace R2 := Ob.oth R2 ho (by omega); replace A := Ob.oth A ho (by omega); clear ho B; have B := Z9; clear Z9)
    clear C
    refine wp_region_held_drew (S := fun w' => Ob w' (w6.heap.size) 25 #[.bool false, .slice none 0 0, .int .i64 0, .int .i64 0] ∧ Ob w' (w6.heap.size + 1) 25 #[.bool false, .slice A2 n2 k2, .int .i64 z2, .int .i64 0]) (by kernel_rfl) ⟨A.up ((Up.refl _).drew), B.up ((Up.refl _).drew)⟩ (fun hHeld => ?_)
    refine wpAnyH_take (i := 0) (v := ?_) rfl (by kernel_rfl) (by kernel_rfl) (by kernel_rfl) (fun _ _ _ h => h) (Or.inl ⟨by rfl, ?_⟩) (by assumption) ?_
    rotate_left
    · intro w hSw
      obtain ⟨hA, hB⟩ := hSw
      have A0 := hA.get 0
      have A1 := hA.get 1
      have A2 := hA.get 2
      have A3 := hA.get 3
      simp only [List.getElem?_toArray, List.getElem?_cons_zero, List.getElem?_cons_succ] at A0 A1 A2 A3
      have B0 := hB.get 0
      have B1 := hB.get 1
      have B2 := hB.get 2
      have B3 := hB.get 3
      simp only [List.getElem?_toArray, List.getElem?_cons_zero, List.getElem?_cons_succ] at B0 B1 B2 B3
      go_simp
      all_goals with_reducible rfl
    try simp only [Act.put, List.setIfInBounds_toArray, List.set_cons_zero, List.set_cons_succ, List.getElem_toArray, List.getElem_cons_zero, List.getElem_cons_succ]
    refine wpAnyH_take (i := 1) (v := ?_) rfl (by kernel_rfl) (by kernel_rfl) (by kernel_rfl) (fun _ _ _ h => h) (Or.inl ⟨by rfl, ?_⟩) (by assumption) ?_
    rotate_left
    · intro w hSw
      obtain ⟨hA, hB⟩ := hSw
      have A0 := hA.get 0
      have A1 := hA.get 1
      have A2 := hA.get 2
      have A3 := hA.get 3
      simp only [List.getElem?_toArray, List.getElem?_cons_zero, List.getElem?_cons_succ] at A0 A1 A2 A3
      have B0 := hB.get 0
      have B1 := hB.get 1
      have B2 := hB.get 2
      have B3 := hB.get 3
      simp only [List.getElem?_toArray, List.getElem?_cons_zero, List.getElem?_cons_succ] at B0 B1 B2 B3
      go_simp
      all_goals with_reducible rfl
    try simp only [Act.put, List.setIfInBounds_toArray, List.set_cons_zero, List.set_cons_succ, List.getElem_toArray, List.getElem_cons_zero, List.getElem_cons_succ]
    refine wpAnyH_take (i := 2) (v := ?_) rfl (by kernel_rfl) (by kernel_rfl) (by kernel_rfl) (fun _ _ _ h => h) (Or.inl ⟨by rfl, ?_⟩) (by assumption) ?_
    rotate_left
    · intro w hSw
      obtain ⟨hA, hB⟩ := hSw
      have A0 := hA.get 0
      have A1 := hA.get 1
      have A2 := hA.get 2
      have A3 := hA.get 3
      simp only [List.getElem?_toArray, List.getElem?_cons_zero, List.getElem?_cons_succ] at A0 A1 A2 A3
      have B0 := hB.get 0
      have B1 := hB.get 1
      have B2 := hB.get 2
      have B3 := hB.get 3
      simp only [List.getElem?_toArray, List.getElem?_cons_zero, List.getElem?_cons_succ] at B0 B1 B2 B3
      go_simp
      all_goals with_reducible rfl
    try simp only [Act.put, List.setIfInBounds_toArray, List.set_cons_zero, List.set_cons_succ, List.getElem_toArray, List.getElem_cons_zero, List.getElem_cons_succ]
    refine wpAnyH_take (i := 3) (v := ?_) rfl (by kernel_rfl) (by kernel_rfl) (by kernel_rfl) (fun _ _ _ h => h) (Or.inl ⟨by rfl, ?_⟩) (by assumption) ?_
    rotate_left
    · intro w hSw
      obtain ⟨hA, hB⟩ := hSw
      have A0 := hA.get 0
      have A1 := hA.get 1
      have A2 := hA.get 2
      have A3 := hA.get 3
      simp only [List.getElem?_toArray, List.getElem?_cons_zero, List.getElem?_cons_succ] at A0 A1 A2 A3
      have B0 := hB.get 0
      have B1 := hB.get 1
      have B2 := hB.get 2
      have B3 := hB.get 3
      simp only [List.getElem?_toArray, List.getElem?_cons_zero, List.getElem?_cons_succ] at B0 B1 B2 B3
      go_simp
      all_goals with_reducible rfl
    try simp only [Act.put, List.setIfInBounds_toArray, List.set_cons_zero, List.set_cons_succ, List.getElem_toArray, List.getElem_cons_zero, List.getElem_cons_succ]
    refine wpAnyH_take (i := 4) (v := ?_) rfl (by kernel_rfl) (by kernel_rfl) (by kernel_rfl) (fun _ _ _ h => h) (Or.inl ⟨by rfl, ?_⟩) (by assumption) ?_
    rotate_left
    · intro w hSw
      obtain ⟨hA, hB⟩ := hSw
      have A0 := hA.get 0
      have A1 := hA.get 1
      have A2 := hA.get 2
      have A3 := hA.get 3
      simp only [List.getElem?_toArray, List.getElem?_cons_zero, List.getElem?_cons_succ] at A0 A1 A2 A3
      have B0 := hB.get 0
      have B1 := hB.get 1
      have B2 := hB.get 2
      have B3 := hB.get 3
      simp only [List.getElem?_toArray, List.getElem?_cons_zero, List.getElem?_cons_succ] at B0 B1 B2 B3
      go_simp
      all_goals with_reducible rfl
    try simp only [Act.put, List.setIfInBounds_toArray, List.set_cons_zero, List.set_cons_succ, List.getElem_toArray, List.getElem_cons_zero, List.getElem_cons_succ]
    replace R1 := R1.up ((Up.refl _).drew)
    replace R2 := R2.up ((Up.refl _).drew)
    replace A := A.up ((Up.refl _).drew)
    replace B := B.up ((Up.refl _).drew)
    replace U := U.drew
    replace N2 := N2.up ((Up.refl _).drew)
    clear hHeld
    refine wpAnyH_ready (rs := [5]) (by kernel_rfl) (by simp) ?_
    refine AllReadyH.cons rfl (fun K hK => ?_) AllReadyH.nil
    rw [if_pos (by rfl)]
    refine wp_store_row 25 (.tmp 4) (.tmp 92) rfl w.heap.size #[.bool false, .slice none 0 0, .int .i64 0, .int .i64 0] rfl rfl 25 #[.bool false, .slice none 0 0, .int .i64 0, .int .i64 0] R1 (by kernel_rfl) rfl (by simp [Value.oneCell']) ?_
    have oS : ∀ b', b' ≠ w.heap.size → (VB.drew.setRow w.heap.size #[.bool false, .slice none 0 0, .int .i64 0, .int .i64 0]).heap[b']? = VB.drew.heap[b']? := fun b' h => setRow_other _ _ _ _ h
    replace R1 : Ob (VB.drew.setRow w.heap.size #[.bool false, .slice none 0 0, .int .i64 0, .int .i64 0]) w.heap.size 25 #[.bool false, .slice none 0 0, .int .i64 0, .int .i64 0] := setRow_heap _ _ _ _ _ _ R1
    replace U : Up w (VB.drew.setRow w.heap.size #[.bool false, .slice none 0 0, .int .i64 0, .int .i64 0]) := U.setRow_ ltR1 _
    replace R2 := Ob.oth R2 oS (by omega)
    replace A := Ob.oth A oS (by omega)
    replace B := Ob.oth B oS (by omega)
    replace N2 := Nt.other N2 oS (by omega)
    refine hK.out _ _ ⟨A, B⟩ (fun _ => ?_)
    try simp only [Act.put, List.setIfInBounds_toArray, List.set_cons_zero, List.set_cons_succ, List.getElem_toArray, List.getElem_cons_zero, List.getElem_cons_succ]
    clear hK oS
    obtain ⟨VC, hVC⟩ : ∃ VC, VB.drew.setRow w.heap.size #[.bool false, .slice none 0 0, .int .i64 0, .int .i64 0] = VC := ⟨_, rfl⟩
    rw [hVC] at U R1 R2 A B N2 ⊢
    clear hVC
    refine wpAnyH_ready (rs := [6]) (by kernel_rfl) (by simp) ?_
    refine AllReadyH.cons rfl (fun K hK => ?_) AllReadyH.nil
    rw [if_pos (by rfl)]
    refine wp_store_row 25 (.tmp 5) (.tmp 93) rfl (w.heap.size + 1) #[.bool false, .slice A2 n2 k2, .int .i64 z2, .int .i64 0] rfl rfl 25 #[.bool false, .slice none 0 0, .int .i64 0, .int .i64 0] R2 (by kernel_rfl) rfl (by simp [Value.oneCell']) ?_
    have oS : ∀ b', b' ≠ (w.heap.size + 1) → (VC.setRow (w.heap.size + 1) #[.bool false, .slice A2 n2 k2, .int .i64 z2, .int .i64 0]).heap[b']? = VC.heap[b']? := fun b' h => setRow_other _ _ _ _ h
    replace R2 : Ob (VC.setRow (w.heap.size + 1) #[.bool false, .slice A2 n2 k2, .int .i64 z2, .int .i64 0]) (w.heap.size + 1) 25 #[.bool false, .slice A2 n2 k2, .int .i64 z2, .int .i64 0] := setRow_heap _ _ _ _ _ _ R2
    replace U : Up w (VC.setRow (w.heap.size + 1) #[.bool false, .slice A2 n2 k2, .int .i64 z2, .int .i64 0]) := U.setRow_ ltR2 _
    replace R1 := Ob.oth R1 oS (by omega)
    replace A := Ob.oth A oS (by omega)
    replace B := Ob.oth B oS (by omega)
    replace N2 := Nt.other N2 oS (by omega)
    refine hK.out _ _ ⟨A, B⟩ (fun _ => ?_)
    try simp only [Act.put, List.setIfInBounds_toArray, List.set_cons_zero, List.set_cons_succ, List.getElem_toArray, List.getElem_cons_zero, List.getElem_cons_succ]
    clear hK oS
    obtain ⟨VD, hVD⟩ : ∃ VD, VC.setRow (w.heap.size + 1) #[.bool false, .slice A2 n2 k2, .int .i64 z2, .int .i64 0] = VD := ⟨_, rfl⟩
    rw [hVD] at U R1 R2 A B N2 ⊢
    clear hVD
    refine wpAnyH_ready (rs := [7]) (by kernel_rfl) (by simp) ?_
    refine AllReadyH.cons rfl (fun K hK => ?_) AllReadyH.nil
    go_simp
    refine hK.out _ _ ⟨A, B⟩ (fun _ => ?_)
    try simp only [Act.put, List.setIfInBounds_toArray, List.set_cons_zero, List.set_cons_succ, List.getElem_toArray, List.getElem_cons_zero, List.getElem_cons_succ]
    clear hK
    refine wpAnyH_done (by kernel_rfl) ?_ _
    go_wp2_with fail
    have yy0 := R1.get 0
    have yy1 := R1.get 1
    have yy2 := R1.get 2
    have yy3 := R1.get 3
    simp only [List.getElem?_toArray, List.getElem?_cons_zero, List.getElem?_cons_succ] at yy0 yy1 yy2 yy3
    have zz0 := R2.get 0
    have zz1 := R2.get 1
    have zz2 := R2.get 2
    have zz3 := R2.get 3
    simp only [List.getElem?_toArray, List.getElem?_cons_zero, List.getElem?_cons_succ] at zz0 zz1 zz2 zz3
    refine bodyPost_ret (v := .tuple #[xv false (.slice none 0 0) 0 0, xv false (.slice A2 n2 k2) z2 0, .bool ev]) (by simp [results, Tryz.results15, go_sem, em, yy0, yy1, yy2, yy3, zz0, zz1, zz2, zz3]) rfl ?_
    exact ⟨_, _, rfl, Nt.nil _ _ _, N2.lower (by omega), U⟩
  ·
    obtain ⟨c1, b2⟩ : k < q ∧ M.Bd f k m2 z2 := by
      rcases L2 with h | ⟨h, _⟩ | ⟨h, _⟩ | ⟨h, _⟩ | ⟨h, _⟩
      · exact h
      all_goals omega
    have a0 : ¬ 1 < k := by omega
    have k1 : ((k : Int) == 1) = false := by rw [beq_eq_false_iff_ne]; omega
    have CD := Lib.hid (fun W => CB.out W k kb kt m2 z2 b2)
    have hz2 := BZ.out k m2 z2 kt b2
    have CS2 := Lib.hid (fun W => rsize_any W m2 hz2.2.1 (by omega) z2)
    clear CB BZ kt qt a1 b2 hz2
    have U := Up.refl w
    go_enter Tryz.func15, Tryz.ntmps15
    go_wp2_with fail
    obtain ⟨V1, hV1⟩ : ∃ V1, w.alloc (.cells #[.bool false, .slice none 0 0, .int .i64 0, .int .i64 0] 25) = V1 := ⟨_, rfl⟩
    have sV1 : V1.heap.size = w.heap.size + 1 := by rw [← hV1]; exact Array.size_push _
    have R1 : Ob V1 w.heap.size 25 #[.bool false, .slice none 0 0, .int .i64 0, .int .i64 0] := by rw [← hV1]; exact Ob.mk_ _ _ _
    have uV1 : Up w V1 := by rw [← hV1]; exact (Up.refl _).alloc _
    have ltR1 : w.heap.size ≤ w.heap.size := U.size
    have ltR2 : w.heap.size ≤ w.heap.size + 1 := Nat.le_succ_of_le U.size
    rw [hV1]
    clear hV1
    obtain ⟨V2, hV2⟩ : ∃ V2, V1.alloc (.cells #[.bool false, .slice none 0 0, .int .i64 0, .int .i64 0] 25) = V2 := ⟨_, rfl⟩
    have R2 : Ob V2 (w.heap.size + 1) 25 #[.bool false, .slice none 0 0, .int .i64 0, .int .i64 0] := by rw [← sV1, ← hV2]; exact Ob.mk_ _ _ _
    have uV2 : Up V1 V2 := by rw [← hV2]; exact (Up.refl _).alloc _
    rw [hV2]
    clear hV2 sV1
    replace R1 := R1.up uV2
    replace uV2 := uV1.trans uV2
    clear uV1
    replace U := U.trans uV2
    clear uV2
    refine (CF.out _).mono ?_
    rintro _ w3 ⟨rfl, h3⟩
    replace U := U.trans h3
    replace R1 := R1.up h3
    replace R2 := R2.up h3
    clear h3
    go_wp2_with fail
    obtain ⟨V4, hV4⟩ : ∃ V4, w3.alloc (.cells #[.int .i64 f.k, .int .i64 f.W, .int .i64 f.m, .int .i64 f.b, .int .u64 f.t, .int .u64 f.n, .int .u64 f.x] 35) = V4 := ⟨_, rfl⟩
    have C : Bf V4 w3.heap.size 35 f := by rw [← hV4]; exact Bf.mk_ w3 f 35
    have ltC : w.heap.size ≤ w3.heap.size := U.size
    have uV4 : Up w3 V4 := by rw [← hV4]; exact (Up.refl _).alloc _
    rw [hV4]
    clear hV4
    replace U := U.trans uV4
    replace R1 := R1.up uV4
    replace R2 := R2.up uV4
    clear uV4
    refine (CK.out _).mono ?_
    rintro _ w5 ⟨rfl, h5⟩
    replace U := U.trans h5
    replace C := C.up h5
    replace R1 := R1.up h5
    replace R2 := R2.up h5
    clear h5
    go_wp2_with fail
    refine (CM.out _).mono ?_
    rintro _ w6 ⟨rfl, h6⟩
    replace U := U.trans h6
    replace C := C.up h6
    replace R1 := R1.up h6
    replace R2 := R2.up h6
    clear h6
    have hAR1 := R1.lt
    have hAR2 := R2.lt
    have hAC := Bf.lt C
    obtain ⟨C0, C1, C2, C3, C4, C5, C6⟩ := Bf.cs C
    have C7 := Bf.lt C
    simp only [Nat.zero_add] at C0 C1 C2 C3 C4 C5 C6 C7
    go_wp2_with fail
    clear C0 C1 C2 C3 C4 C5 C6 C7
    obtain ⟨V7, hV7⟩ : ∃ V7, w6.alloc (.cells #[.bool false, .slice none 0 0, .int .i64 0, .int .i64 0] 25) = V7 := ⟨_, rfl⟩
    have sV7 : V7.heap.size = w6.heap.size + 1 := by rw [← hV7]; exact Array.size_push _
    have A : Ob V7 w6.heap.size 25 #[.bool false, .slice none 0 0, .int .i64 0, .int .i64 0] := by rw [← hV7]; exact Ob.mk_ _ _ _
    have uV7 : Up w6 V7 := by rw [← hV7]; exact (Up.refl _).alloc _
    have ltA : w.heap.size ≤ w6.heap.size := U.size
    have ltB : w.heap.size ≤ w6.heap.size + 1 := Nat.le_succ_of_le U.size
    have gAR1 := R1.lt
    have gAR2 := R2.lt
    rw [hV7]
    clear hV7
    obtain ⟨V8, hV8⟩ : ∃ V8, V7.alloc (.cells #[.bool false, .slice none 0 0, .int .i64 0, .int .i64 0] 25) = V8 := ⟨_, rfl⟩
    have B : Ob V8 (w6.heap.size + 1) 25 #[.bool false, .slice none 0 0, .int .i64 0, .int .i64 0] := by rw [← sV7, ← hV8]; exact Ob.mk_ _ _ _
    have uV8 : Up V7 V8 := by rw [← hV8]; exact (Up.refl _).alloc _
    rw [hV8]
    clear hV8 sV7
    replace A := A.up uV8
    replace uV8 := uV7.trans uV8
    clear uV7
    replace U := U.trans uV8
    replace C := C.up uV8
    replace R1 := R1.up uV8
    replace R2 := R2.up uV8
    clear uV8
    refine (CD.out _).mono ?_
    rintro _ w9 ⟨rfl, h9⟩
    replace U := U.trans h9
    replace C := C.up h9
    replace R1 := R1.up h9
    replace R2 := R2.up h9
    replace A := A.up h9
    replace B := B.up h9
    clear h9
    go_wp2_with fail
    have gM := B.lt
    refine (CS2.out _).mono ?_
    rintro _ w10 ⟨_, rfl, ⟨A2, n2, k2, ys2, rfl, N2⟩, h10⟩
    replace U := U.trans h10
    replace C := C.up h10
    replace R1 := R1.up h10
    replace R2 := R2.up h10
    replace A := A.up h10
    replace B := B.up h10
    clear h10
    replace N2 : Nt w10 _ 1 (.slice A2 n2 k2) m2 := ⟨_, _, _, _, rfl, N2⟩
    go_upto_region 12 with (refine store_ob2 rfl 25 (.tmp 18) (.tmp 91) rfl _ #[.bool false, .slice none 0 0, .int .i64 0, .int .i64 0] #[.bool false, .slice A2 n2 k2, .int .i64 z2, .int .i64 0] rfl rfl 4 (by kernel_rfl) rfl rfl (by simp [Value.oneCell']) w U ltB 25 B ?_; clear U; intro VB Z9 U ho; replace N2 := Nt.other N2 ho (by omega); replace R1 := Ob.oth R1 ho (by omega); replace R2 := Ob.oth R2 ho (by omega); replace A := Ob.oth A ho (by omega); clear ho B; have B := Z9; clear Z9)
    clear C
    refine wp_region_held_drew (S := fun w' => Ob w' (w6.heap.size) 25 #[.bool false, .slice none 0 0, .int .i64 0, .int .i64 0] ∧ Ob w' (w6.heap.size + 1) 25 #[.bool false, .slice A2 n2 k2, .int .i64 z2, .int .i64 0]) (by kernel_rfl) ⟨A.up ((Up.refl _).drew), B.up ((Up.refl _).drew)⟩ (fun hHeld => ?_)
    refine wpAnyH_take (i := 0) (v := ?_) rfl (by kernel_rfl) (by kernel_rfl) (by kernel_rfl) (fun _ _ _ h => h) (Or.inl ⟨by rfl, ?_⟩) (by assumption) ?_
    rotate_left
    · intro w hSw
      obtain ⟨hA, hB⟩ := hSw
      have A0 := hA.get 0
      have A1 := hA.get 1
      have A2 := hA.get 2
      have A3 := hA.get 3
      simp only [List.getElem?_toArray, List.getElem?_cons_zero, List.getElem?_cons_succ] at A0 A1 A2 A3
      have B0 := hB.get 0
      have B1 := hB.get 1
      have B2 := hB.get 2
      have B3 := hB.get 3
      simp only [List.getElem?_toArray, List.getElem?_cons_zero, List.getElem?_cons_succ] at B0 B1 B2 B3
      go_simp
      all_goals with_reducible rfl
    try simp only [Act.put, List.setIfInBounds_toArray, List.set_cons_zero, List.set_cons_succ, List.getElem_toArray, List.getElem_cons_zero, List.getElem_cons_succ]
    refine wpAnyH_take (i := 1) (v := ?_) rfl (by kernel_rfl) (by kernel_rfl) (by kernel_rfl) (fun _ _ _ h => h) (Or.inl ⟨by rfl, ?_⟩) (by assumption) ?_
    rotate_left
    · intro w hSw
      obtain ⟨hA, hB⟩ := hSw
      have A0 := hA.get 0
      have A1 := hA.get 1
      have A2 := hA.get 2
      have A3 := hA.get 3
      simp only [List.getElem?_toArray, List.getElem?_cons_zero, List.getElem?_cons_succ] at A0 A1 A2 A3
      have B0 := hB.get 0
      have B1 := hB.get 1
      have B2 := hB.get 2
      have B3 := hB.get 3
      simp only [List.getElem?_toArray, List.getElem?_cons_zero, List.getElem?_cons_succ] at B0 B1 B2 B3
      go_simp
      all_goals with_reducible rfl
    try simp only [Act.put, List.setIfInBounds_toArray, List.set_cons_zero, List.set_cons_succ, List.getElem_toArray, List.getElem_cons_zero, List.getElem_cons_succ]
    refine wpAnyH_take (i := 2) (v := ?_) rfl (by kernel_rfl) (by kernel_rfl) (by kernel_rfl) (fun _ _ _ h => h) (Or.inl ⟨by rfl, ?_⟩) (by assumption) ?_
    rotate_left
    · intro w hSw
      obtain ⟨hA, hB⟩ := hSw
      have A0 := hA.get 0
      have A1 := hA.get 1
      have A2 := hA.get 2
      have A3 := hA.get 3
      simp only [List.getElem?_toArray, List.getElem?_cons_zero, List.getElem?_cons_succ] at A0 A1 A2 A3
      have B0 := hB.get 0
      have B1 := hB.get 1
      have B2 := hB.get 2
      have B3 := hB.get 3
      simp only [List.getElem?_toArray, List.getElem?_cons_zero, List.getElem?_cons_succ] at B0 B1 B2 B3
      go_simp
      all_goals with_reducible rfl
    try simp only [Act.put, List.setIfInBounds_toArray, List.set_cons_zero, List.set_cons_succ, List.getElem_toArray, List.getElem_cons_zero, List.getElem_cons_succ]
    refine wpAnyH_take (i := 3) (v := ?_) rfl (by kernel_rfl) (by kernel_rfl) (by kernel_rfl) (fun _ _ _ h => h) (Or.inl ⟨by rfl, ?_⟩) (by assumption) ?_
    rotate_left
    · intro w hSw
      obtain ⟨hA, hB⟩ := hSw
      have A0 := hA.get 0
      have A1 := hA.get 1
      have A2 := hA.get 2
      have A3 := hA.get 3
      simp only [List.getElem?_toArray, List.getElem?_cons_zero, List.getElem?_cons_succ] at A0 A1 A2 A3
      have B0 := hB.get 0
      have B1 := hB.get 1
      have B2 := hB.get 2
      have B3 := hB.get 3
      simp only [List.getElem?_toArray, List.getElem?_cons_zero, List.getElem?_cons_succ] at B0 B1 B2 B3
      go_simp
      all_goals with_reducible rfl
    try simp only [Act.put, List.setIfInBounds_toArray, List.set_cons_zero, List.set_cons_succ, List.getElem_toArray, List.getElem_cons_zero, List.getElem_cons_succ]
    refine wpAnyH_take (i := 4) (v := ?_) rfl (by kernel_rfl) (by kernel_rfl) (by kernel_rfl) (fun _ _ _ h => h) (Or.inl ⟨by rfl, ?_⟩) (by assumption) ?_
    rotate_left
    · intro w hSw
      obtain ⟨hA, hB⟩ := hSw
      have A0 := hA.get 0
      have A1 := hA.get 1
      have A2 := hA.get 2
      have A3 := hA.get 3
      simp only [List.getElem?_toArray, List.getElem?_cons_zero, List.getElem?_cons_succ] at A0 A1 A2 A3
      have B0 := hB.get 0
      have B1 := hB.get 1
      have B2 := hB.get 2
      have B3 := hB.get 3
      simp only [List.getElem?_toArray, List.getElem?_cons_zero, List.getElem?_cons_succ] at B0 B1 B2 B3
      go_simp
      all_goals with_reducible rfl
    try simp only [Act.put, List.setIfInBounds_toArray, List.set_cons_zero, List.set_cons_succ, List.getElem_toArray, List.getElem_cons_zero, List.getElem_cons_succ]
    replace R1 := R1.up ((Up.refl _).drew)
    replace R2 := R2.up ((Up.refl _).drew)
    replace A := A.up ((Up.refl _).drew)
    replace B := B.up ((Up.refl _).drew)
    replace U := U.drew
    replace N2 := N2.up ((Up.refl _).drew)
    clear hHeld
    refine wpAnyH_ready (rs := [5]) (by kernel_rfl) (by simp) ?_
    refine AllReadyH.cons rfl (fun K hK => ?_) AllReadyH.nil
    rw [if_pos (by rfl)]
    refine wp_store_row 25 (.tmp 4) (.tmp 92) rfl w.heap.size #[.bool false, .slice none 0 0, .int .i64 0, .int .i64 0] rfl rfl 25 #[.bool false, .slice none 0 0, .int .i64 0, .int .i64 0] R1 (by kernel_rfl) rfl (by simp [Value.oneCell']) ?_
    have oS : ∀ b', b' ≠ w.heap.size → (VB.drew.setRow w.heap.size #[.bool false, .slice none 0 0, .int .i64 0, .int .i64 0]).heap[b']? = VB.drew.heap[b']? := fun b' h => setRow_other _ _ _ _ h
    replace R1 : Ob (VB.drew.setRow w.heap.size #[.bool false, .slice none 0 0, .int .i64 0, .int .i64 0]) w.heap.size 25 #[.bool false, .slice none 0 0, .int .i64 0, .int .i64 0] := setRow_heap _ _ _ _ _ _ R1
    replace U : Up w (VB.drew.setRow w.heap.size #[.bool false, .slice none 0 0, .int .i64 0, .int .i64 0]) := U.setRow_ ltR1 _
    replace R2 := Ob.oth R2 oS (by omega)
    replace A := Ob.oth A oS (by omega)
    replace B := Ob.oth B oS (by omega)
    replace N2 := Nt.other N2 oS (by omega)
    refine hK.out _ _ ⟨A, B⟩ (fun _ => ?_)
    try simp only [Act.put, List.setIfInBounds_toArray, List.set_cons_zero, List.set_cons_succ, List.getElem_toArray, List.getElem_cons_zero, List.getElem_cons_succ]
    clear hK oS
    obtain ⟨VC, hVC⟩ : ∃ VC, VB.drew.setRow w.heap.size #[.bool false, .slice none 0 0, .int .i64 0, .int .i64 0] = VC := ⟨_, rfl⟩
    rw [hVC] at U R1 R2 A B N2 ⊢
    clear hVC
    refine wpAnyH_ready (rs := [6]) (by kernel_rfl) (by simp) ?_
    refine AllReadyH.cons rfl (fun K hK => ?_) AllReadyH.nil
    rw [if_pos (by rfl)]
    refine wp_store_row 25 (.tmp 5) (.tmp 93) rfl (w.heap.size + 1) #[.bool false, .slice A2 n2 k2, .int .i64 z2, .int .i64 0] rfl rfl 25 #[.bool false, .slice none 0 0, .int .i64 0, .int .i64 0] R2 (by kernel_rfl) rfl (by simp [Value.oneCell']) ?_
    have oS : ∀ b', b' ≠ (w.heap.size + 1) → (VC.setRow (w.heap.size + 1) #[.bool false, .slice A2 n2 k2, .int .i64 z2, .int .i64 0]).heap[b']? = VC.heap[b']? := fun b' h => setRow_other _ _ _ _ h
    replace R2 : Ob (VC.setRow (w.heap.size + 1) #[.bool false, .slice A2 n2 k2, .int .i64 z2, .int .i64 0]) (w.heap.size + 1) 25 #[.bool false, .slice A2 n2 k2, .int .i64 z2, .int .i64 0] := setRow_heap _ _ _ _ _ _ R2
    replace U : Up w (VC.setRow (w.heap.size + 1) #[.bool false, .slice A2 n2 k2, .int .i64 z2, .int .i64 0]) := U.setRow_ ltR2 _
    replace R1 := Ob.oth R1 oS (by omega)
    replace A := Ob.oth A oS (by omega)
    replace B := Ob.oth B oS (by omega)
    replace N2 := Nt.other N2 oS (by omega)
    refine hK.out _ _ ⟨A, B⟩ (fun _ => ?_)
    try simp only [Act.put, List.setIfInBounds_toArray, List.set_cons_zero, List.set_cons_succ, List.getElem_toArray, List.getElem_cons_zero, List.getElem_cons_succ]
    clear hK oS
    obtain ⟨VD, hVD⟩ : ∃ VD, VC.setRow (w.heap.size + 1) #[.bool false, .slice A2 n2 k2, .int .i64 z2, .int .i64 0] = VD := ⟨_, rfl⟩
    rw [hVD] at U R1 R2 A B N2 ⊢
    clear hVD
    refine wpAnyH_ready (rs := [7]) (by kernel_rfl) (by simp) ?_
    refine AllReadyH.cons rfl (fun K hK => ?_) AllReadyH.nil
    go_simp
    refine hK.out _ _ ⟨A, B⟩ (fun _ => ?_)
    try simp only [Act.put, List.setIfInBounds_toArray, List.set_cons_zero, List.set_cons_succ, List.getElem_toArray, List.getElem_cons_zero, List.getElem_cons_succ]
    clear hK
    refine wpAnyH_done (by kernel_rfl) ?_ _
    go_wp2_with fail
    have yy0 := R1.get 0
    have yy1 := R1.get 1
    have yy2 := R1.get 2
    have yy3 := R1.get 3
    simp only [List.getElem?_toArray, List.getElem?_cons_zero, List.getElem?_cons_succ] at yy0 yy1 yy2 yy3
    have zz0 := R2.get 0
    have zz1 := R2.get 1
    have zz2 := R2.get 2
    have zz3 := R2.get 3
    simp only [List.getElem?_toArray, List.getElem?_cons_zero, List.getElem?_cons_succ] at zz0 zz1 zz2 zz3
    refine bodyPost_ret (v := .tuple #[xv false (.slice none 0 0) 0 0, xv false (.slice A2 n2 k2) z2 0, .bool ev]) (by simp [results, Tryz.results15, go_sem, em, yy0, yy1, yy2, yy3, zz0, zz1, zz2, zz3]) rfl ?_
    exact ⟨_, _, rfl, Nt.nil _ _ _, N2.lower (by omega), U⟩
set_option maxHeartbeats 2500000 in
set_option maxRecDepth 100000 in
theorem same8_any (w : World) (lo lo' : Nat) (v v' : Value) (m : Nat) (z : Int) (N : Nt w lo 1 v m) (N' : Nt w lo' 1 v' m) : Calls Tryz.prog 16 #[xv false v z 0, xv false v' z 0] w (Bz true w) := by
  obtain ⟨A, n, c, xs, rfl, h1, h2, h3, h4⟩ := N
  obtain ⟨A', n', c', xs', rfl, g1, g2, g3, g4⟩ := N'
  have e : xs = xs' := M.val_inj h1.wds g1.wds h4 g4 (h2.trans g2.symm)
  subst e
  have en : n = n' := h1.num.symm.trans g1.num
  subst en
  have d1 : (z != z) = false := by simp
  have d2 : ((n : Int) != (n : Int)) = false := by simp
  have K1 := Lib.hid h1.at_
  have K2 := Lib.hid g1.at_
  clear h1 g1 h2 g2 h4 g4 g3
  have U := Up.refl w
  go_enter Tryz.func16, Tryz.ntmps16
  go_wp2_with fail
  obtain ⟨V1, hV1⟩ : ∃ V1, w.alloc (.cells #[.bool false, .slice A n c, .int .i64 z, .int .i64 0] 25) = V1 := ⟨_, rfl⟩
  have sV1 : V1.heap.size = w.heap.size + 1 := by rw [← hV1]; exact Array.size_push _
  have B1 : Ob V1 w.heap.size 25 #[.bool false, .slice A n c, .int .i64 z, .int .i64 0] := by rw [← hV1]; exact Ob.mk_ _ _ _
  have uV1 : Up w V1 := by rw [← hV1]; exact (Up.refl _).alloc _
  have ltB1 : w.heap.size ≤ w.heap.size := U.size
  have ltB2 : w.heap.size ≤ w.heap.size + 1 := Nat.le_succ_of_le U.size
  rw [hV1]
  clear hV1
  obtain ⟨V2, hV2⟩ : ∃ V2, V1.alloc (.cells #[.bool false, .slice A' n c', .int .i64 z, .int .i64 0] 25) = V2 := ⟨_, rfl⟩
  have B2 : Ob V2 (w.heap.size + 1) 25 #[.bool false, .slice A' n c', .int .i64 z, .int .i64 0] := by rw [← sV1, ← hV2]; exact Ob.mk_ _ _ _
  have uV2 : Up V1 V2 := by rw [← hV2]; exact (Up.refl _).alloc _
  rw [hV2]
  clear hV2 sV1
  replace B1 := B1.up uV2
  replace uV2 := uV1.trans uV2
  clear uV1
  replace U := U.trans uV2
  clear uV2
  have B10 := B1.get 0
  have B11 := B1.get 1
  have B12 := B1.get 2
  have B13 := B1.get 3
  have B1f0 := B1.fr 0
  have B1f1 := B1.fr 1
  have B1f2 := B1.fr 2
  have B1f3 := B1.fr 3
  have B1l := B1.lt
  simp only [List.getElem?_toArray, List.getElem?_cons_zero, List.getElem?_cons_succ] at B10 B11 B12 B13
  have B20 := B2.get 0
  have B21 := B2.get 1
  have B22 := B2.get 2
  have B23 := B2.get 3
  have B2f0 := B2.fr 0
  have B2f1 := B2.fr 1
  have B2f2 := B2.fr 2
  have B2f3 := B2.fr 3
  have B2l := B2.lt
  simp only [List.getElem?_toArray, List.getElem?_cons_zero, List.getElem?_cons_succ] at B20 B21 B22 B23
  go_wp2_with fail
  clear B10 B1f0 B11 B1f1 B12 B1f2 B13 B1f3 B1l
  clear B20 B2f0 B21 B2f1 B22 B2f2 B23 B2f3 B2l
  go_loopw [5] (fun iv wr => ∃ j : Nat, iv = .int .i64 (j : Int) ∧ j ≤ n ∧ Up w wr ∧ Ob wr (w.heap.size) 25 #[.bool false, .slice A n c, .int .i64 z, .int .i64 0] ∧ Ob wr (w.heap.size + 1) 25 #[.bool false, .slice A' n c', .int .i64 z, .int .i64 0]) (fun iv _ => n - (intOf iv).toNat)
  case atStart => exact ⟨0, rfl, Nat.zero_le _, U, B1, B2⟩
  case round =>
    obtain ⟨j, rfl, hj, U, B1, B2⟩ := hrel
    by_cases hjn : j = n
    ·
      have hjn := hjn.symm
      subst hjn
      clear hj
      have B10 := B1.get 0
      have B11 := B1.get 1
      have B12 := B1.get 2
      have B13 := B1.get 3
      have B1f0 := B1.fr 0
      have B1f1 := B1.fr 1
      have B1f2 := B1.fr 2
      have B1f3 := B1.fr 3
      have B1l := B1.lt
      simp only [List.getElem?_toArray, List.getElem?_cons_zero, List.getElem?_cons_succ] at B10 B11 B12 B13
      have B20 := B2.get 0
      have B21 := B2.get 1
      have B22 := B2.get 2
      have B23 := B2.get 3
      have B2f0 := B2.fr 0
      have B2f1 := B2.fr 1
      have B2f2 := B2.fr 2
      have B2f3 := B2.fr 3
      have B2l := B2.lt
      simp only [List.getElem?_toArray, List.getElem?_cons_zero, List.getElem?_cons_succ] at B20 B21 B22 B23
      go_wp2_with fail
      clear B10 B1f0 B11 B1f1 B12 B1f2 B13 B1f3 B1l
      clear B20 B2f0 B21 B2f1 B22 B2f2 B23 B2f3 B2l
      go_ret
      exact ⟨rfl, U⟩
    ·
      obtain rfl : j = 0 := by omega
      obtain rfl : n = 1 := by omega
      obtain ⟨b, o, rfl, _, hc⟩ := K1.out (by omega)
      obtain ⟨b', o', rfl, _, hc'⟩ := K2.out (by omega)
      obtain ⟨x, hx⟩ : ∃ x, xs.getD 0 0 = x := ⟨_, rfl⟩
      have w1 := cell_up_ U (hc 0 (by omega)).1
      have w2 := cell_up_ U (hc' 0 (by omega)).1
      rw [hx] at w1 w2
      simp only [Nat.add_zero] at w1 w2
      have d3 : ((x : Int) != (x : Int)) = false := by simp
      clear hx hc hc' hj hjn K1 K2
      have B10 := B1.get 0
      have B11 := B1.get 1
      have B12 := B1.get 2
      have B13 := B1.get 3
      have B1f0 := B1.fr 0
      have B1f1 := B1.fr 1
      have B1f2 := B1.fr 2
      have B1f3 := B1.fr 3
      have B1l := B1.lt
      simp only [List.getElem?_toArray, List.getElem?_cons_zero, List.getElem?_cons_succ] at B10 B11 B12 B13
      have B20 := B2.get 0
      have B21 := B2.get 1
      have B22 := B2.get 2
      have B23 := B2.get 3
      have B2f0 := B2.fr 0
      have B2f1 := B2.fr 1
      have B2f2 := B2.fr 2
      have B2f3 := B2.fr 3
      have B2l := B2.lt
      simp only [List.getElem?_toArray, List.getElem?_cons_zero, List.getElem?_cons_succ] at B20 B21 B22 B23
      go_wp2_with fail
      go_quiet (fail)
      go_wp2_with fail
      go_roundw
      case rel => exact ⟨1, by go_num, Nat.le_refl _, U.drewN _, B1.up ((Up.refl _).drewN _), B2.up ((Up.refl _).drewN _)⟩
      case measure => simp [intOf]
end Go.Proofs.YtlogglhonlannaaGreatDoor
