/-
  The laws of layer 5: what each shows first; PositSplits, PositJoins.
-/
import Derived.Test.YtngoglhjelcdgaaDoorPll
namespace Go.Proofs.YtngoglhjelcdgaaDoor
open Go.RowKit

namespace M
theorem isk64 : IsK 7 64 1 0 := ⟨by decide, 0, 5, 0, 3, by unfold Ps; decide, by decide, by decide⟩
theorem isk1 : IsK 7 1 1 (-24) := ⟨by decide, -6, 0, 0, 0, by unfold Ps; decide, by decide, by decide⟩
theorem isk127 : IsK 7 127 1 24 := ⟨by decide, 6, 0, 0, 0, by unfold Ps; decide, by decide, by decide⟩
theorem none3 : ∀ k, ¬ IsK 7 k 3 23 := fun k h => by
  have g := h.rng (by decide)
  rcases Nat.lt_trichotomy k 127 with e | e | e
  · have := isk_lt (by decide) h isk127 e
    exact absurd this (by decide +kernel)
  · subst e
    exact absurd (isk_uniq h isk127).1 (by decide)
  · have : (2 : Nat) ^ 7 = 128 := by decide
    omega
theorem ps76 : Ps 7 76 0 5 12 := by unfold Ps; decide
end M
theorem i8 : (8 : Int) = ((7 : Nat) : Int) + 1 := rfl
set_option maxHeartbeats 4000000 in
set_option maxRecDepth 100000 in
theorem pshown_any (w : World) (TT : Hid (Tz w))  : Calls Tryd.prog 11 #[] w (True5 w) := by
  have V1 := Lib.hid (fun W (TW : Tz W) => show Calls Tryd.prog 16 #[.int .i64 8, .int .u64 64] W (Vn 1 0 0 W) from pvalue_is W TW 7 64 1 0 (by decide) M.isk64)
  have V2 := Lib.hid (fun W (TW : Tz W) => show Calls Tryd.prog 16 #[.int .i64 8, .int .u64 1] W (Vn 1 (-24) 0 W) from pvalue_is W TW 7 1 1 (-24) (by decide) M.isk1)
  have V3 := Lib.hid (fun W (TW : Tz W) => show Calls Tryd.prog 18 #[.int .i64 8, .int .u64 1, .int .i64 24] W (Kn 127 0 W) from pkey_is W TW 7 127 (by decide) (by decide) 1 1 0 24 24 (by decide) (by decide) (by decide) (by decide) M.isk127)
  have V4 := Lib.hid (fun W (TW : Tz W) => show Calls Tryd.prog 18 #[.int .i64 8, .int .u64 3, .int .i64 23] W (Kn 0 8 W) from pkey_none W TW 7 (by decide) (by decide) 3 3 0 23 23 (by decide) (by decide) (by decide) (by decide) (by decide) M.none3)
  have V5 := Lib.hid (fun W (_ : Tz W) => show Calls Tryd.prog 16 #[.int .i64 8, .int .u64 128] W (Vn 0 0 1 W) from pvalue_out W 8 128 (by decide) (.inr (.inr (.inr (by decide)))))
  have V6 := Lib.hid (fun W => show Calls Tryd.prog 12 #[.int .i64 8, .int .u64 76] W (Fdn 0 1 4 3 0 W) from psplit_in W 7 76 5 12 0 (by decide) M.ps76 1 4 3 (by show _ = _; decide) (by show _ = _; decide) (by show _ = _; decide))
  have U := Up.refl w
  go_enter Tryd.func11, Tryd.ntmps11
  go_wp2_with fail
  refine (V1.out _ (TT.out.up U)).mono ?_
  rintro _ w1 ⟨rfl, h1⟩
  replace U := U.trans h1
  clear h1
  go_wp2_with fail
  refine (V2.out _ (TT.out.up U)).mono ?_
  rintro _ w2 ⟨rfl, h2⟩
  replace U := U.trans h2
  clear h2
  go_wp2_with fail
  refine (V3.out _ (TT.out.up U)).mono ?_
  rintro _ w3 ⟨rfl, h3⟩
  replace U := U.trans h3
  clear h3
  go_wp2_with fail
  refine (V4.out _ (TT.out.up U)).mono ?_
  rintro _ w4 ⟨rfl, h4⟩
  replace U := U.trans h4
  clear h4
  go_wp2_with fail
  refine (V5.out _ (TT.out.up U)).mono ?_
  rintro _ w5 ⟨rfl, h5⟩
  replace U := U.trans h5
  clear h5
  go_wp2_with fail
  refine (V6.out _).mono ?_
  rintro _ w6 ⟨rfl, h6⟩
  replace U := U.trans h6
  clear h6
  go_wp2_with fail
  go_ret
  exact ⟨rfl, by first | exact U | exact U.alloc _⟩
set_option maxHeartbeats 4000000 in
set_option maxRecDepth 100000 in
theorem psplits_walk (w : World) (TT : Hid (Tz w)) (x0 : Int) (_wx0 : (Lit.int .i64 x0).wf = true) (x1 : Int) (wx1 : (Lit.int .u64 x1).wf = true) : Calls Tryd.prog 3 #[.int .i64 x0, .int .u64 x1] w (True5 w) := by
  obtain ⟨k, rfl, hk⟩ := nat_u64 wx1
  clear wx1
  by_cases h : bad x0 k
  ·
    have C1 := Lib.hid (fun W => psplit_out W x0 k hk h)
    have C2 := Lib.hid (fun W => rsplit_out W x0 k hk h)
    clear h
    have U := Up.refl w
    go_enter Tryd.func3, Tryd.ntmps3
    go_wp2_with fail
    refine (pshown_any _ (Lib.hid (TT.out.up U))).mono ?_
    rintro _ w1 ⟨rfl, h1⟩
    replace U := U.trans h1
    clear h1
    go_wp2_with fail
    refine (C1.out _).mono ?_
    rintro _ w2 ⟨rfl, h2⟩
    replace U := U.trans h2
    clear h2
    go_wp2_with fail
    obtain ⟨V3, hV3⟩ : ∃ V3, w2.alloc (.cells #[.int .i64 0, .int .i64 0, .int .u64 0, .int .i64 0] 25) = V3 := ⟨_, rfl⟩
    have a : Ob V3 w2.heap.size 25 #[.int .i64 0, .int .i64 0, .int .u64 0, .int .i64 0] := by rw [← hV3]; exact Ob.mk_ _ _ _
    have uV3 : Up w2 V3 := by rw [← hV3]; exact (Up.refl _).alloc _
    rw [hV3]
    clear hV3
    replace U := U.trans uV3
    clear uV3
    have a0 := a.get 0
    have a1 := a.get 1
    have a2 := a.get 2
    have a3 := a.get 3
    have a9 := a.lt
    simp only [List.getElem?_toArray, List.getElem?_cons_zero, List.getElem?_cons_succ] at a0 a1 a2 a3
    go_wp2_with fail
    clear a0 a1 a2 a3 a9
    refine (C2.out _).mono ?_
    rintro _ w4 ⟨rfl, h4⟩
    replace U := U.trans h4
    replace a := a.up h4
    clear h4
    have a0 := a.get 0
    have a1 := a.get 1
    have a2 := a.get 2
    have a3 := a.get 3
    have a9 := a.lt
    simp only [List.getElem?_toArray, List.getElem?_cons_zero, List.getElem?_cons_succ] at a0 a1 a2 a3
    go_wp2_with fail
    clear a0 a1 a2 a3 a9
    go_ret
    exact ⟨rfl, by first | exact U | exact U.alloc _⟩
  ·
    obtain ⟨n, rfl, hn2, hn, k0, kn⟩ := of_bad h
    clear h
    obtain ⟨R, r, q, hP⟩ := M.ps_ex hn2 k0 kn
    obtain ⟨E, hE⟩ : ∃ x, M.ex r q = x := ⟨_, rfl⟩
    obtain ⟨F, hF⟩ : ∃ x, M.fr r q = x := ⟨_, rfl⟩
    obtain ⟨B, hB⟩ : ∃ x : Int, ((r - 2 : Nat) : Int) = x := ⟨_, rfl⟩
    have C1 := Lib.hid (fun W => psplit_in W n k r q R hn hP E F B (Lib.hid hE) (Lib.hid hF) (Lib.hid hB))
    have C2 := Lib.hid (fun W => rsplit_in W n k r q R hn hP E F B (Lib.hid hE) (Lib.hid hF) (Lib.hid hB))
    clear hP hE hF hB kn
    have eR : (R == R) = true := by simp
    have eE : ((E : Int) == (E : Int)) = true := by simp
    have eF : ((F : Int) == (F : Int)) = true := by simp
    have eB : (B == B) = true := by simp
    have U := Up.refl w
    go_enter Tryd.func3, Tryd.ntmps3
    go_wp2_with fail
    refine (pshown_any _ (Lib.hid (TT.out.up U))).mono ?_
    rintro _ w1 ⟨rfl, h1⟩
    replace U := U.trans h1
    clear h1
    go_wp2_with fail
    refine (C1.out _).mono ?_
    rintro _ w2 ⟨rfl, h2⟩
    replace U := U.trans h2
    clear h2
    go_wp2_with fail
    obtain ⟨V3, hV3⟩ : ∃ V3, w2.alloc (.cells #[.int .i64 R, .int .i64 (E : Int), .int .u64 (F : Int), .int .i64 B] 25) = V3 := ⟨_, rfl⟩
    have a : Ob V3 w2.heap.size 25 #[.int .i64 R, .int .i64 (E : Int), .int .u64 (F : Int), .int .i64 B] := by rw [← hV3]; exact Ob.mk_ _ _ _
    have uV3 : Up w2 V3 := by rw [← hV3]; exact (Up.refl _).alloc _
    rw [hV3]
    clear hV3
    replace U := U.trans uV3
    clear uV3
    have a0 := a.get 0
    have a1 := a.get 1
    have a2 := a.get 2
    have a3 := a.get 3
    have a9 := a.lt
    simp only [List.getElem?_toArray, List.getElem?_cons_zero, List.getElem?_cons_succ] at a0 a1 a2 a3
    go_wp2_with fail
    clear a0 a1 a2 a3 a9
    refine (C2.out _).mono ?_
    rintro _ w4 ⟨rfl, h4⟩
    replace U := U.trans h4
    replace a := a.up h4
    clear h4
    have a0 := a.get 0
    have a1 := a.get 1
    have a2 := a.get 2
    have a3 := a.get 3
    have a9 := a.lt
    simp only [List.getElem?_toArray, List.getElem?_cons_zero, List.getElem?_cons_succ] at a0 a1 a2 a3
    go_wp2_with fail
    clear a0 a1 a2 a3 a9
    go_ret
    exact ⟨rfl, by first | exact U | exact U.alloc _⟩
set_option maxHeartbeats 4000000 in
set_option maxRecDepth 100000 in
theorem pjoins_walk (w : World) (TT : Hid (Tz w)) (x0 : Int) (_wx0 : (Lit.int .i64 x0).wf = true) (R : Int) (_wR : (Lit.int .i64 R).wf = true) (E : Int) (_wE : (Lit.int .i64 E).wf = true) (Fz : Int) (wF : (Lit.int .u64 Fz).wf = true) (B : Int) (_wB : (Lit.int .i64 B).wf = true) : Calls Tryd.prog 4 #[.int .i64 x0, .agg #[.int .i64 R, .int .i64 E, .int .u64 Fz, .int .i64 B]] w (True5 w) := by
  obtain ⟨F, rfl, hF⟩ := nat_u64 wF
  clear wF
  by_cases h : x0 < 3 ∨ 65 < x0
  ·
    have C1 := Lib.hid (fun W => pjoin_out W x0 h R E F B)
    have C2 := Lib.hid (fun W => rjoin_out W x0 h R E F B)
    clear h
    have U := Up.refl w
    go_enter Tryd.func4, Tryd.ntmps4
    go_wp2_with fail
    obtain ⟨V1, hV1⟩ : ∃ V1, w.alloc (.cells #[.int .i64 R, .int .i64 E, .int .u64 (F : Int), .int .i64 B] 25) = V1 := ⟨_, rfl⟩
    have a : Ob V1 w.heap.size 25 #[.int .i64 R, .int .i64 E, .int .u64 (F : Int), .int .i64 B] := by rw [← hV1]; exact Ob.mk_ _ _ _
    have uV1 : Up w V1 := by rw [← hV1]; exact (Up.refl _).alloc _
    rw [hV1]
    clear hV1
    replace U := U.trans uV1
    clear uV1
    have a0 := a.get 0
    have a1 := a.get 1
    have a2 := a.get 2
    have a3 := a.get 3
    have a9 := a.lt
    simp only [List.getElem?_toArray, List.getElem?_cons_zero, List.getElem?_cons_succ] at a0 a1 a2 a3
    go_wp2_with fail
    clear a0 a1 a2 a3 a9
    refine (pshown_any _ (Lib.hid (TT.out.up U))).mono ?_
    rintro _ w2 ⟨rfl, h2⟩
    replace U := U.trans h2
    replace a := a.up h2
    clear h2
    have a0 := a.get 0
    have a1 := a.get 1
    have a2 := a.get 2
    have a3 := a.get 3
    have a9 := a.lt
    simp only [List.getElem?_toArray, List.getElem?_cons_zero, List.getElem?_cons_succ] at a0 a1 a2 a3
    go_wp2_with fail
    clear a0 a1 a2 a3 a9
    refine (C1.out _).mono ?_
    rintro _ w3 ⟨rfl, h3⟩
    replace U := U.trans h3
    replace a := a.up h3
    clear h3
    have a0 := a.get 0
    have a1 := a.get 1
    have a2 := a.get 2
    have a3 := a.get 3
    have a9 := a.lt
    simp only [List.getElem?_toArray, List.getElem?_cons_zero, List.getElem?_cons_succ] at a0 a1 a2 a3
    go_wp2_with fail
    clear a0 a1 a2 a3 a9
    refine (C2.out _).mono ?_
    rintro _ w4 ⟨rfl, h4⟩
    replace U := U.trans h4
    replace a := a.up h4
    clear h4
    have a0 := a.get 0
    have a1 := a.get 1
    have a2 := a.get 2
    have a3 := a.get 3
    have a9 := a.lt
    simp only [List.getElem?_toArray, List.getElem?_cons_zero, List.getElem?_cons_succ] at a0 a1 a2 a3
    go_wp2_with fail
    clear a0 a1 a2 a3 a9
    go_ret
    exact ⟨rfl, U⟩
  ·
    obtain ⟨n, rfl, hn2, hn⟩ : ∃ n : Nat, x0 = (n : Int) + 1 ∧ 2 ≤ n ∧ n ≤ 64 := ⟨(x0 - 1).toNat, by omega, by omega, by omega⟩
    clear h
    by_cases h : ∃ k, M.IsF n k R E F B
    ·
      obtain ⟨k, h⟩ := h
      have C1 := Lib.hid (fun W => pjoin_is W n k hn2 hn R E F B hF h)
      have C2 := Lib.hid (fun W => rjoin_is W n k hn2 hn R E F B hF h)
      clear h
      have kk : ((k : Int) == (k : Int)) = true := by simp
      have U := Up.refl w
      go_enter Tryd.func4, Tryd.ntmps4
      go_wp2_with fail
      obtain ⟨V1, hV1⟩ : ∃ V1, w.alloc (.cells #[.int .i64 R, .int .i64 E, .int .u64 (F : Int), .int .i64 B] 25) = V1 := ⟨_, rfl⟩
      have a : Ob V1 w.heap.size 25 #[.int .i64 R, .int .i64 E, .int .u64 (F : Int), .int .i64 B] := by rw [← hV1]; exact Ob.mk_ _ _ _
      have uV1 : Up w V1 := by rw [← hV1]; exact (Up.refl _).alloc _
      rw [hV1]
      clear hV1
      replace U := U.trans uV1
      clear uV1
      have a0 := a.get 0
      have a1 := a.get 1
      have a2 := a.get 2
      have a3 := a.get 3
      have a9 := a.lt
      simp only [List.getElem?_toArray, List.getElem?_cons_zero, List.getElem?_cons_succ] at a0 a1 a2 a3
      go_wp2_with fail
      clear a0 a1 a2 a3 a9
      refine (pshown_any _ (Lib.hid (TT.out.up U))).mono ?_
      rintro _ w2 ⟨rfl, h2⟩
      replace U := U.trans h2
      replace a := a.up h2
      clear h2
      have a0 := a.get 0
      have a1 := a.get 1
      have a2 := a.get 2
      have a3 := a.get 3
      have a9 := a.lt
      simp only [List.getElem?_toArray, List.getElem?_cons_zero, List.getElem?_cons_succ] at a0 a1 a2 a3
      go_wp2_with fail
      clear a0 a1 a2 a3 a9
      refine (C1.out _).mono ?_
      rintro _ w3 ⟨rfl, h3⟩
      replace U := U.trans h3
      replace a := a.up h3
      clear h3
      have a0 := a.get 0
      have a1 := a.get 1
      have a2 := a.get 2
      have a3 := a.get 3
      have a9 := a.lt
      simp only [List.getElem?_toArray, List.getElem?_cons_zero, List.getElem?_cons_succ] at a0 a1 a2 a3
      go_wp2_with fail
      clear a0 a1 a2 a3 a9
      refine (C2.out _).mono ?_
      rintro _ w4 ⟨rfl, h4⟩
      replace U := U.trans h4
      replace a := a.up h4
      clear h4
      have a0 := a.get 0
      have a1 := a.get 1
      have a2 := a.get 2
      have a3 := a.get 3
      have a9 := a.lt
      simp only [List.getElem?_toArray, List.getElem?_cons_zero, List.getElem?_cons_succ] at a0 a1 a2 a3
      go_wp2_with fail
      clear a0 a1 a2 a3 a9
      go_ret
      exact ⟨rfl, U⟩
    ·
      have h1 : ∀ k, ¬ M.IsF n k R E F B := fun k hk => h ⟨k, hk⟩
      have C1 := Lib.hid (fun W => pjoin_none W n hn2 hn R E F B hF (int_i64 _wE) h1)
      have C2 := Lib.hid (fun W => rjoin_none W n hn2 hn R E F B hF h1)
      clear h h1
      have U := Up.refl w
      go_enter Tryd.func4, Tryd.ntmps4
      go_wp2_with fail
      obtain ⟨V1, hV1⟩ : ∃ V1, w.alloc (.cells #[.int .i64 R, .int .i64 E, .int .u64 (F : Int), .int .i64 B] 25) = V1 := ⟨_, rfl⟩
      have a : Ob V1 w.heap.size 25 #[.int .i64 R, .int .i64 E, .int .u64 (F : Int), .int .i64 B] := by rw [← hV1]; exact Ob.mk_ _ _ _
      have uV1 : Up w V1 := by rw [← hV1]; exact (Up.refl _).alloc _
      rw [hV1]
      clear hV1
      replace U := U.trans uV1
      clear uV1
      have a0 := a.get 0
      have a1 := a.get 1
      have a2 := a.get 2
      have a3 := a.get 3
      have a9 := a.lt
      simp only [List.getElem?_toArray, List.getElem?_cons_zero, List.getElem?_cons_succ] at a0 a1 a2 a3
      go_wp2_with fail
      clear a0 a1 a2 a3 a9
      refine (pshown_any _ (Lib.hid (TT.out.up U))).mono ?_
      rintro _ w2 ⟨rfl, h2⟩
      replace U := U.trans h2
      replace a := a.up h2
      clear h2
      have a0 := a.get 0
      have a1 := a.get 1
      have a2 := a.get 2
      have a3 := a.get 3
      have a9 := a.lt
      simp only [List.getElem?_toArray, List.getElem?_cons_zero, List.getElem?_cons_succ] at a0 a1 a2 a3
      go_wp2_with fail
      clear a0 a1 a2 a3 a9
      refine (C1.out _).mono ?_
      rintro _ w3 ⟨rfl, h3⟩
      replace U := U.trans h3
      replace a := a.up h3
      clear h3
      have a0 := a.get 0
      have a1 := a.get 1
      have a2 := a.get 2
      have a3 := a.get 3
      have a9 := a.lt
      simp only [List.getElem?_toArray, List.getElem?_cons_zero, List.getElem?_cons_succ] at a0 a1 a2 a3
      go_wp2_with fail
      clear a0 a1 a2 a3 a9
      refine (C2.out _).mono ?_
      rintro _ w4 ⟨k, rfl, h4⟩
      replace U := U.trans h4
      replace a := a.up h4
      clear h4
      have a0 := a.get 0
      have a1 := a.get 1
      have a2 := a.get 2
      have a3 := a.get 3
      have a9 := a.lt
      simp only [List.getElem?_toArray, List.getElem?_cons_zero, List.getElem?_cons_succ] at a0 a1 a2 a3
      go_wp2_with fail
      clear a0 a1 a2 a3 a9
      go_ret
      exact ⟨rfl, U⟩
end Go.Proofs.YtngoglhjelcdgaaDoor
