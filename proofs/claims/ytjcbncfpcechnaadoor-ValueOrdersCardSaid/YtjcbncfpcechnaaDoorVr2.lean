/-
  The reference of layer 7: the sign and the magnitude of a pattern; what a magnitude is.
-/
import Derived.Test.YtjcbncfpcechnaaDoorVr
import Derived.Test.YtjcbncfpcechnaaDoorPk
import Derived.Test.YtjcbncfpcechnaaDoorMr
namespace Go.Proofs.YtjcbncfpcechnaaDoor
open Go.RowKit

set_option maxHeartbeats 2000000 in
set_option maxRecDepth 100000 in
theorem rparts_any (w : World) (f : M.Fm) (hf : M.Ok f) (p : Int) (p1 : 0 ≤ p) (p2 : p ≤ M.msk f) (t : Bool) (key : Int) (ht : Hid (M.ngs f p = t)) (hk : Hid (M.kyf f p = key)) : Calls Tryd.prog 32 #[fv f, .int .u64 p] w (Bk t key w) := by
  have hm := hf.hm
  obtain ⟨so1, so2⟩ := M.sgn_ok hf
  obtain ⟨S, hS⟩ : ∃ z, M.sgn f = z := ⟨_, rfl⟩
  obtain ⟨M', hM⟩ : ∃ z, M.msk f = z := ⟨_, rfl⟩
  have HS := Lib.hid hS
  have HM := Lib.hid hM
  have OK := Lib.hid hf
  have h1 := ht.out
  have h2 := hk.out
  unfold M.kyf at h2
  rw [h1] at h2
  unfold M.ngs at h1
  rw [hS] at h1 h2 so1 so2
  rw [hM] at h2 p2 hm
  have pb : p < 18446744073709551616 := by omega
  clear ht hk hS hM hf
  by_cases h4 : f.k = 4
  ·
    obtain rfl : S = 0 := so1 h4
    obtain rfl : false = t := by rw [← h1]; simp
    rw [if_neg (by decide)] at h2
    subst h2
    clear so1 so2 h1 h4
    have U := Up.refl w
    go_enter Tryd.func32, Tryd.ntmps32
    go_wp2_with fail
    obtain ⟨V1, hV1⟩ : ∃ V1, w.alloc (.cells #[.int .i64 f.k, .int .i64 f.W, .int .i64 f.m, .int .i64 f.b, .int .u64 f.t, .int .u64 f.n, .int .u64 f.x] 58) = V1 := ⟨_, rfl⟩
    have uV1 : Up w V1 := by rw [← hV1]; first | exact (Up.refl _).alloc _ | exact ((Up.refl _).alloc _).alloc _ | exact (((Up.refl _).alloc _).alloc _).alloc _ | exact ((((Up.refl _).alloc _).alloc _).alloc _).alloc _ | ((repeat (refine Up.alloc ?_ _)); exact Up.refl _)
    have c : Bf V1 w.heap.size 58 f := by rw [← hV1]; exact Bf.mk_ w f 58
    rw [hV1]
    clear hV1
    replace U := U.trans uV1
    clear uV1
    refine (rsign_any _ f OK.out 0 HS).mono ?_
    rintro _ w2 ⟨rfl, h2⟩
    replace c := c.up h2
    replace U := U.trans h2
    clear h2
    obtain ⟨c0, c1, c2, c3, c4, c5, c6⟩ := Bf.cs c
    have c7 := Bf.lt c
    simp only [Nat.zero_add] at c0 c1 c2 c3 c4 c5 c6 c7
    go_wp2_with fail
    clear c0 c1 c2 c3 c4 c5 c6 c7
    go_ret2
    exact ⟨rfl, U⟩
  ·
    obtain ⟨b1, b2⟩ := so2 h4
    rw [← b1] at hm
    clear b1
    have s0 : (S == 0) = false := by rw [beq_eq_false_iff_ne]; omega
    rcases (show p < S ∨ S ≤ p by omega) with hp | hp
    ·
      obtain rfl : false = t := by rw [← h1, decide_eq_false (show ¬ S ≤ p by omega)]; simp
      rw [if_neg (by decide)] at h2
      subst h2
      have d1 : decide (p < S) = true := decide_eq_true hp
      clear so1 so2 h1 h4
      have U := Up.refl w
      go_enter Tryd.func32, Tryd.ntmps32
      go_wp2_with fail
      obtain ⟨V1, hV1⟩ : ∃ V1, w.alloc (.cells #[.int .i64 f.k, .int .i64 f.W, .int .i64 f.m, .int .i64 f.b, .int .u64 f.t, .int .u64 f.n, .int .u64 f.x] 58) = V1 := ⟨_, rfl⟩
      have uV1 : Up w V1 := by rw [← hV1]; first | exact (Up.refl _).alloc _ | exact ((Up.refl _).alloc _).alloc _ | exact (((Up.refl _).alloc _).alloc _).alloc _ | exact ((((Up.refl _).alloc _).alloc _).alloc _).alloc _ | ((repeat (refine Up.alloc ?_ _)); exact Up.refl _)
      have c : Bf V1 w.heap.size 58 f := by rw [← hV1]; exact Bf.mk_ w f 58
      rw [hV1]
      clear hV1
      replace U := U.trans uV1
      clear uV1
      refine (rsign_any _ f OK.out S HS).mono ?_
      rintro _ w2 ⟨rfl, h2⟩
      replace c := c.up h2
      replace U := U.trans h2
      clear h2
      obtain ⟨c0, c1, c2, c3, c4, c5, c6⟩ := Bf.cs c
      have c7 := Bf.lt c
      simp only [Nat.zero_add] at c0 c1 c2 c3 c4 c5 c6 c7
      go_wp2_with fail
      clear c0 c1 c2 c3 c4 c5 c6 c7
      go_ret2
      exact ⟨rfl, U⟩
    ·
      obtain rfl : true = t := by rw [← h1, decide_eq_true hp, decide_eq_false (show ¬ S = 0 by omega)]; rfl
      rw [if_pos rfl] at h2
      have d1 : decide (p < S) = false := decide_eq_false (by omega)
      by_cases h3 : f.k = 2
      ·
        rw [if_pos h3] at h2
        have d2 : (f.k == 2) = true := by simp [h3]
        have sb : S ≤ 9223372036854775808 := by omega
        subst h2
        clear so1 so2 h1 h4 h3
        have U := Up.refl w
        go_enter Tryd.func32, Tryd.ntmps32
        go_wp2_with fail
        obtain ⟨V1, hV1⟩ : ∃ V1, w.alloc (.cells #[.int .i64 f.k, .int .i64 f.W, .int .i64 f.m, .int .i64 f.b, .int .u64 f.t, .int .u64 f.n, .int .u64 f.x] 58) = V1 := ⟨_, rfl⟩
        have uV1 : Up w V1 := by rw [← hV1]; first | exact (Up.refl _).alloc _ | exact ((Up.refl _).alloc _).alloc _ | exact (((Up.refl _).alloc _).alloc _).alloc _ | exact ((((Up.refl _).alloc _).alloc _).alloc _).alloc _ | ((repeat (refine Up.alloc ?_ _)); exact Up.refl _)
        have c : Bf V1 w.heap.size 58 f := by rw [← hV1]; exact Bf.mk_ w f 58
        rw [hV1]
        clear hV1
        replace U := U.trans uV1
        clear uV1
        refine (rsign_any _ f OK.out S HS).mono ?_
        rintro _ w2 ⟨rfl, h2⟩
        replace c := c.up h2
        replace U := U.trans h2
        clear h2
        obtain ⟨c0, c1, c2, c3, c4, c5, c6⟩ := Bf.cs c
        have c7 := Bf.lt c
        simp only [Nat.zero_add] at c0 c1 c2 c3 c4 c5 c6 c7
        go_wp2_with fail
        clear c0 c1 c2 c3 c4 c5 c6 c7
        go_ret2
        exact ⟨rfl, U⟩
      ·
        rw [if_neg h3] at h2
        have d2 : (f.k == 2) = false := by simpa using h3
        have mb : M' ≤ 18446744073709551615 ∧ 0 ≤ M' := by omega
        have kb : M' - p + 1 ≤ 9223372036854775808 := by omega
        clear hm
        subst h2
        clear so1 so2 h1 h4 h3
        have U := Up.refl w
        go_enter Tryd.func32, Tryd.ntmps32
        go_wp2_with fail
        obtain ⟨V1, hV1⟩ : ∃ V1, w.alloc (.cells #[.int .i64 f.k, .int .i64 f.W, .int .i64 f.m, .int .i64 f.b, .int .u64 f.t, .int .u64 f.n, .int .u64 f.x] 58) = V1 := ⟨_, rfl⟩
        have uV1 : Up w V1 := by rw [← hV1]; first | exact (Up.refl _).alloc _ | exact ((Up.refl _).alloc _).alloc _ | exact (((Up.refl _).alloc _).alloc _).alloc _ | exact ((((Up.refl _).alloc _).alloc _).alloc _).alloc _ | ((repeat (refine Up.alloc ?_ _)); exact Up.refl _)
        have c : Bf V1 w.heap.size 58 f := by rw [← hV1]; exact Bf.mk_ w f 58
        rw [hV1]
        clear hV1
        replace U := U.trans uV1
        clear uV1
        refine (rsign_any _ f OK.out S HS).mono ?_
        rintro _ w2 ⟨rfl, h2⟩
        replace c := c.up h2
        replace U := U.trans h2
        clear h2
        obtain ⟨c0, c1, c2, c3, c4, c5, c6⟩ := Bf.cs c
        have c7 := Bf.lt c
        simp only [Nat.zero_add] at c0 c1 c2 c3 c4 c5 c6 c7
        go_wp2_with fail
        clear c0 c1 c2 c3 c4 c5 c6 c7
        refine (rmask_any _ f OK.out M' HM).mono ?_
        rintro _ w3 ⟨rfl, h3⟩
        replace c := c.up h3
        replace U := U.trans h3
        clear h3
        obtain ⟨c0, c1, c2, c3, c4, c5, c6⟩ := Bf.cs c
        have c7 := Bf.lt c
        simp only [Nat.zero_add] at c0 c1 c2 c3 c4 c5 c6 c7
        go_wp2_with fail
        clear c0 c1 c2 c3 c4 c5 c6 c7
        go_ret2
        exact ⟨rfl, U⟩
end Go.Proofs.YtjcbncfpcechnaaDoor
