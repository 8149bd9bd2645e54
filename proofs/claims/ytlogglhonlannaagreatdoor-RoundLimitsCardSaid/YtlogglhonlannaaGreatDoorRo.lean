/-
  Package round: small functions.
-/
import Derived.Test.YtlogglhonlannaaGreatDoorRn
import Derived.Test.YtlogglhonlannaaGreatDoorExa
import Derived.Test.YtlogglhonlannaaGreatDoorVwa
import Derived.BigQuiet
namespace Go.Proofs.YtlogglhonlannaaGreatDoor
open Go.RowKit
set_option linter.unusedSimpArgs false
set_option linter.unusedVariables false

/-- What a call comes to that tells a number. -/
def Xr (neg : Bool) (s a : Nat) (t f : Int) (w : World) (e : Ending) (w' : World) : Prop := ∃ v, e = .returned (xv neg v t f) ∧ Nt w' w.heap.size s v a ∧ Up w w'
theorem Nt.nil_iff {w : World} {lo s : Nat} {A : Option Addr} {n c a : Nat} (h : Nt w lo s (.slice A n c) a) : n = 0 ↔ a = 0 := by
  obtain ⟨A', n', c', xs, e, h1, h2, h3, h4⟩ := h
  cases e
  subst h2
  constructor
  · intro e
    have hx : xs = [] := List.eq_nil_of_length_eq_zero (by rw [h1.num, e])
    rw [hx]; rfl
  · intro e
    have := M.len_of_lt (k := 0) h4 (by rw [e]; simp)
    rw [h1.num] at this
    omega
set_option maxHeartbeats 4000000 in
set_option maxRecDepth 100000 in
theorem iseven_any (w : World) (k : Nat) (kb : k < 18446744073709551616) (r : Bool) (hr : Hid (decide (k % 2 = 0) = r)) : Calls Tryz.prog 38 #[u64 k] w (Same (.bool r) w) := by
  have e : ((k : Int).tmod 2 == 0) = r := by
    rw [← hr.out, Int.tmod_eq_emod_of_nonneg (by omega)]
    by_cases h : k % 2 = 0
    · rw [decide_eq_true h, beq_iff_eq]; omega
    · rw [decide_eq_false h, beq_eq_false_iff_ne]; omega
  clear hr
  go_enter Tryz.func38, Tryz.ntmps38
  go_wp2_with fail
  go_ret
  exact ⟨by first | rfl | exact ret_bool e, rfl⟩
set_option maxHeartbeats 4000000 in
set_option maxRecDepth 100000 in
theorem ismode_any (w : World) (m : Int) (r : Bool) (hr : Hid (decide (m = 1 ∨ m = 2) = r)) : Calls Tryz.prog 19 #[.int .i64 m] w (Same (.bool r) w) := by
  have e := hr.out
  clear hr
  by_cases h1 : m = 1
  · subst h1
    subst e
    go_enter Tryz.func19, Tryz.ntmps19
    go_wp2_with fail
    go_ret
    exact ⟨by first | rfl | simp, rfl⟩
  · have d1 : (m == 1) = false := by simpa using h1
    have e2 : (m == 2) = r := by
      rw [← e]
      by_cases h2 : m = 2
      · simp [h2]
      · simp [h1, h2]
    clear e h1
    go_enter Tryz.func19, Tryz.ntmps19
    go_wp2_with fail
    go_ret
    exact ⟨by first | rfl | exact ret_bool e2, rfl⟩
set_option maxHeartbeats 4000000 in
set_option maxRecDepth 100000 in
theorem isnought_any (w : World) (lo s : Nat) (neg : Bool) (v : Value) (t g : Int) (a : Nat) (h : Nt w lo s v a) (r : Bool) (hr : Hid (decide (a = 0) = r)) : Calls Tryz.prog 21 #[xv neg v t g] w (Bz r w) := by
  obtain ⟨A, n, c, xs, rfl, h1⟩ := h
  have hi := Nt.nil_iff (w := w) (lo := lo) (s := s) ⟨A, n, c, xs, rfl, h1⟩
  have e : ((n : Int) == 0) = r := by
    rw [← hr.out]
    by_cases h : a = 0
    · rw [decide_eq_true h, beq_iff_eq]; omega
    · rw [decide_eq_false h, beq_eq_false_iff_ne]; omega
  clear hr hi h1
  have U := Up.refl w
  go_enter Tryz.func21, Tryz.ntmps21
  go_wp2_with fail
  obtain ⟨V1, hV1⟩ : ∃ V1, w.alloc (.cells #[.bool neg, .slice A n c, .int .i64 t, .int .i64 g] 25) = V1 := ⟨_, rfl⟩
  have B : Ob V1 w.heap.size 25 #[.bool neg, .slice A n c, .int .i64 t, .int .i64 g] := by rw [← hV1]; exact Ob.mk_ _ _ _
  have uV1 : Up w V1 := by rw [← hV1]; exact (Up.refl _).alloc _
  have ltB : w.heap.size ≤ w.heap.size := U.size
  rw [hV1]
  clear hV1
  replace U := U.trans uV1
  clear uV1
  have B0 := B.get 0
  have B1 := B.get 1
  have B2 := B.get 2
  have B3 := B.get 3
  have Bf0 := B.fr 0
  have Bf1 := B.fr 1
  have Bf2 := B.fr 2
  have Bf3 := B.fr 3
  have Bl := B.lt
  simp only [List.getElem?_toArray, List.getElem?_cons_zero, List.getElem?_cons_succ] at B0 B1 B2 B3
  go_wp2_with fail
  clear B0 Bf0 B1 Bf1 B2 Bf2 B3 Bf3 Bl
  go_ret
  exact ⟨by first | rfl | exact ret_bool e, U⟩
set_option maxHeartbeats 4000000 in
set_option maxRecDepth 100000 in
theorem least_any (w : World) (TF : Hid (TabF w)) (i : Nat) (f : M.Fm) (hf : Hid (M.tb i = f)) (i1 : 1 ≤ i) (i2 : i ≤ 14) (z : Nat) (hz : Hid ((if f.k = 1 then 1 else 0) = z)) : Calls Tryz.prog 35 #[.int .i64 (i : Int)] w (Wz z w) := by
  have CO := Lib.hid (fun W (F : TabF W) => of_in W F i f hf i1 i2)
  have e := hz.out
  clear hf hz i1 i2
  by_cases hk : f.k = 1
  ·
    rw [if_pos hk] at e
    subst e
    have d1 : (f.k == 1) = true := by simpa using hk
    clear hk
    have U := Up.refl w
    go_enter Tryz.func35, Tryz.ntmps35
    go_wp2_with fail
    refine (CO.out _ (TF.out.up U)).mono ?_
    rintro _ w1 ⟨rfl, h1⟩
    replace U := U.trans h1
    clear h1
    go_wp2_with fail
    obtain ⟨V2, hV2⟩ : ∃ V2, w1.alloc (.cells #[.int .i64 f.k, .int .i64 f.W, .int .i64 f.m, .int .i64 f.b, .int .u64 f.t, .int .u64 f.n, .int .u64 f.x] 54) = V2 := ⟨_, rfl⟩
    have C : Bf V2 w1.heap.size 54 f := by rw [← hV2]; exact Bf.mk_ w1 f 54
    have ltC : w.heap.size ≤ w1.heap.size := U.size
    have uV2 : Up w1 V2 := by rw [← hV2]; exact (Up.refl _).alloc _
    rw [hV2]
    clear hV2
    replace U := U.trans uV2
    clear uV2
    obtain ⟨C0, C1, C2, C3, C4, C5, C6⟩ := Bf.cs C
    have C7 := Bf.lt C
    simp only [Nat.zero_add] at C0 C1 C2 C3 C4 C5 C6 C7
    go_wp2_with fail
    clear C0 C1 C2 C3 C4 C5 C6 C7
    go_ret
    exact ⟨by first | rfl | simp, U⟩
  ·
    rw [if_neg hk] at e
    subst e
    have d1 : (f.k == 1) = false := by simpa using hk
    clear hk
    have U := Up.refl w
    go_enter Tryz.func35, Tryz.ntmps35
    go_wp2_with fail
    refine (CO.out _ (TF.out.up U)).mono ?_
    rintro _ w1 ⟨rfl, h1⟩
    replace U := U.trans h1
    clear h1
    go_wp2_with fail
    obtain ⟨V2, hV2⟩ : ∃ V2, w1.alloc (.cells #[.int .i64 f.k, .int .i64 f.W, .int .i64 f.m, .int .i64 f.b, .int .u64 f.t, .int .u64 f.n, .int .u64 f.x] 54) = V2 := ⟨_, rfl⟩
    have C : Bf V2 w1.heap.size 54 f := by rw [← hV2]; exact Bf.mk_ w1 f 54
    have ltC : w.heap.size ≤ w1.heap.size := U.size
    have uV2 : Up w1 V2 := by rw [← hV2]; exact (Up.refl _).alloc _
    rw [hV2]
    clear hV2
    replace U := U.trans uV2
    clear uV2
    obtain ⟨C0, C1, C2, C3, C4, C5, C6⟩ := Bf.cs C
    have C7 := Bf.lt C
    simp only [Nat.zero_add] at C0 C1 C2 C3 C4 C5 C6 C7
    go_wp2_with fail
    clear C0 C1 C2 C3 C4 C5 C6 C7
    go_ret
    exact ⟨by first | rfl | simp, U⟩
end Go.Proofs.YtlogglhonlannaaGreatDoor
