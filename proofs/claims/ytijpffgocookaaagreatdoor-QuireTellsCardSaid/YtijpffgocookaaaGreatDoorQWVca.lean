import Derived.Test.YtijpffgocookaaaGreatDoorQWVga
import Derived.Test.YtijpffgocookaaaGreatDoorQWPfa
import Derived.Test.YtijpffgocookaaaGreatDoorQWVva
import Derived.BigQuiet
set_option maxHeartbeats 32000000
set_option linter.unusedVariables false
set_option linter.unusedSimpArgs false
namespace Go.Proofs.YtijpffgocookaaaGreatDoor
open Go.RowKit
set_option maxRecDepth 100000 in
theorem rclass_any (w : World) (i : Nat) (f : M.Fm) (hf : Hid (M.tb i = f)) (a : 1 ≤ i) (b : i ≤ 14) (p : Int) (p1 : 0 ≤ p) (p2 : p ≤ M.msk f) (c : Int) (hc : Hid (M.cls f p = c)) : Calls Tryz.prog 82 #[.int .i64 (i : Int), .int .u64 p] w (Nz c w) := by
 have ok := M.ok i a b
 rw [hf.out] at ok
 obtain ⟨t, ht⟩ : ∃ t, M.ngs f p = t := ⟨_, rfl⟩
 obtain ⟨key, hk⟩ : ∃ key, M.kyf f p = key := ⟨_, rfl⟩
 have CP := Lib.hid (fun W => rparts_any W f ok p p1 p2 t key (Lib.hid ht) (Lib.hid hk))
 have CF := Lib.hid (fun W => rof_in W i f hf a b)
 have hc' := hc.out
 unfold M.cls at hc'
 rw [hk] at hc'
 have kr := M.kyf_rng ok p1 p2
 rw [hk] at kr
 obtain ⟨k0, k1, _, _⟩ := kr
 have pm : p < 18446744073709551616 := by have := ok.hm; omega
 have kb : key < 18446744073709551616 := by have := ok.hm; omega
 clear hc hk ht p2 k1 ok hf
 by_cases A : f.k = 2 ∧ f.t < key
 ·rw [if_pos A] at hc'
  have d1 : (f.k == 2) = true := by simpa using A.1
  have d2 : decide (f.t < key) = true := decide_eq_true A.2
  by_cases B : key = f.n
  ·rw [if_pos B] at hc'
   subst hc'
   have d3 : (key == f.n) = true := by simpa using B
   clear A B
   have U := Up.refl w
   go_enter Tryz.func82, Tryz.ntmps82
   go_wp2_with fail
   refine (CF.out _).mono ?_
   rintro _ w1 ⟨rfl, h1⟩
   replace U := U.trans h1
   clear h1
   go_wp2_with fail
   obtain ⟨V2, hV2, c, uV2⟩ := Bf.nw w1 f 79
   have ltc : w.heap.size ≤ w1.heap.size := U.size
   rw [hV2]
   clear hV2
   replace U := U.trans uV2
   clear uV2
   refine (CP.out _).mono ?_
   rintro _ w3 ⟨rfl, h3⟩
   replace U := U.trans h3
   replace c := c.up h3
   clear h3
   obtain ⟨c0, c1, c2, c3, c4, c5, c6⟩ := Bf.cs c
   have c7 := Bf.lt c
   simp only [Nat.zero_add] at c0 c1 c2 c3 c4 c5 c6 c7
   go_wp2_with fail
   clear c0 c1 c2 c3 c4 c5 c6 c7
   go_ret
   exact ⟨rfl, U⟩
  ·rw [if_neg B] at hc'
   subst hc'
   have d3 : (key == f.n) = false := by simpa using B
   clear A B
   have U := Up.refl w
   go_enter Tryz.func82, Tryz.ntmps82
   go_wp2_with fail
   refine (CF.out _).mono ?_
   rintro _ w1 ⟨rfl, h1⟩
   replace U := U.trans h1
   clear h1
   go_wp2_with fail
   obtain ⟨V2, hV2, c, uV2⟩ := Bf.nw w1 f 79
   have ltc : w.heap.size ≤ w1.heap.size := U.size
   rw [hV2]
   clear hV2
   replace U := U.trans uV2
   clear uV2
   refine (CP.out _).mono ?_
   rintro _ w3 ⟨rfl, h3⟩
   replace U := U.trans h3
   replace c := c.up h3
   clear h3
   obtain ⟨c0, c1, c2, c3, c4, c5, c6⟩ := Bf.cs c
   have c7 := Bf.lt c
   simp only [Nat.zero_add] at c0 c1 c2 c3 c4 c5 c6 c7
   go_wp2_with fail
   clear c0 c1 c2 c3 c4 c5 c6 c7
   go_ret
   exact ⟨rfl, U⟩
 rw [if_neg A] at hc'
 by_cases B : f.k ≠ 2 ∧ f.x ≠ 0 ∧ p = f.x
 ·rw [if_pos B] at hc'
  subst hc'
  have d1 : (f.k == 2) = false := by simpa using B.1
  have d2 : (f.k != 2) = true := by simpa using B.1
  have d3 : (f.x != 0) = true := by simpa using B.2.1
  have d4 : (p == f.x) = true := by simpa using B.2.2
  clear A B
  have U := Up.refl w
  go_enter Tryz.func82, Tryz.ntmps82
  go_wp2_with fail
  refine (CF.out _).mono ?_
  rintro _ w1 ⟨rfl, h1⟩
  replace U := U.trans h1
  clear h1
  go_wp2_with fail
  obtain ⟨V2, hV2, c, uV2⟩ := Bf.nw w1 f 79
  have ltc : w.heap.size ≤ w1.heap.size := U.size
  rw [hV2]
  clear hV2
  replace U := U.trans uV2
  clear uV2
  refine (CP.out _).mono ?_
  rintro _ w3 ⟨rfl, h3⟩
  replace U := U.trans h3
  replace c := c.up h3
  clear h3
  obtain ⟨c0, c1, c2, c3, c4, c5, c6⟩ := Bf.cs c
  have c7 := Bf.lt c
  simp only [Nat.zero_add] at c0 c1 c2 c3 c4 c5 c6 c7
  go_wp2_with fail
  clear c0 c1 c2 c3 c4 c5 c6 c7
  go_ret
  exact ⟨rfl, U⟩
 rw [if_neg B] at hc'
 by_cases C : f.k = 2
 ·
  have d1 : (f.k == 2) = true := by simpa using C
  have d2 : (f.k != 2) = false := by simp [C]
  have d3 : decide (f.t < key) = false := decide_eq_false (fun h => A ⟨C, h⟩)
  clear A B
  have C4 : f.k = 4 → False := fun e => by omega
  clear C
  by_cases K : key = 0 ∧ f.k ≠ 4
  ·rw [if_pos K] at hc'
   subst hc'
   have e1 : (key == 0) = true := by simpa using K.1
   have e2 : (f.k != 4) = true := by simpa using K.2
   clear K
   have U := Up.refl w
   go_enter Tryz.func82, Tryz.ntmps82
   go_wp2_with fail
   refine (CF.out _).mono ?_
   rintro _ w1 ⟨rfl, h1⟩
   replace U := U.trans h1
   clear h1
   go_wp2_with fail
   obtain ⟨V2, hV2, c, uV2⟩ := Bf.nw w1 f 79
   have ltc : w.heap.size ≤ w1.heap.size := U.size
   rw [hV2]
   clear hV2
   replace U := U.trans uV2
   clear uV2
   refine (CP.out _).mono ?_
   rintro _ w3 ⟨rfl, h3⟩
   replace U := U.trans h3
   replace c := c.up h3
   clear h3
   obtain ⟨c0, c1, c2, c3, c4, c5, c6⟩ := Bf.cs c
   have c7 := Bf.lt c
   simp only [Nat.zero_add] at c0 c1 c2 c3 c4 c5 c6 c7
   go_wp2_with fail
   clear c0 c1 c2 c3 c4 c5 c6 c7
   go_ret
   exact ⟨rfl, U⟩
  rw [if_neg K] at hc'
  subst hc'
  by_cases K0 : key = 0
  ·
   have e1 : (key == 0) = true := by simpa using K0
   have e2 : (f.k != 4) = false := by
    have : f.k = 4 := by omega
    simp [this]
   clear K K0
   have U := Up.refl w
   go_enter Tryz.func82, Tryz.ntmps82
   go_wp2_with fail
   refine (CF.out _).mono ?_
   rintro _ w1 ⟨rfl, h1⟩
   replace U := U.trans h1
   clear h1
   go_wp2_with fail
   obtain ⟨V2, hV2, c, uV2⟩ := Bf.nw w1 f 79
   have ltc : w.heap.size ≤ w1.heap.size := U.size
   rw [hV2]
   clear hV2
   replace U := U.trans uV2
   clear uV2
   refine (CP.out _).mono ?_
   rintro _ w3 ⟨rfl, h3⟩
   replace U := U.trans h3
   replace c := c.up h3
   clear h3
   obtain ⟨c0, c1, c2, c3, c4, c5, c6⟩ := Bf.cs c
   have c7 := Bf.lt c
   simp only [Nat.zero_add] at c0 c1 c2 c3 c4 c5 c6 c7
   go_wp2_with fail
   clear c0 c1 c2 c3 c4 c5 c6 c7
   go_ret
   exact ⟨rfl, U⟩
  ·
   have e1 : (key == 0) = false := by simpa using K0
   clear K K0
   have U := Up.refl w
   go_enter Tryz.func82, Tryz.ntmps82
   go_wp2_with fail
   refine (CF.out _).mono ?_
   rintro _ w1 ⟨rfl, h1⟩
   replace U := U.trans h1
   clear h1
   go_wp2_with fail
   obtain ⟨V2, hV2, c, uV2⟩ := Bf.nw w1 f 79
   have ltc : w.heap.size ≤ w1.heap.size := U.size
   rw [hV2]
   clear hV2
   replace U := U.trans uV2
   clear uV2
   refine (CP.out _).mono ?_
   rintro _ w3 ⟨rfl, h3⟩
   replace U := U.trans h3
   replace c := c.up h3
   clear h3
   obtain ⟨c0, c1, c2, c3, c4, c5, c6⟩ := Bf.cs c
   have c7 := Bf.lt c
   simp only [Nat.zero_add] at c0 c1 c2 c3 c4 c5 c6 c7
   go_wp2_with fail
   clear c0 c1 c2 c3 c4 c5 c6 c7
   go_ret
   exact ⟨rfl, U⟩
 have d1 : (f.k == 2) = false := by simpa using C
 have d2 : (f.k != 2) = true := by simpa using C
 by_cases D : f.x = 0
 ·
  have d3 : (f.x != 0) = false := by simp [D]
  clear A B D
  by_cases K : key = 0 ∧ f.k ≠ 4
  ·rw [if_pos K] at hc'
   subst hc'
   have e1 : (key == 0) = true := by simpa using K.1
   have e2 : (f.k != 4) = true := by simpa using K.2
   clear K
   have U := Up.refl w
   go_enter Tryz.func82, Tryz.ntmps82
   go_wp2_with fail
   refine (CF.out _).mono ?_
   rintro _ w1 ⟨rfl, h1⟩
   replace U := U.trans h1
   clear h1
   go_wp2_with fail
   obtain ⟨V2, hV2, c, uV2⟩ := Bf.nw w1 f 79
   have ltc : w.heap.size ≤ w1.heap.size := U.size
   rw [hV2]
   clear hV2
   replace U := U.trans uV2
   clear uV2
   refine (CP.out _).mono ?_
   rintro _ w3 ⟨rfl, h3⟩
   replace U := U.trans h3
   replace c := c.up h3
   clear h3
   obtain ⟨c0, c1, c2, c3, c4, c5, c6⟩ := Bf.cs c
   have c7 := Bf.lt c
   simp only [Nat.zero_add] at c0 c1 c2 c3 c4 c5 c6 c7
   go_wp2_with fail
   clear c0 c1 c2 c3 c4 c5 c6 c7
   go_ret
   exact ⟨rfl, U⟩
  rw [if_neg K] at hc'
  subst hc'
  by_cases K0 : key = 0
  ·
   have e1 : (key == 0) = true := by simpa using K0
   have e2 : (f.k != 4) = false := by
    have : f.k = 4 := by omega
    simp [this]
   clear K K0
   have U := Up.refl w
   go_enter Tryz.func82, Tryz.ntmps82
   go_wp2_with fail
   refine (CF.out _).mono ?_
   rintro _ w1 ⟨rfl, h1⟩
   replace U := U.trans h1
   clear h1
   go_wp2_with fail
   obtain ⟨V2, hV2, c, uV2⟩ := Bf.nw w1 f 79
   have ltc : w.heap.size ≤ w1.heap.size := U.size
   rw [hV2]
   clear hV2
   replace U := U.trans uV2
   clear uV2
   refine (CP.out _).mono ?_
   rintro _ w3 ⟨rfl, h3⟩
   replace U := U.trans h3
   replace c := c.up h3
   clear h3
   obtain ⟨c0, c1, c2, c3, c4, c5, c6⟩ := Bf.cs c
   have c7 := Bf.lt c
   simp only [Nat.zero_add] at c0 c1 c2 c3 c4 c5 c6 c7
   go_wp2_with fail
   clear c0 c1 c2 c3 c4 c5 c6 c7
   go_ret
   exact ⟨rfl, U⟩
  ·
   have e1 : (key == 0) = false := by simpa using K0
   clear K K0
   have U := Up.refl w
   go_enter Tryz.func82, Tryz.ntmps82
   go_wp2_with fail
   refine (CF.out _).mono ?_
   rintro _ w1 ⟨rfl, h1⟩
   replace U := U.trans h1
   clear h1
   go_wp2_with fail
   obtain ⟨V2, hV2, c, uV2⟩ := Bf.nw w1 f 79
   have ltc : w.heap.size ≤ w1.heap.size := U.size
   rw [hV2]
   clear hV2
   replace U := U.trans uV2
   clear uV2
   refine (CP.out _).mono ?_
   rintro _ w3 ⟨rfl, h3⟩
   replace U := U.trans h3
   replace c := c.up h3
   clear h3
   obtain ⟨c0, c1, c2, c3, c4, c5, c6⟩ := Bf.cs c
   have c7 := Bf.lt c
   simp only [Nat.zero_add] at c0 c1 c2 c3 c4 c5 c6 c7
   go_wp2_with fail
   clear c0 c1 c2 c3 c4 c5 c6 c7
   go_ret
   exact ⟨rfl, U⟩
 have d3 : (f.x != 0) = true := by simpa using D
 have d4 : (p == f.x) = false := by
  rw [beq_eq_false_iff_ne]
  exact fun h => B ⟨C, D, h⟩
 clear A B D
 by_cases K : key = 0 ∧ f.k ≠ 4
 ·rw [if_pos K] at hc'
  subst hc'
  have e1 : (key == 0) = true := by simpa using K.1
  have e2 : (f.k != 4) = true := by simpa using K.2
  clear K
  have U := Up.refl w
  go_enter Tryz.func82, Tryz.ntmps82
  go_wp2_with fail
  refine (CF.out _).mono ?_
  rintro _ w1 ⟨rfl, h1⟩
  replace U := U.trans h1
  clear h1
  go_wp2_with fail
  obtain ⟨V2, hV2, c, uV2⟩ := Bf.nw w1 f 79
  have ltc : w.heap.size ≤ w1.heap.size := U.size
  rw [hV2]
  clear hV2
  replace U := U.trans uV2
  clear uV2
  refine (CP.out _).mono ?_
  rintro _ w3 ⟨rfl, h3⟩
  replace U := U.trans h3
  replace c := c.up h3
  clear h3
  obtain ⟨c0, c1, c2, c3, c4, c5, c6⟩ := Bf.cs c
  have c7 := Bf.lt c
  simp only [Nat.zero_add] at c0 c1 c2 c3 c4 c5 c6 c7
  go_wp2_with fail
  clear c0 c1 c2 c3 c4 c5 c6 c7
  go_ret
  exact ⟨rfl, U⟩
 rw [if_neg K] at hc'
 subst hc'
 by_cases K0 : key = 0
 ·
  have e1 : (key == 0) = true := by simpa using K0
  have e2 : (f.k != 4) = false := by
   have : f.k = 4 := by omega
   simp [this]
  clear K K0
  have U := Up.refl w
  go_enter Tryz.func82, Tryz.ntmps82
  go_wp2_with fail
  refine (CF.out _).mono ?_
  rintro _ w1 ⟨rfl, h1⟩
  replace U := U.trans h1
  clear h1
  go_wp2_with fail
  obtain ⟨V2, hV2, c, uV2⟩ := Bf.nw w1 f 79
  have ltc : w.heap.size ≤ w1.heap.size := U.size
  rw [hV2]
  clear hV2
  replace U := U.trans uV2
  clear uV2
  refine (CP.out _).mono ?_
  rintro _ w3 ⟨rfl, h3⟩
  replace U := U.trans h3
  replace c := c.up h3
  clear h3
  obtain ⟨c0, c1, c2, c3, c4, c5, c6⟩ := Bf.cs c
  have c7 := Bf.lt c
  simp only [Nat.zero_add] at c0 c1 c2 c3 c4 c5 c6 c7
  go_wp2_with fail
  clear c0 c1 c2 c3 c4 c5 c6 c7
  go_ret
  exact ⟨rfl, U⟩
 ·
  have e1 : (key == 0) = false := by simpa using K0
  clear K K0
  have U := Up.refl w
  go_enter Tryz.func82, Tryz.ntmps82
  go_wp2_with fail
  refine (CF.out _).mono ?_
  rintro _ w1 ⟨rfl, h1⟩
  replace U := U.trans h1
  clear h1
  go_wp2_with fail
  obtain ⟨V2, hV2, c, uV2⟩ := Bf.nw w1 f 79
  have ltc : w.heap.size ≤ w1.heap.size := U.size
  rw [hV2]
  clear hV2
  replace U := U.trans uV2
  clear uV2
  refine (CP.out _).mono ?_
  rintro _ w3 ⟨rfl, h3⟩
  replace U := U.trans h3
  replace c := c.up h3
  clear h3
  obtain ⟨c0, c1, c2, c3, c4, c5, c6⟩ := Bf.cs c
  have c7 := Bf.lt c
  simp only [Nat.zero_add] at c0 c1 c2 c3 c4 c5 c6 c7
  go_wp2_with fail
  clear c0 c1 c2 c3 c4 c5 c6 c7
  go_ret
  exact ⟨rfl, U⟩
theorem ft_rng' {f : M.Fm} (h1 : M.Ok f) (h2 : M.Ok2 f) : 0 ≤ f.t ∧ f.t ≤ 18446744073709551000 := by
 have a1 := h2.one
 have a3 := h2.tri
 have a4 := h2.four
 have a2 := h1.two
 have := h1.hm
 have := h1.t
 rcases h1.k with e | e | e | e <;> omega
set_option maxRecDepth 100000 in
theorem rkfits_out (w : World) (ii k : Int) (h : ii < 1 ∨ 15 ≤ ii) : Calls Tryz.prog 177 #[.int .i64 ii, .int .u64 k] w (Fn ⟨0, 0, 0, 0, 0, 0, 0⟩ 3 w) := by
 have U := Up.refl w
 go_enter Tryz.func177, Tryz.ntmps177
 go_wp2_with fail
 obtain ⟨V1, hV1⟩ : ∃ V1, w.alloc (.cells #[.int .i64 0, .int .i64 0, .int .i64 0, .int .i64 0, .int .u64 0, .int .u64 0, .int .u64 0] 79) = V1 := ⟨_, rfl⟩
 have R : Bf V1 w.heap.size 79 ⟨0, 0, 0, 0, 0, 0, 0⟩ := by rw [← hV1]; exact Bf.mk_ w ⟨0, 0, 0, 0, 0, 0, 0⟩ 79
 have ltR : w.heap.size ≤ w.heap.size := U.size
 have uV1 : Up w V1 := Up.al hV1
 rw [hV1]
 clear hV1
 replace U := U.trans uV1
 clear uV1
 refine (rof_out _ ii h).mono ?_
 rintro _ w2 ⟨rfl, h2⟩
 replace U := U.trans h2
 replace R := R.up h2
 clear h2
 clear h
 go_wp2_with (refine store_F rfl 79 (.tmp 4) (.tmp 15) rfl _ ⟨0, 0, 0, 0, 0, 0, 0⟩ ⟨0, 0, 0, 0, 0, 0, 0⟩ rfl rfl (by kernel_rfl) w (by first | exact U | exact U.alloc _) ltR 79 (by first | exact R | exact R.up ((Up.refl _).alloc _)) ?_; clear U; intro V9 z U _)
 obtain ⟨z0, z1, z2, z3, z4, z5, z6⟩ := Bf.cs z
 simp only [Nat.zero_add] at z0 z1 z2 z3 z4 z5 z6
 refine bodyPost_ret (v := .tuple #[fv ⟨0, 0, 0, 0, 0, 0, 0⟩, .int .i64 3]) (by simp [results, Tryz.results177, go_sem, z0, z1, z2, z3, z4, z5, z6]) rfl ?_
 exact ⟨rfl, U⟩
set_option maxRecDepth 100000 in
theorem rkfits_in (w : World) (i : Nat) (f : M.Fm) (hf : Hid (M.tb i = f)) (a : 1 ≤ i) (b : i ≤ 14) (k : Nat) (kb : k < 18446744073709551616) (x : Int) (hx : (if M.tp f < (k : Int) then 4 else 0) = x) : Calls Tryz.prog 177 #[.int .i64 (i : Int), u64 k] w (Fn f x w) := by
 have ok := M.ok i a b
 have ok2 := M.ok2 i a b
 rw [hf.out] at ok ok2
 have tt := ft_rng' ok ok2
 have CF := Lib.hid (fun W => rof_in W i f hf a b)
 unfold M.tp at hx
 clear ok ok2 hf a b
 by_cases c1 : f.t < (k : Int)
 ·
  have d1 : decide (f.t < (k : Int)) = true := decide_eq_true c1
  by_cases c3 : f.k = 3
  ·
   have d3 : (f.k != 3) = false := by simp [c3]
   rw [if_pos c3] at hx
   by_cases c4 : f.t + 1 < (k : Int)
   ·
    have d4 : decide (f.t + 1 < (k : Int)) = true := decide_eq_true c4
    rw [if_pos c4] at hx
    clear c1 c3 c4
    subst hx
    have U := Up.refl w
    go_enter Tryz.func177, Tryz.ntmps177
    go_wp2_with fail
    obtain ⟨V1, hV1⟩ : ∃ V1, w.alloc (.cells #[.int .i64 0, .int .i64 0, .int .i64 0, .int .i64 0, .int .u64 0, .int .u64 0, .int .u64 0] 79) = V1 := ⟨_, rfl⟩
    have R : Bf V1 w.heap.size 79 ⟨0, 0, 0, 0, 0, 0, 0⟩ := by rw [← hV1]; exact Bf.mk_ w ⟨0, 0, 0, 0, 0, 0, 0⟩ 79
    have ltR : w.heap.size ≤ w.heap.size := U.size
    have uV1 : Up w V1 := Up.al hV1
    rw [hV1]
    clear hV1
    replace U := U.trans uV1
    clear uV1
    refine (CF.out _).mono ?_
    rintro _ w2 ⟨rfl, h2⟩
    replace U := U.trans h2
    replace R := R.up h2
    clear h2
    go_upto_region 5 with fail
    go_wp2_with (refine store_F rfl 79 (.tmp 4) (.tmp 32) rfl _ ⟨0, 0, 0, 0, 0, 0, 0⟩ f rfl rfl (by kernel_rfl) w (by first | exact U | exact U.alloc _) ltR 79 (by first | exact R | exact R.up ((Up.refl _).alloc _)) ?_; clear U; intro V9 z U _)
    obtain ⟨z0, z1, z2, z3, z4, z5, z6⟩ := Bf.cs z
    simp only [Nat.zero_add] at z0 z1 z2 z3 z4 z5 z6
    refine bodyPost_ret (v := .tuple #[fv f, .int .i64 4]) (by simp [results, Tryz.results177, go_sem, z0, z1, z2, z3, z4, z5, z6]) rfl ?_
    exact ⟨rfl, U⟩
   ·
    have d4 : decide (f.t + 1 < (k : Int)) = false := decide_eq_false c4
    rw [if_neg c4] at hx
    clear c1 c3 c4
    subst hx
    have U := Up.refl w
    go_enter Tryz.func177, Tryz.ntmps177
    go_wp2_with fail
    obtain ⟨V1, hV1⟩ : ∃ V1, w.alloc (.cells #[.int .i64 0, .int .i64 0, .int .i64 0, .int .i64 0, .int .u64 0, .int .u64 0, .int .u64 0] 79) = V1 := ⟨_, rfl⟩
    have R : Bf V1 w.heap.size 79 ⟨0, 0, 0, 0, 0, 0, 0⟩ := by rw [← hV1]; exact Bf.mk_ w ⟨0, 0, 0, 0, 0, 0, 0⟩ 79
    have ltR : w.heap.size ≤ w.heap.size := U.size
    have uV1 : Up w V1 := Up.al hV1
    rw [hV1]
    clear hV1
    replace U := U.trans uV1
    clear uV1
    refine (CF.out _).mono ?_
    rintro _ w2 ⟨rfl, h2⟩
    replace U := U.trans h2
    replace R := R.up h2
    clear h2
    go_upto_region 6 with fail
    go_wp2_with (refine store_F rfl 79 (.tmp 4) (.tmp 33) rfl _ ⟨0, 0, 0, 0, 0, 0, 0⟩ f rfl rfl (by kernel_rfl) w (by first | exact U | exact U.alloc _) ltR 79 (by first | exact R | exact R.up ((Up.refl _).alloc _)) ?_; clear U; intro V9 z U _)
    obtain ⟨z0, z1, z2, z3, z4, z5, z6⟩ := Bf.cs z
    simp only [Nat.zero_add] at z0 z1 z2 z3 z4 z5 z6
    refine bodyPost_ret (v := .tuple #[fv f, .int .i64 0]) (by simp [results, Tryz.results177, go_sem, z0, z1, z2, z3, z4, z5, z6]) rfl ?_
    exact ⟨rfl, U⟩
  ·
   have d3 : (f.k != 3) = true := by simpa using c3
   rw [if_neg c3, if_pos c1] at hx
   clear c1 c3
   subst hx
   have U := Up.refl w
   go_enter Tryz.func177, Tryz.ntmps177
   go_wp2_with fail
   obtain ⟨V1, hV1⟩ : ∃ V1, w.alloc (.cells #[.int .i64 0, .int .i64 0, .int .i64 0, .int .i64 0, .int .u64 0, .int .u64 0, .int .u64 0] 79) = V1 := ⟨_, rfl⟩
   have R : Bf V1 w.heap.size 79 ⟨0, 0, 0, 0, 0, 0, 0⟩ := by rw [← hV1]; exact Bf.mk_ w ⟨0, 0, 0, 0, 0, 0, 0⟩ 79
   have ltR : w.heap.size ≤ w.heap.size := U.size
   have uV1 : Up w V1 := Up.al hV1
   rw [hV1]
   clear hV1
   replace U := U.trans uV1
   clear uV1
   refine (CF.out _).mono ?_
   rintro _ w2 ⟨rfl, h2⟩
   replace U := U.trans h2
   replace R := R.up h2
   clear h2
   go_upto_region 5 with fail
   go_wp2_with (refine store_F rfl 79 (.tmp 4) (.tmp 32) rfl _ ⟨0, 0, 0, 0, 0, 0, 0⟩ f rfl rfl (by kernel_rfl) w (by first | exact U | exact U.alloc _) ltR 79 (by first | exact R | exact R.up ((Up.refl _).alloc _)) ?_; clear U; intro V9 z U _)
   obtain ⟨z0, z1, z2, z3, z4, z5, z6⟩ := Bf.cs z
   simp only [Nat.zero_add] at z0 z1 z2 z3 z4 z5 z6
   refine bodyPost_ret (v := .tuple #[fv f, .int .i64 4]) (by simp [results, Tryz.results177, go_sem, z0, z1, z2, z3, z4, z5, z6]) rfl ?_
   exact ⟨rfl, U⟩
 ·
  have d1 : decide (f.t < (k : Int)) = false := decide_eq_false c1
  have d2 : decide (f.t + 1 < (k : Int)) = false := decide_eq_false (by omega)
  rw [if_neg (by split <;> omega)] at hx
  clear c1
  by_cases c3 : f.k = 3
  ·
   have d3 : (f.k != 3) = false := by simp [c3]
   clear c3
   subst hx
   have U := Up.refl w
   go_enter Tryz.func177, Tryz.ntmps177
   go_wp2_with fail
   obtain ⟨V1, hV1⟩ : ∃ V1, w.alloc (.cells #[.int .i64 0, .int .i64 0, .int .i64 0, .int .i64 0, .int .u64 0, .int .u64 0, .int .u64 0] 79) = V1 := ⟨_, rfl⟩
   have R : Bf V1 w.heap.size 79 ⟨0, 0, 0, 0, 0, 0, 0⟩ := by rw [← hV1]; exact Bf.mk_ w ⟨0, 0, 0, 0, 0, 0, 0⟩ 79
   have ltR : w.heap.size ≤ w.heap.size := U.size
   have uV1 : Up w V1 := Up.al hV1
   rw [hV1]
   clear hV1
   replace U := U.trans uV1
   clear uV1
   refine (CF.out _).mono ?_
   rintro _ w2 ⟨rfl, h2⟩
   replace U := U.trans h2
   replace R := R.up h2
   clear h2
   go_upto_region 6 with fail
   go_wp2_with (refine store_F rfl 79 (.tmp 4) (.tmp 33) rfl _ ⟨0, 0, 0, 0, 0, 0, 0⟩ f rfl rfl (by kernel_rfl) w (by first | exact U | exact U.alloc _) ltR 79 (by first | exact R | exact R.up ((Up.refl _).alloc _)) ?_; clear U; intro V9 z U _)
   obtain ⟨z0, z1, z2, z3, z4, z5, z6⟩ := Bf.cs z
   simp only [Nat.zero_add] at z0 z1 z2 z3 z4 z5 z6
   refine bodyPost_ret (v := .tuple #[fv f, .int .i64 0]) (by simp [results, Tryz.results177, go_sem, z0, z1, z2, z3, z4, z5, z6]) rfl ?_
   exact ⟨rfl, U⟩
  ·
   have d3 : (f.k != 3) = true := by simpa using c3
   clear c3
   subst hx
   have U := Up.refl w
   go_enter Tryz.func177, Tryz.ntmps177
   go_wp2_with fail
   obtain ⟨V1, hV1⟩ : ∃ V1, w.alloc (.cells #[.int .i64 0, .int .i64 0, .int .i64 0, .int .i64 0, .int .u64 0, .int .u64 0, .int .u64 0] 79) = V1 := ⟨_, rfl⟩
   have R : Bf V1 w.heap.size 79 ⟨0, 0, 0, 0, 0, 0, 0⟩ := by rw [← hV1]; exact Bf.mk_ w ⟨0, 0, 0, 0, 0, 0, 0⟩ 79
   have ltR : w.heap.size ≤ w.heap.size := U.size
   have uV1 : Up w V1 := Up.al hV1
   rw [hV1]
   clear hV1
   replace U := U.trans uV1
   clear uV1
   refine (CF.out _).mono ?_
   rintro _ w2 ⟨rfl, h2⟩
   replace U := U.trans h2
   replace R := R.up h2
   clear h2
   go_upto_region 6 with fail
   go_wp2_with (refine store_F rfl 79 (.tmp 4) (.tmp 33) rfl _ ⟨0, 0, 0, 0, 0, 0, 0⟩ f rfl rfl (by kernel_rfl) w (by first | exact U | exact U.alloc _) ltR 79 (by first | exact R | exact R.up ((Up.refl _).alloc _)) ?_; clear U; intro V9 z U _)
   obtain ⟨z0, z1, z2, z3, z4, z5, z6⟩ := Bf.cs z
   simp only [Nat.zero_add] at z0 z1 z2 z3 z4 z5 z6
   refine bodyPost_ret (v := .tuple #[fv f, .int .i64 0]) (by simp [results, Tryz.results177, go_sem, z0, z1, z2, z3, z4, z5, z6]) rfl ?_
   exact ⟨rfl, U⟩
set_option maxRecDepth 100000 in
theorem rmost_any (w : World) (ii : Int) (neg : Bool) (q x : Int) (h : M.Mc ii neg q x) : Calls Tryz.prog 131 #[.int .i64 ii, .bool neg] w (Wn q x w) := by
 rcases h with ⟨h, rfl, rfl⟩ | ⟨i, rfl, a, b, h⟩
 ·
  have U := Up.refl w
  go_enter Tryz.func131, Tryz.ntmps131
  go_wp2_with fail
  refine (rof_out _ ii h).mono ?_
  rintro _ w1 ⟨rfl, h1⟩
  replace U := U.trans h1
  clear h1
  clear h
  go_wp2_with fail
  go_ret2
  exact ⟨rfl, by first | exact U | exact U.alloc _⟩
 ·
  have ok := M.ok i a b
  have ok2 := M.ok2 i a b
  obtain ⟨f, hf⟩ : ∃ f, M.tb i = f := ⟨_, rfl⟩
  rw [hf] at ok ok2 h
  have tt := ft_rng' ok ok2
  have CF := Lib.hid (fun W => rof_in W i f (Lib.hid hf) a b)
  clear ok ok2 hf a b
  unfold M.mst at h
  rcases h with ⟨h4, rfl, rfl, rfl⟩ | ⟨h4, rfl, rfl⟩
  ·
   have d4 : (f.k == 4) = true := by simpa using h4
   clear h4
   have U := Up.refl w
   go_enter Tryz.func131, Tryz.ntmps131
   go_wp2_with fail
   refine (CF.out _).mono ?_
   rintro _ w1 ⟨rfl, h1⟩
   replace U := U.trans h1
   clear h1
   go_wp2_with fail
   go_ret2
   exact ⟨rfl, by first | exact U | exact U.alloc _⟩
  ·
   cases neg
   ·
    rw [if_neg (by simp)]
    have d4 : (f.k == 4) = decide (f.k = 4) := rfl
    clear h4
    by_cases e4 : f.k = 4
    ·
     have d5 : (f.k == 4) = true := by simpa using e4
     have d3 : (f.k == 3) = false := by simp [e4]
     clear e4 d4
     have U := Up.refl w
     go_enter Tryz.func131, Tryz.ntmps131
     go_wp2_with fail
     refine (CF.out _).mono ?_
     rintro _ w1 ⟨rfl, h1⟩
     replace U := U.trans h1
     clear h1
     go_wp2_with fail
     go_ret2
     exact ⟨rfl, by first | exact U | exact U.alloc _⟩
    by_cases e3 : f.k = 3
    ·
     have d5 : (f.k == 4) = false := by simpa using e4
     have d3 : (f.k == 3) = true := by simpa using e3
     clear e3 e4 d4
     have U := Up.refl w
     go_enter Tryz.func131, Tryz.ntmps131
     go_wp2_with fail
     refine (CF.out _).mono ?_
     rintro _ w1 ⟨rfl, h1⟩
     replace U := U.trans h1
     clear h1
     go_wp2_with fail
     go_ret2
     exact ⟨rfl, by first | exact U | exact U.alloc _⟩
    ·
     have d5 : (f.k == 4) = false := by simpa using e4
     have d3 : (f.k == 3) = false := by simpa using e3
     clear e3 e4 d4
     have U := Up.refl w
     go_enter Tryz.func131, Tryz.ntmps131
     go_wp2_with fail
     refine (CF.out _).mono ?_
     rintro _ w1 ⟨rfl, h1⟩
     replace U := U.trans h1
     clear h1
     go_wp2_with fail
     go_ret2
     exact ⟨rfl, by first | exact U | exact U.alloc _⟩
   ·
    have d4 : (f.k == 4) = false := by simpa using h4
    clear h4
    by_cases e3 : f.k = 3
    ·
     rw [if_pos ⟨e3, rfl⟩]
     have d3 : (f.k == 3) = true := by simpa using e3
     clear e3
     have U := Up.refl w
     go_enter Tryz.func131, Tryz.ntmps131
     go_wp2_with fail
     refine (CF.out _).mono ?_
     rintro _ w1 ⟨rfl, h1⟩
     replace U := U.trans h1
     clear h1
     go_wp2_with fail
     go_ret2
     exact ⟨rfl, by first | exact U | exact U.alloc _⟩
    ·
     rw [if_neg (by simp [e3])]
     have d3 : (f.k == 3) = false := by simpa using e3
     clear e3
     have U := Up.refl w
     go_enter Tryz.func131, Tryz.ntmps131
     go_wp2_with fail
     refine (CF.out _).mono ?_
     rintro _ w1 ⟨rfl, h1⟩
     replace U := U.trans h1
     clear h1
     go_wp2_with fail
     go_ret2
     exact ⟨rfl, by first | exact U | exact U.alloc _⟩
set_option maxRecDepth 100000 in
theorem rpattern_any (w : World) (ii : Int) (neg : Bool) (k : Nat) (kb : k < 18446744073709551616) (q x : Int) (h : M.Pc ii neg k q x) : Calls Tryz.prog 102 #[.int .i64 ii, .bool neg, u64 k] w (Wn q x w) := by
 rcases h with ⟨h, rfl, rfl⟩ | ⟨i, rfl, a, b, ⟨h4, hn, rfl, rfl⟩ | ⟨h4, ⟨h, rfl, rfl⟩ | ⟨h, rfl, rfl⟩⟩⟩
 ·
  have CM := Lib.hid (fun W => rmost_any W ii neg 0 3 (.inl ⟨h, rfl, rfl⟩))
  clear h
  have U := Up.refl w
  go_enter Tryz.func102, Tryz.ntmps102
  go_wp2_with fail
  refine (CM.out _).mono ?_
  rintro _ w1 ⟨rfl, h1⟩
  replace U := U.trans h1
  clear h1
  go_wp2_with fail
  go_ret2
  exact ⟨rfl, by first | exact U | exact U.alloc _⟩
 ·
  have CM := Lib.hid (fun W => rmost_any W (i : Int) neg 0 5 (.inr ⟨i, rfl, a, b, .inl ⟨h4, hn, rfl, rfl⟩⟩))
  clear h4 hn
  have U := Up.refl w
  go_enter Tryz.func102, Tryz.ntmps102
  go_wp2_with fail
  refine (CM.out _).mono ?_
  rintro _ w1 ⟨rfl, h1⟩
  replace U := U.trans h1
  clear h1
  go_wp2_with fail
  go_ret2
  exact ⟨rfl, by first | exact U | exact U.alloc _⟩
 ·
  have CM := Lib.hid (fun W => rmost_any W (i : Int) neg _ 0 (.inr ⟨i, rfl, a, b, .inr ⟨h4, rfl, rfl⟩⟩))
  obtain ⟨q, hq⟩ : ∃ q, M.mst (M.tb i) neg = q := ⟨_, rfl⟩
  rw [hq] at h CM
  have d1 : decide (q < (k : Int)) = true := decide_eq_true h
  clear h hq h4
  have U := Up.refl w
  go_enter Tryz.func102, Tryz.ntmps102
  go_wp2_with fail
  refine (CM.out _).mono ?_
  rintro _ w1 ⟨rfl, h1⟩
  replace U := U.trans h1
  clear h1
  go_wp2_with fail
  go_ret2
  exact ⟨rfl, by first | exact U | exact U.alloc _⟩
 ·
  have CM := Lib.hid (fun W => rmost_any W (i : Int) neg _ 0 (.inr ⟨i, rfl, a, b, .inr ⟨h4, rfl, rfl⟩⟩))
  have ok := M.ok i a b
  have ok2 := M.ok2 i a b
  obtain ⟨f, hf⟩ : ∃ f, M.tb i = f := ⟨_, rfl⟩
  rw [hf] at ok ok2 h h4 CM ⊢
  have CF := Lib.hid (fun W => rof_in W i f (Lib.hid hf) a b)
  have tt := ft_rng' ok ok2
  have kl : (k : Int) ≤ M.msk f ∧ (f.k = 2 → (k : Int) < M.half f) := by
   have h1 := ok.hm
   have h2 := ok.t
   have h3 := ok2.tri
   have h5 := ok.two
   unfold M.mst at h
   split at h
   ·exact ⟨by omega, by omega⟩
   ·exact ⟨by omega, by omega⟩
  obtain ⟨S, hS⟩ : ∃ z, M.sgn f = z := ⟨_, rfl⟩
  obtain ⟨M', hM⟩ : ∃ z, M.msk f = z := ⟨_, rfl⟩
  have CS := Lib.hid (fun W => rsign_any W f ok S (Lib.hid hS))
  have CK := Lib.hid (fun W => rmask_any W f ok M' (Lib.hid hM))
  have hm := ok.hm
  have hs := (M.sgn_ok ok).2
  obtain ⟨q, hq⟩ : ∃ q, M.mst f neg = q := ⟨_, rfl⟩
  rw [hq] at h CM
  unfold M.pat
  have d1 : decide (q < (k : Int)) = false := decide_eq_false (by omega)
  rw [hM] at hm kl ⊢
  rw [hS] at hs
  have sl : (f.k = 2 → M.half f = S) := fun e => ((hs (by omega)).1).symm
  have hh : 0 < M.half f ∧ M.half f ≤ 9223372036854775808 := ⟨hm.1, hm.2.2⟩
  have m1 : M' ≤ 18446744073709551615 ∧ 0 ≤ M' := by omega
  clear h hq h4 hf ok ok2 hS hM hs hm a b
  cases neg
  ·
   rw [if_pos rfl]
   clear sl kl hh
   have U := Up.refl w
   go_enter Tryz.func102, Tryz.ntmps102
   go_wp2_with fail
   refine (CM.out _).mono ?_
   rintro _ w1 ⟨rfl, h1⟩
   replace U := U.trans h1
   clear h1
   go_wp2_with fail
   refine (CF.out _).mono ?_
   rintro _ w2 ⟨rfl, h2⟩
   replace U := U.trans h2
   clear h2
   go_wp2_with fail
   go_ret2
   exact ⟨rfl, by first | exact U | exact U.alloc _⟩
  ·
   rw [if_neg (by decide)]
   by_cases e2 : f.k = 2
   ·
    rw [if_pos e2, sl e2]
    have k2 := kl.2 e2
    rw [sl e2] at k2 hh
    have d2 : (f.k == 2) = true := by simpa using e2
    clear e2 sl kl
    have U := Up.refl w
    go_enter Tryz.func102, Tryz.ntmps102
    go_wp2_with fail
    refine (CM.out _).mono ?_
    rintro _ w1 ⟨rfl, h1⟩
    replace U := U.trans h1
    clear h1
    go_wp2_with fail
    refine (CF.out _).mono ?_
    rintro _ w2 ⟨rfl, h2⟩
    replace U := U.trans h2
    clear h2
    go_wp2_with fail
    obtain ⟨V3, hV3, c, uV3⟩ := Bf.nw w2 f 79
    have ltc : w.heap.size ≤ w2.heap.size := U.size
    rw [hV3]
    clear hV3
    replace U := U.trans uV3
    clear uV3
    refine (CS.out _).mono ?_
    rintro _ w4 ⟨rfl, h4⟩
    replace U := U.trans h4
    replace c := c.up h4
    clear h4
    obtain ⟨c0, c1, c2, c3, c4, c5, c6⟩ := Bf.cs c
    have c7 := Bf.lt c
    simp only [Nat.zero_add] at c0 c1 c2 c3 c4 c5 c6 c7
    go_wp2_with fail
    clear c0 c1 c2 c3 c4 c5 c6 c7
    go_ret2
    exact ⟨rfl, U⟩
   ·
    rw [if_neg e2]
    have d2 : (f.k == 2) = false := by simpa using e2
    clear e2 sl hh
    by_cases k0 : k = 0
    ·
     rw [if_pos k0]
     have d3 : ((k : Int) == 0) = true := by simp [k0]
     clear k0 kl
     have U := Up.refl w
     go_enter Tryz.func102, Tryz.ntmps102
     go_wp2_with fail
     refine (CM.out _).mono ?_
     rintro _ w1 ⟨rfl, h1⟩
     replace U := U.trans h1
     clear h1
     go_wp2_with fail
     refine (CF.out _).mono ?_
     rintro _ w2 ⟨rfl, h2⟩
     replace U := U.trans h2
     clear h2
     go_wp2_with fail
     go_ret2
     exact ⟨rfl, by first | exact U | exact U.alloc _⟩
    ·
     rw [if_neg k0]
     have d3 : ((k : Int) == 0) = false := by rw [beq_eq_false_iff_ne]; omega
     have k1 := kl.1
     have k2 : 0 < k := by omega
     clear k0 kl
     have U := Up.refl w
     go_enter Tryz.func102, Tryz.ntmps102
     go_wp2_with fail
     refine (CM.out _).mono ?_
     rintro _ w1 ⟨rfl, h1⟩
     replace U := U.trans h1
     clear h1
     go_wp2_with fail
     refine (CF.out _).mono ?_
     rintro _ w2 ⟨rfl, h2⟩
     replace U := U.trans h2
     clear h2
     go_wp2_with fail
     obtain ⟨V3, hV3, c, uV3⟩ := Bf.nw w2 f 79
     have ltc : w.heap.size ≤ w2.heap.size := U.size
     rw [hV3]
     clear hV3
     replace U := U.trans uV3
     clear uV3
     refine (CK.out _).mono ?_
     rintro _ w4 ⟨rfl, h4⟩
     replace U := U.trans h4
     replace c := c.up h4
     clear h4
     obtain ⟨c0, c1, c2, c3, c4, c5, c6⟩ := Bf.cs c
     have c7 := Bf.lt c
     simp only [Nat.zero_add] at c0 c1 c2 c3 c4 c5 c6 c7
     go_wp2_with fail
     clear c0 c1 c2 c3 c4 c5 c6 c7
     go_ret2
     exact ⟨by first | rfl | exact congrArg _ (by congr 3; omega), U⟩
theorem tp_le' {f : M.Fm} (hf : M.Ok f) (h2 : M.Ok2 f) {k : Nat} (h : (k : Int) ≤ M.tp f) : k ≤ 9223372036854775807 := by
 have hm := hf.hm
 have o1 := h2.one
 have o3 := h2.tri
 have o4 := h2.four
 have o2 := hf.two
 unfold M.tp at h
 rcases hf.k with e | e | e | e
 ·rw [if_neg (by omega)] at h; omega
 ·rw [if_neg (by omega)] at h; omega
 ·rw [if_pos e] at h; omega
 ·rw [if_neg (by omega)] at h; omega
set_option maxRecDepth 100000 in
theorem rbetween_any (w : World) (ii : Int) (k : Nat) (kb : k < 18446744073709551616) (m : Nat) (z x : Int) (h : M.Bc ii k m z x) : Calls Tryz.prog 162 #[.int .i64 ii, u64 k] w (Mzx m z x w) := by
 rcases h with ⟨h, rfl, rfl, rfl⟩ | ⟨i, rfl, a, b, ⟨h, rfl, rfl, rfl⟩ | ⟨hk, h, rfl⟩⟩
 ·
  have U := Up.refl w
  go_enter Tryz.func162, Tryz.ntmps162
  go_wp2_with fail
  refine (rkfits_out _ ii k h).mono ?_
  rintro _ w1 ⟨rfl, h1⟩
  replace U := U.trans h1
  clear h1
  clear h
  go_wp2_with fail
  go_ret3
  exact ⟨rfl, by first | exact U | exact U.alloc _ | exact U.drewN _ | exact (U.alloc _).drewN _⟩
 ·
  obtain ⟨f, hf⟩ : ∃ f, M.tb i = f := ⟨_, rfl⟩
  have ok := M.ok i a b
  have ok2 := M.ok2 i a b
  rw [hf] at h ok ok2
  have CF := Lib.hid (fun W => rkfits_in W i f (Lib.hid hf) a b k kb 4 (by rw [if_pos h]))
  clear h hf ok ok2
  have U := Up.refl w
  go_enter Tryz.func162, Tryz.ntmps162
  go_wp2_with fail
  refine (CF.out _).mono ?_
  rintro _ w1 ⟨rfl, h1⟩
  replace U := U.trans h1
  clear h1
  go_wp2_with fail
  go_ret3
  exact ⟨rfl, by first | exact U | exact U.alloc _ | exact U.drewN _ | exact (U.alloc _).drewN _⟩
 ·
  obtain ⟨f, hf⟩ : ∃ f, M.tb i = f := ⟨_, rfl⟩
  have ok := M.ok i a b
  have ok2 := M.ok2 i a b
  rw [hf] at h ok ok2
  rw [hf] at hk
  have CF := Lib.hid (fun W => rkfits_in W i f (Lib.hid hf) a b k kb 0 (by rw [if_neg (by omega)]))
  have kk : k ≤ 9223372036854775807 := tp_le' ok ok2 hk
  clear hf hk
  rcases h with ⟨e, n, hn2, hn, hW, h⟩ | ⟨e, p, hp, hpm, ho, h⟩ | ⟨e, hfm, k0, rfl, rfl⟩ | ⟨e, hfb, k0, rfl, rfl⟩
  ·
   have d1 : (f.k == 1) = true := by simpa using e
   have CV : Hid (∀ W, Calls Tryz.prog 110 #[.int .i64 (f.W + 1), .int .u64 (2 * (k : Int) + 1)] W (V3 m z true W)) := fun W => by
    have h3 := rvalue_k W (n + 1) (2 * k + 1) m z (by omega) h
    rw [show (((n + 1 : Nat) : Int) + 1) = f.W + 1 by omega] at h3
    rw [show u64 (2 * k + 1) = .int .u64 (2 * (k : Int) + 1) by unfold u64; congr 1] at h3
    exact h3
   have wb : 0 ≤ f.W ∧ f.W ≤ 64 := by omega
   clear e h hW ok ok2
   have U := Up.refl w
   go_enter Tryz.func162, Tryz.ntmps162
   go_wp2_with fail
   refine (CF.out _).mono ?_
   rintro _ w1 ⟨rfl, h1⟩
   replace U := U.trans h1
   clear h1
   go_wp2_with fail
   obtain ⟨V2, hV2, c, uV2⟩ := Bf.nw w1 f 79
   have ltc : w.heap.size ≤ w1.heap.size := U.size
   rw [hV2]
   clear hV2
   replace U := U.trans uV2
   clear uV2
   refine (CV.out _).mono ?_
   rintro _ w3 ⟨rfl, h3⟩
   replace U := U.trans h3
   replace c := c.up h3
   clear h3
   go_wp2_with fail
   go_ret3
   exact ⟨rfl, by first | exact U | exact U.alloc _ | exact U.drewN _ | exact (U.alloc _).drewN _⟩
  ·
   have d1 : (f.k == 1) = false := by simp [e]
   have d2 : (f.k == 2) = true := by simpa using e
   have CV : Hid (∀ W, Calls Tryz.prog 111 #[.int .i64 (f.m + 1), .int .i64 f.b, .int .u64 (2 * (k : Int) + 1)] W (Mz m z W)) := fun W => by
    have h3 := rvalue6 W (p + 1) (2 * k + 1) m f.b z (by omega) ho h
    rw [show ((p + 1 : Nat) : Int) = f.m + 1 by omega] at h3
    rw [show u64 (2 * k + 1) = .int .u64 (2 * (k : Int) + 1) by unfold u64; congr 1] at h3
    exact h3
   have wb : 0 ≤ f.m ∧ f.m ≤ 64 := by omega
   clear e h hpm ho ok ok2
   have U := Up.refl w
   go_enter Tryz.func162, Tryz.ntmps162
   go_wp2_with fail
   refine (CF.out _).mono ?_
   rintro _ w1 ⟨rfl, h1⟩
   replace U := U.trans h1
   clear h1
   go_wp2_with fail
   obtain ⟨V2, hV2, c, uV2⟩ := Bf.nw w1 f 79
   have ltc : w.heap.size ≤ w1.heap.size := U.size
   rw [hV2]
   clear hV2
   replace U := U.trans uV2
   clear uV2
   refine (CV.out _).mono ?_
   rintro _ w3 ⟨rfl, h3⟩
   replace U := U.trans h3
   replace c := c.up h3
   clear h3
   go_wp2_with fail
   go_ret3
   exact ⟨rfl, by first | exact U | exact U.alloc _ | exact U.drewN _ | exact (U.alloc _).drewN _⟩
  ·
   have d1 : (f.k == 1) = false := by simp [e]
   have d2 : (f.k == 2) = false := by simp [e]
   have d3 : (f.k == 3) = true := by simpa using e
   clear e ok ok2
   have U := Up.refl w
   go_enter Tryz.func162, Tryz.ntmps162
   go_wp2_with fail
   refine (CF.out _).mono ?_
   rintro _ w1 ⟨rfl, h1⟩
   replace U := U.trans h1
   clear h1
   go_wp2_with fail
   go_quiet (fail)
   go_wp2_with fail
   go_ret3
   exact ⟨by first | rfl | (unfold u64; congr 3), by first | exact U | exact U.alloc _ | exact U.drewN _ | exact (U.alloc _).drewN _⟩
  ·
   have d1 : (f.k == 1) = false := by simp [e]
   have d2 : (f.k == 2) = false := by simp [e]
   have d3 : (f.k == 3) = false := by simp [e]
   clear e ok ok2
   have U := Up.refl w
   go_enter Tryz.func162, Tryz.ntmps162
   go_wp2_with fail
   refine (CF.out _).mono ?_
   rintro _ w1 ⟨rfl, h1⟩
   replace U := U.trans h1
   clear h1
   go_wp2_with fail
   go_quiet (fail)
   go_wp2_with fail
   go_ret3
   exact ⟨rfl, by first | exact U | exact U.alloc _ | exact U.drewN _ | exact (U.alloc _).drewN _⟩
set_option maxRecDepth 100000 in
theorem rdecode_any (w : World) (ii : Int) (p : Nat) (pb : p < 18446744073709551616) (c : Int) (g : Bool) (m : Nat) (z x : Int) (h : M.Dc ii p c g m z x) : Calls Tryz.prog 48 #[.int .i64 ii, u64 p] w (Vd c g m z x w) := by
 rcases h with ⟨h, rfl, rfl, rfl, rfl, rfl⟩ | ⟨i, rfl, a, b, ⟨h, rfl, rfl, rfl, rfl, rfl⟩ | ⟨hp, h, rfl⟩⟩
 ·
  have U := Up.refl w
  go_enter Tryz.func48, Tryz.ntmps48
  go_wp2_with fail
  obtain ⟨V1, hV1, R, uV1⟩ := Ob.nw w 85 #[.int .i64 0, .bool false, .int .u64 0, .int .i64 0]
  have ltR : w.heap.size ≤ w.heap.size := U.size
  rw [hV1]
  clear hV1
  replace U := U.trans uV1
  clear uV1
  refine (rfits_out _ ii p h).mono ?_
  rintro _ w2 ⟨rfl, h2⟩
  replace U := U.trans h2
  replace R := R.up h2
  clear h2
  clear h
  go_wp2_with (refine store_ob rfl 85 (.tmp 4) (.tmp 17) rfl _ #[.int .i64 0, .bool false, .int .u64 0, .int .i64 0] #[.int .i64 0, .bool false, .int .u64 0, .int .i64 0] rfl rfl 4 (by kernel_rfl) rfl rfl (by simp [Value.oneCell']) w (by first | exact U | exact U.alloc _) ltR 85 (by first | exact R | exact R.up ((Up.refl _).alloc _)) ?_; clear U; intro V9 z U)
  obtain ⟨z0, z1, z2, z3⟩ := z.g4
  refine bodyPost_ret (v := .tuple #[.agg #[.int .i64 0, .bool false, .int .u64 0, .int .i64 0], .int .i64 3]) (by simp [results, Tryz.results48, go_sem, z0, z1, z2, z3]) rfl ?_
  exact ⟨rfl, U⟩
 ·
  have CF := Lib.hid (fun W => rfits_in W i a b p 1 (Lib.hid (by unfold M.er; rw [if_neg (by omega)])))
  clear h
  have U := Up.refl w
  go_enter Tryz.func48, Tryz.ntmps48
  go_wp2_with fail
  obtain ⟨V1, hV1, R, uV1⟩ := Ob.nw w 85 #[.int .i64 0, .bool false, .int .u64 0, .int .i64 0]
  have ltR : w.heap.size ≤ w.heap.size := U.size
  rw [hV1]
  clear hV1
  replace U := U.trans uV1
  clear uV1
  refine (CF.out _).mono ?_
  rintro _ w2 ⟨rfl, h2⟩
  replace U := U.trans h2
  replace R := R.up h2
  clear h2
  go_wp2_with (refine store_ob rfl 85 (.tmp 4) (.tmp 17) rfl _ #[.int .i64 0, .bool false, .int .u64 0, .int .i64 0] #[.int .i64 0, .bool false, .int .u64 0, .int .i64 0] rfl rfl 4 (by kernel_rfl) rfl rfl (by simp [Value.oneCell']) w (by first | exact U | exact U.alloc _) ltR 85 (by first | exact R | exact R.up ((Up.refl _).alloc _)) ?_; clear U; intro V9 z U)
  obtain ⟨z0, z1, z2, z3⟩ := z.g4
  refine bodyPost_ret (v := .tuple #[.agg #[.int .i64 0, .bool false, .int .u64 0, .int .i64 0], .int .i64 1]) (by simp [results, Tryz.results48, go_sem, z0, z1, z2, z3]) rfl ?_
  exact ⟨rfl, U⟩
 ·
  have CI := Lib.hid (fun W => rfits_in W i a b p 0 (Lib.hid (by unfold M.er; rw [if_pos hp])))
  obtain ⟨f, hf⟩ : ∃ f, M.tb i = f := ⟨_, rfl⟩
  have ok := M.ok i a b
  have ok2 := M.ok2 i a b
  rw [hf] at h hp ok ok2
  obtain ⟨t, ht⟩ : ∃ t, M.ngs f p = t := ⟨_, rfl⟩
  obtain ⟨key, hk⟩ : ∃ key, M.kyf f p = key := ⟨_, rfl⟩
  have CP := Lib.hid (fun W => rparts_any W f ok p (by omega) hp t key (Lib.hid ht) (Lib.hid hk))
  have CO := Lib.hid (fun W => rof_in W i f (Lib.hid hf) a b)
  rcases h with ⟨hcl, rfl, rfl, rfl, rfl⟩ | ⟨hcl, rfl, rfl, rfl, rfl⟩ | ⟨hcl, rfl, rfl, rfl, rfl⟩ | ⟨hcl, rfl, rfl, k, hkk, hm⟩
  ·
   have CC := Lib.hid (fun W => rclass_any W i f (Lib.hid hf) a b p (by omega) hp 4 (Lib.hid hcl))
   clear hcl ht hk hf ok ok2 hp a b
   have U := Up.refl w
   go_enter Tryz.func48, Tryz.ntmps48
   go_wp2_with fail
   obtain ⟨V1, hV1, R, uV1⟩ := Ob.nw w 85 #[.int .i64 0, .bool false, .int .u64 0, .int .i64 0]
   have ltR : w.heap.size ≤ w.heap.size := U.size
   rw [hV1]
   clear hV1
   replace U := U.trans uV1
   clear uV1
   refine (CI.out _).mono ?_
   rintro _ w2 ⟨rfl, h2⟩
   replace U := U.trans h2
   replace R := R.up h2
   clear h2
   go_wp2_with fail
   refine (CO.out _).mono ?_
   rintro _ w3 ⟨rfl, h3⟩
   replace U := U.trans h3
   replace R := R.up h3
   clear h3
   go_wp2_with fail
   obtain ⟨V4, hV4, C, uV4⟩ := Bf.nw w3 f 79
   have ltC : w.heap.size ≤ w3.heap.size := U.size
   rw [hV4]
   clear hV4
   replace U := U.trans uV4
   replace R := R.up uV4
   clear uV4
   refine (CP.out _).mono ?_
   rintro _ w5 ⟨rfl, h5⟩
   replace U := U.trans h5
   replace C := C.up h5
   replace R := R.up h5
   clear h5
   go_wp2_with fail
   refine (CC.out _).mono ?_
   rintro _ w6 ⟨rfl, h6⟩
   replace U := U.trans h6
   replace C := C.up h6
   replace R := R.up h6
   clear h6
   have nY := Nat.ne_of_lt R.lt
   go_wp2_with (first | (refine store_ob rfl 85 (.tmp 11) (.tmp 33) rfl _ #[.int .i64 0, .bool false, .int .u64 0, .int .i64 0] #[.int .i64 4, .bool false, .int .u64 0, .int .i64 0] rfl rfl 4 (by kernel_rfl) rfl rfl (by simp [Value.oneCell']) w6 ((Up.refl _).alloc _) (Nat.le_refl _) 85 (Ob.mk_ _ _ _) ?_; intro V7 Y uV7; have ltY : w.heap.size ≤ w6.heap.size := U.size; replace U := U.trans uV7; replace C := C.up uV7; replace R := R.up uV7; clear uV7; have Y0 := Y.get 0; have Y1 := Y.get 1; have Y2 := Y.get 2; have Y3 := Y.get 3; simp only [M.z7, M.z8, M.z9] at Y0 Y1 Y2 Y3; have Yf0 := Y.fr 0; have Yf1 := Y.fr 1; have Yf2 := Y.fr 2; have Yf3 := Y.fr 3; obtain ⟨C0, C1, C2, C3, C4, C5, C6⟩ := Bf.cs C; simp only [Nat.zero_add] at C0 C1 C2 C3 C4 C5 C6) | (refine store_ob rfl 85 (.tmp 4) (.tmp 58) rfl _ #[.int .i64 0, .bool false, .int .u64 0, .int .i64 0] #[.int .i64 4, .bool false, .int .u64 0, .int .i64 0] rfl rfl 4 (by kernel_rfl) rfl rfl (by simp [Value.oneCell']) w (by first | exact U | exact U.alloc _) ltR 85 (by first | exact R | exact R.up ((Up.refl _).alloc _)) ?_; clear U; intro V9 z U))
   obtain ⟨z0, z1, z2, z3⟩ := z.g4
   refine bodyPost_ret (v := .tuple #[.agg #[.int .i64 4, .bool false, .int .u64 0, .int .i64 0], .int .i64 0]) (by simp [results, Tryz.results48, go_sem, z0, z1, z2, z3]) rfl ?_
   exact ⟨rfl, U⟩
  ·
   have h2 : f.k = 2 := by
    have h1 := hcl
    unfold M.cls at h1
    split at h1
    ·omega
    ·split at h1
     ·omega
     ·split at h1 <;> omega
   have d2 : (f.k == 2) = true := by simpa using h2
   clear h2
   have CC := Lib.hid (fun W => rclass_any W i f (Lib.hid hf) a b p (by omega) hp 3 (Lib.hid hcl))
   rw [ht]
   clear hcl ht hk hf ok ok2 hp a b
   cases t
   ·
    skip
    have U := Up.refl w
    go_enter Tryz.func48, Tryz.ntmps48
    go_wp2_with fail
    obtain ⟨V1, hV1, R, uV1⟩ := Ob.nw w 85 #[.int .i64 0, .bool false, .int .u64 0, .int .i64 0]
    have ltR : w.heap.size ≤ w.heap.size := U.size
    rw [hV1]
    clear hV1
    replace U := U.trans uV1
    clear uV1
    refine (CI.out _).mono ?_
    rintro _ w2 ⟨rfl, h2⟩
    replace U := U.trans h2
    replace R := R.up h2
    clear h2
    go_wp2_with fail
    refine (CO.out _).mono ?_
    rintro _ w3 ⟨rfl, h3⟩
    replace U := U.trans h3
    replace R := R.up h3
    clear h3
    go_wp2_with fail
    obtain ⟨V4, hV4, C, uV4⟩ := Bf.nw w3 f 79
    have ltC : w.heap.size ≤ w3.heap.size := U.size
    rw [hV4]
    clear hV4
    replace U := U.trans uV4
    replace R := R.up uV4
    clear uV4
    refine (CP.out _).mono ?_
    rintro _ w5 ⟨rfl, h5⟩
    replace U := U.trans h5
    replace C := C.up h5
    replace R := R.up h5
    clear h5
    go_wp2_with fail
    refine (CC.out _).mono ?_
    rintro _ w6 ⟨rfl, h6⟩
    replace U := U.trans h6
    replace C := C.up h6
    replace R := R.up h6
    clear h6
    have nY := Nat.ne_of_lt R.lt
    go_wp2_with (first | (refine store_ob rfl 85 (.tmp 11) (.tmp 33) rfl _ #[.int .i64 0, .bool false, .int .u64 0, .int .i64 0] #[.int .i64 3, .bool false, .int .u64 0, .int .i64 0] rfl rfl 4 (by kernel_rfl) rfl rfl (by simp [Value.oneCell']) w6 ((Up.refl _).alloc _) (Nat.le_refl _) 85 (Ob.mk_ _ _ _) ?_; intro V7 Y uV7; have ltY : w.heap.size ≤ w6.heap.size := U.size; replace U := U.trans uV7; replace C := C.up uV7; replace R := R.up uV7; clear uV7; have Y0 := Y.get 0; have Y1 := Y.get 1; have Y2 := Y.get 2; have Y3 := Y.get 3; simp only [M.z7, M.z8, M.z9] at Y0 Y1 Y2 Y3; have Yf0 := Y.fr 0; have Yf1 := Y.fr 1; have Yf2 := Y.fr 2; have Yf3 := Y.fr 3; obtain ⟨C0, C1, C2, C3, C4, C5, C6⟩ := Bf.cs C; simp only [Nat.zero_add] at C0 C1 C2 C3 C4 C5 C6) | (refine store_ob rfl 85 (.tmp 4) (.tmp 58) rfl _ #[.int .i64 0, .bool false, .int .u64 0, .int .i64 0] #[.int .i64 3, .bool false, .int .u64 0, .int .i64 0] rfl rfl 4 (by kernel_rfl) rfl rfl (by simp [Value.oneCell']) w (U.setCell (p := ⟨_, 1, none⟩) ltY _) ltR 85 (R.other nY _) ?_; clear U; intro V9 z U))
    obtain ⟨z0, z1, z2, z3⟩ := z.g4
    refine bodyPost_ret (v := .tuple #[.agg #[.int .i64 3, .bool false, .int .u64 0, .int .i64 0], .int .i64 0]) (by simp [results, Tryz.results48, go_sem, z0, z1, z2, z3]) rfl ?_
    exact ⟨rfl, U⟩
   ·
    skip
    have U := Up.refl w
    go_enter Tryz.func48, Tryz.ntmps48
    go_wp2_with fail
    obtain ⟨V1, hV1, R, uV1⟩ := Ob.nw w 85 #[.int .i64 0, .bool false, .int .u64 0, .int .i64 0]
    have ltR : w.heap.size ≤ w.heap.size := U.size
    rw [hV1]
    clear hV1
    replace U := U.trans uV1
    clear uV1
    refine (CI.out _).mono ?_
    rintro _ w2 ⟨rfl, h2⟩
    replace U := U.trans h2
    replace R := R.up h2
    clear h2
    go_wp2_with fail
    refine (CO.out _).mono ?_
    rintro _ w3 ⟨rfl, h3⟩
    replace U := U.trans h3
    replace R := R.up h3
    clear h3
    go_wp2_with fail
    obtain ⟨V4, hV4, C, uV4⟩ := Bf.nw w3 f 79
    have ltC : w.heap.size ≤ w3.heap.size := U.size
    rw [hV4]
    clear hV4
    replace U := U.trans uV4
    replace R := R.up uV4
    clear uV4
    refine (CP.out _).mono ?_
    rintro _ w5 ⟨rfl, h5⟩
    replace U := U.trans h5
    replace C := C.up h5
    replace R := R.up h5
    clear h5
    go_wp2_with fail
    refine (CC.out _).mono ?_
    rintro _ w6 ⟨rfl, h6⟩
    replace U := U.trans h6
    replace C := C.up h6
    replace R := R.up h6
    clear h6
    have nY := Nat.ne_of_lt R.lt
    go_wp2_with (first | (refine store_ob rfl 85 (.tmp 11) (.tmp 33) rfl _ #[.int .i64 0, .bool false, .int .u64 0, .int .i64 0] #[.int .i64 3, .bool false, .int .u64 0, .int .i64 0] rfl rfl 4 (by kernel_rfl) rfl rfl (by simp [Value.oneCell']) w6 ((Up.refl _).alloc _) (Nat.le_refl _) 85 (Ob.mk_ _ _ _) ?_; intro V7 Y uV7; have ltY : w.heap.size ≤ w6.heap.size := U.size; replace U := U.trans uV7; replace C := C.up uV7; replace R := R.up uV7; clear uV7; have Y0 := Y.get 0; have Y1 := Y.get 1; have Y2 := Y.get 2; have Y3 := Y.get 3; simp only [M.z7, M.z8, M.z9] at Y0 Y1 Y2 Y3; have Yf0 := Y.fr 0; have Yf1 := Y.fr 1; have Yf2 := Y.fr 2; have Yf3 := Y.fr 3; obtain ⟨C0, C1, C2, C3, C4, C5, C6⟩ := Bf.cs C; simp only [Nat.zero_add] at C0 C1 C2 C3 C4 C5 C6) | (refine store_ob rfl 85 (.tmp 4) (.tmp 58) rfl _ #[.int .i64 0, .bool false, .int .u64 0, .int .i64 0] #[.int .i64 3, .bool true, .int .u64 0, .int .i64 0] rfl rfl 4 (by kernel_rfl) rfl rfl (by simp [Value.oneCell']) w (U.setCell (p := ⟨_, 1, none⟩) ltY _) ltR 85 (R.other nY _) ?_; clear U; intro V9 z U))
    obtain ⟨z0, z1, z2, z3⟩ := z.g4
    refine bodyPost_ret (v := .tuple #[.agg #[.int .i64 3, .bool true, .int .u64 0, .int .i64 0], .int .i64 0]) (by simp [results, Tryz.results48, go_sem, z0, z1, z2, z3]) rfl ?_
    exact ⟨rfl, U⟩
  ·
   have CC := Lib.hid (fun W => rclass_any W i f (Lib.hid hf) a b p (by omega) hp 1 (Lib.hid hcl))
   rw [ht]
   clear hcl ht hk hf ok ok2 hp a b
   cases t
   ·
    show Calls _ _ _ _ (Vd 1 false 0 0 0 w)
    have U := Up.refl w
    go_enter Tryz.func48, Tryz.ntmps48
    go_wp2_with fail
    obtain ⟨V1, hV1, R, uV1⟩ := Ob.nw w 85 #[.int .i64 0, .bool false, .int .u64 0, .int .i64 0]
    have ltR : w.heap.size ≤ w.heap.size := U.size
    rw [hV1]
    clear hV1
    replace U := U.trans uV1
    clear uV1
    refine (CI.out _).mono ?_
    rintro _ w2 ⟨rfl, h2⟩
    replace U := U.trans h2
    replace R := R.up h2
    clear h2
    go_wp2_with fail
    refine (CO.out _).mono ?_
    rintro _ w3 ⟨rfl, h3⟩
    replace U := U.trans h3
    replace R := R.up h3
    clear h3
    go_wp2_with fail
    obtain ⟨V4, hV4, C, uV4⟩ := Bf.nw w3 f 79
    have ltC : w.heap.size ≤ w3.heap.size := U.size
    rw [hV4]
    clear hV4
    replace U := U.trans uV4
    replace R := R.up uV4
    clear uV4
    refine (CP.out _).mono ?_
    rintro _ w5 ⟨rfl, h5⟩
    replace U := U.trans h5
    replace C := C.up h5
    replace R := R.up h5
    clear h5
    go_wp2_with fail
    refine (CC.out _).mono ?_
    rintro _ w6 ⟨rfl, h6⟩
    replace U := U.trans h6
    replace C := C.up h6
    replace R := R.up h6
    clear h6
    have nY := Nat.ne_of_lt R.lt
    go_wp2_with (first | (refine store_ob rfl 85 (.tmp 11) (.tmp 33) rfl _ #[.int .i64 0, .bool false, .int .u64 0, .int .i64 0] #[.int .i64 1, .bool false, .int .u64 0, .int .i64 0] rfl rfl 4 (by kernel_rfl) rfl rfl (by simp [Value.oneCell']) w6 ((Up.refl _).alloc _) (Nat.le_refl _) 85 (Ob.mk_ _ _ _) ?_; intro V7 Y uV7; have ltY : w.heap.size ≤ w6.heap.size := U.size; replace U := U.trans uV7; replace C := C.up uV7; replace R := R.up uV7; clear uV7; have Y0 := Y.get 0; have Y1 := Y.get 1; have Y2 := Y.get 2; have Y3 := Y.get 3; simp only [M.z7, M.z8, M.z9] at Y0 Y1 Y2 Y3; have Yf0 := Y.fr 0; have Yf1 := Y.fr 1; have Yf2 := Y.fr 2; have Yf3 := Y.fr 3; obtain ⟨C0, C1, C2, C3, C4, C5, C6⟩ := Bf.cs C; simp only [Nat.zero_add] at C0 C1 C2 C3 C4 C5 C6) | (refine store_ob rfl 85 (.tmp 4) (.tmp 58) rfl _ #[.int .i64 0, .bool false, .int .u64 0, .int .i64 0] #[.int .i64 1, .bool false, .int .u64 0, .int .i64 0] rfl rfl 4 (by kernel_rfl) rfl rfl (by simp [Value.oneCell']) w (U.setCell (p := ⟨_, 1, none⟩) ltY _) ltR 85 (R.other nY _) ?_; clear U; intro V9 z U))
    obtain ⟨z0, z1, z2, z3⟩ := z.g4
    refine bodyPost_ret (v := .tuple #[.agg #[.int .i64 1, .bool false, .int .u64 0, .int .i64 0], .int .i64 0]) (by simp [results, Tryz.results48, go_sem, z0, z1, z2, z3]) rfl ?_
    exact ⟨rfl, U⟩
   ·
    by_cases h2 : f.k = 2
    ·
     have d2 : (f.k == 2) = true := by simpa using h2
     rw [decide_eq_true h2]
     clear h2
     show Calls _ _ _ _ (Vd 1 true 0 0 0 w)
     have U := Up.refl w
     go_enter Tryz.func48, Tryz.ntmps48
     go_wp2_with fail
     obtain ⟨V1, hV1, R, uV1⟩ := Ob.nw w 85 #[.int .i64 0, .bool false, .int .u64 0, .int .i64 0]
     have ltR : w.heap.size ≤ w.heap.size := U.size
     rw [hV1]
     clear hV1
     replace U := U.trans uV1
     clear uV1
     refine (CI.out _).mono ?_
     rintro _ w2 ⟨rfl, h2⟩
     replace U := U.trans h2
     replace R := R.up h2
     clear h2
     go_wp2_with fail
     refine (CO.out _).mono ?_
     rintro _ w3 ⟨rfl, h3⟩
     replace U := U.trans h3
     replace R := R.up h3
     clear h3
     go_wp2_with fail
     obtain ⟨V4, hV4, C, uV4⟩ := Bf.nw w3 f 79
     have ltC : w.heap.size ≤ w3.heap.size := U.size
     rw [hV4]
     clear hV4
     replace U := U.trans uV4
     replace R := R.up uV4
     clear uV4
     refine (CP.out _).mono ?_
     rintro _ w5 ⟨rfl, h5⟩
     replace U := U.trans h5
     replace C := C.up h5
     replace R := R.up h5
     clear h5
     go_wp2_with fail
     refine (CC.out _).mono ?_
     rintro _ w6 ⟨rfl, h6⟩
     replace U := U.trans h6
     replace C := C.up h6
     replace R := R.up h6
     clear h6
     have nY := Nat.ne_of_lt R.lt
     go_wp2_with (first | (refine store_ob rfl 85 (.tmp 11) (.tmp 33) rfl _ #[.int .i64 0, .bool false, .int .u64 0, .int .i64 0] #[.int .i64 1, .bool false, .int .u64 0, .int .i64 0] rfl rfl 4 (by kernel_rfl) rfl rfl (by simp [Value.oneCell']) w6 ((Up.refl _).alloc _) (Nat.le_refl _) 85 (Ob.mk_ _ _ _) ?_; intro V7 Y uV7; have ltY : w.heap.size ≤ w6.heap.size := U.size; replace U := U.trans uV7; replace C := C.up uV7; replace R := R.up uV7; clear uV7; have Y0 := Y.get 0; have Y1 := Y.get 1; have Y2 := Y.get 2; have Y3 := Y.get 3; simp only [M.z7, M.z8, M.z9] at Y0 Y1 Y2 Y3; have Yf0 := Y.fr 0; have Yf1 := Y.fr 1; have Yf2 := Y.fr 2; have Yf3 := Y.fr 3; obtain ⟨C0, C1, C2, C3, C4, C5, C6⟩ := Bf.cs C; simp only [Nat.zero_add] at C0 C1 C2 C3 C4 C5 C6) | (refine store_ob rfl 85 (.tmp 4) (.tmp 58) rfl _ #[.int .i64 0, .bool false, .int .u64 0, .int .i64 0] #[.int .i64 1, .bool true, .int .u64 0, .int .i64 0] rfl rfl 4 (by kernel_rfl) rfl rfl (by simp [Value.oneCell']) w (U.setCell (p := ⟨_, 1, none⟩) ltY _) ltR 85 (R.other nY _) ?_; clear U; intro V9 z U))
     obtain ⟨z0, z1, z2, z3⟩ := z.g4
     refine bodyPost_ret (v := .tuple #[.agg #[.int .i64 1, .bool true, .int .u64 0, .int .i64 0], .int .i64 0]) (by simp [results, Tryz.results48, go_sem, z0, z1, z2, z3]) rfl ?_
     exact ⟨rfl, U⟩
    ·
     have d2 : (f.k == 2) = false := by simpa using h2
     rw [decide_eq_false h2]
     clear h2
     show Calls _ _ _ _ (Vd 1 false 0 0 0 w)
     have U := Up.refl w
     go_enter Tryz.func48, Tryz.ntmps48
     go_wp2_with fail
     obtain ⟨V1, hV1, R, uV1⟩ := Ob.nw w 85 #[.int .i64 0, .bool false, .int .u64 0, .int .i64 0]
     have ltR : w.heap.size ≤ w.heap.size := U.size
     rw [hV1]
     clear hV1
     replace U := U.trans uV1
     clear uV1
     refine (CI.out _).mono ?_
     rintro _ w2 ⟨rfl, h2⟩
     replace U := U.trans h2
     replace R := R.up h2
     clear h2
     go_wp2_with fail
     refine (CO.out _).mono ?_
     rintro _ w3 ⟨rfl, h3⟩
     replace U := U.trans h3
     replace R := R.up h3
     clear h3
     go_wp2_with fail
     obtain ⟨V4, hV4, C, uV4⟩ := Bf.nw w3 f 79
     have ltC : w.heap.size ≤ w3.heap.size := U.size
     rw [hV4]
     clear hV4
     replace U := U.trans uV4
     replace R := R.up uV4
     clear uV4
     refine (CP.out _).mono ?_
     rintro _ w5 ⟨rfl, h5⟩
     replace U := U.trans h5
     replace C := C.up h5
     replace R := R.up h5
     clear h5
     go_wp2_with fail
     refine (CC.out _).mono ?_
     rintro _ w6 ⟨rfl, h6⟩
     replace U := U.trans h6
     replace C := C.up h6
     replace R := R.up h6
     clear h6
     have nY := Nat.ne_of_lt R.lt
     go_wp2_with (first | (refine store_ob rfl 85 (.tmp 11) (.tmp 33) rfl _ #[.int .i64 0, .bool false, .int .u64 0, .int .i64 0] #[.int .i64 1, .bool false, .int .u64 0, .int .i64 0] rfl rfl 4 (by kernel_rfl) rfl rfl (by simp [Value.oneCell']) w6 ((Up.refl _).alloc _) (Nat.le_refl _) 85 (Ob.mk_ _ _ _) ?_; intro V7 Y uV7; have ltY : w.heap.size ≤ w6.heap.size := U.size; replace U := U.trans uV7; replace C := C.up uV7; replace R := R.up uV7; clear uV7; have Y0 := Y.get 0; have Y1 := Y.get 1; have Y2 := Y.get 2; have Y3 := Y.get 3; simp only [M.z7, M.z8, M.z9] at Y0 Y1 Y2 Y3; have Yf0 := Y.fr 0; have Yf1 := Y.fr 1; have Yf2 := Y.fr 2; have Yf3 := Y.fr 3; obtain ⟨C0, C1, C2, C3, C4, C5, C6⟩ := Bf.cs C; simp only [Nat.zero_add] at C0 C1 C2 C3 C4 C5 C6) | (refine store_ob rfl 85 (.tmp 4) (.tmp 58) rfl _ #[.int .i64 0, .bool false, .int .u64 0, .int .i64 0] #[.int .i64 1, .bool false, .int .u64 0, .int .i64 0] rfl rfl 4 (by kernel_rfl) rfl rfl (by simp [Value.oneCell']) w (U.setCell (p := ⟨_, 1, none⟩) ltY _) ltR 85 (R.other nY _) ?_; clear U; intro V9 z U))
     obtain ⟨z0, z1, z2, z3⟩ := z.g4
     refine bodyPost_ret (v := .tuple #[.agg #[.int .i64 1, .bool false, .int .u64 0, .int .i64 0], .int .i64 0]) (by simp [results, Tryz.results48, go_sem, z0, z1, z2, z3]) rfl ?_
     exact ⟨rfl, U⟩
  ·
   have CC := Lib.hid (fun W => rclass_any W i f (Lib.hid hf) a b p (by omega) hp 2 (Lib.hid hcl))
   rw [ht]
   obtain rfl : (k : Int) = key := by rw [← hkk, hk]
   have kb : k < 18446744073709551616 := by have := (M.kyf_rng ok (p := p) (by omega) hp).2.1; have := ok.hm; omega
   have CM := Lib.hid (fun W => rmag_any W f k m z kb hm)
   clear hkk hm
   clear hcl ht hk hf ok ok2 hp a b
   have U := Up.refl w
   go_enter Tryz.func48, Tryz.ntmps48
   go_wp2_with fail
   obtain ⟨V1, hV1, R, uV1⟩ := Ob.nw w 85 #[.int .i64 0, .bool false, .int .u64 0, .int .i64 0]
   have ltR : w.heap.size ≤ w.heap.size := U.size
   rw [hV1]
   clear hV1
   replace U := U.trans uV1
   clear uV1
   refine (CI.out _).mono ?_
   rintro _ w2 ⟨rfl, h2⟩
   replace U := U.trans h2
   replace R := R.up h2
   clear h2
   go_wp2_with fail
   refine (CO.out _).mono ?_
   rintro _ w3 ⟨rfl, h3⟩
   replace U := U.trans h3
   replace R := R.up h3
   clear h3
   go_wp2_with fail
   obtain ⟨V4, hV4, C, uV4⟩ := Bf.nw w3 f 79
   have ltC : w.heap.size ≤ w3.heap.size := U.size
   rw [hV4]
   clear hV4
   replace U := U.trans uV4
   replace R := R.up uV4
   clear uV4
   refine (CP.out _).mono ?_
   rintro _ w5 ⟨rfl, h5⟩
   replace U := U.trans h5
   replace C := C.up h5
   replace R := R.up h5
   clear h5
   go_wp2_with fail
   refine (CC.out _).mono ?_
   rintro _ w6 ⟨rfl, h6⟩
   replace U := U.trans h6
   replace C := C.up h6
   replace R := R.up h6
   clear h6
   have nY := Nat.ne_of_lt R.lt
   have nC := Nat.ne_of_lt C.lt
   go_wp2_with (refine store_ob rfl 85 (.tmp 11) (.tmp 33) rfl _ #[.int .i64 0, .bool false, .int .u64 0, .int .i64 0] #[.int .i64 2, .bool false, .int .u64 0, .int .i64 0] rfl rfl 4 (by kernel_rfl) rfl rfl (by simp [Value.oneCell']) w6 ((Up.refl _).alloc _) (Nat.le_refl _) 85 (Ob.mk_ _ _ _) ?_; intro V7 Y uV7; have ltY : w.heap.size ≤ w6.heap.size := U.size; replace U := U.trans uV7; replace C := C.up uV7; replace R := R.up uV7; clear uV7; have Y0 := Y.get 0; have Y1 := Y.get 1; have Y2 := Y.get 2; have Y3 := Y.get 3; simp only [M.z7, M.z8, M.z9] at Y0 Y1 Y2 Y3; have Yf0 := Y.fr 0; have Yf1 := Y.fr 1; have Yf2 := Y.fr 2; have Yf3 := Y.fr 3; obtain ⟨C0, C1, C2, C3, C4, C5, C6⟩ := Bf.cs C; simp only [Nat.zero_add] at C0 C1 C2 C3 C4 C5 C6)
   replace U : Up w (V7.setCell ⟨w6.heap.size, 1, none⟩ (.bool t)) := U.setCell (p := ⟨w6.heap.size, 1, none⟩) ltY (.bool t)
   replace R := R.other nY (i := 1) (.bool t)
   replace Y := Y.put 1 (.bool t)
   obtain ⟨V20, hV20⟩ : ∃ V20, V7.setCell ⟨w6.heap.size, 1, none⟩ (.bool t) = V20 := ⟨_, rfl⟩
   rw [hV20] at U R Y ⊢
   clear hV20 C
   clear Y0 Yf0 Y1 Yf1 Y2 Yf2 Y3 Yf3 C0 C1 C2 C3 C4 C5 C6
   have Y : Ob V20 _ _ #[.int .i64 2, .bool t, .int .u64 0, .int .i64 0] := Y
   refine (CM.out _).mono ?_
   rintro _ w8 ⟨rfl, h8⟩
   replace U := U.trans h8
   replace R := R.up h8
   replace Y := Y.up h8
   clear h8
   obtain ⟨Y0, Y1, Y2, Y3, Yf0, Yf1, Yf2, Yf3, Yl⟩ := Y.c4
   go_wp2_with (refine store_ob rfl 85 (.tmp 4) (.tmp 58) rfl _ #[.int .i64 0, .bool false, .int .u64 0, .int .i64 0] #[.int .i64 2, .bool t, u64 m, .int .i64 z] rfl rfl 4 (by kernel_rfl) rfl rfl (by simp [Value.oneCell']) w ((U.setCell (p := ⟨_, 2, none⟩) ltY _).setCell (p := ⟨_, 3, none⟩) ltY _) ltR 85 ((R.other nY _).other nY _) ?_; clear U; intro V9 z9 U)
   obtain ⟨z90, z91, z92, z93⟩ := z9.g4
   refine bodyPost_ret (v := .tuple #[.agg #[.int .i64 2, .bool t, u64 m, .int .i64 z], .int .i64 0]) (by simp [results, Tryz.results48, go_sem, z90, z91, z92, z93]) rfl ?_
   exact ⟨rfl, U⟩
end Go.Proofs.YtijpffgocookaaaGreatDoor
