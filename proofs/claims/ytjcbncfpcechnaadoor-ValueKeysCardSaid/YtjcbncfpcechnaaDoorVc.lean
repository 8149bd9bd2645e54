/-
  The reference of layer 7: what a pattern is; the error of a key; the greatest key, the pattern of a key.
-/
import Derived.Test.YtjcbncfpcechnaaDoorVb
import Derived.Test.YtjcbncfpcechnaaDoorPs2
import Derived.Test.YtjcbncfpcechnaaDoorVv
namespace Go.Proofs.YtjcbncfpcechnaaDoor
open Go.RowKit
set_option linter.unusedSimpArgs false
set_option linter.unusedVariables false

set_option maxHeartbeats 4000000 in
set_option maxRecDepth 100000 in
theorem rclass_any (w : World) (i : Nat) (f : M.Fm) (hf : Hid (M.tb i = f)) (a : 1 ≤ i) (b : i ≤ 14) (p : Int) (p1 : 0 ≤ p) (p2 : p ≤ M.msk f) (c : Int) (hc : Hid (M.cls f p = c)) : Calls Tryd.prog 33 #[.int .i64 (i : Int), .int .u64 p] w (Nz c w) := by
  have ok := M.ok i a b
  rw [hf.out] at ok
  obtain ⟨t, ht⟩ : ∃ t, M.ngs f p = t := ⟨_, rfl⟩
  obtain ⟨key, hk⟩ : ∃ key, M.kyf f p = key := ⟨_, rfl⟩
  have CP := Lib.hid (fun W => rparts_any W f ok p p1 p2 t key (Lib.hid ht) (Lib.hid hk))
  have CF := Lib.hid (fun W => rof_in W i f hf a b)
  have hc' := hc.out
  unfold M.cls at hc'
  rw [hk] at hc'
  have kr := M.kyf_rng ok p1 p2
  rw [hk] at kr
  obtain ⟨k0, k1, _, _⟩ := kr
  have pm : p < 18446744073709551616 := by have := ok.hm; omega
  have kb : key < 18446744073709551616 := by have := ok.hm; omega
  clear hc hk ht p2 k1 ok hf
  by_cases A : f.k = 2 ∧ f.t < key
  · rw [if_pos A] at hc'
    have d1 : (f.k == 2) = true := by simpa using A.1
    have d2 : decide (f.t < key) = true := decide_eq_true A.2
    by_cases B : key = f.n
    · rw [if_pos B] at hc'
      subst hc'
      have d3 : (key == f.n) = true := by simpa using B
      clear A B
      have U := Up.refl w
      go_enter Tryd.func33, Tryd.ntmps33
      go_wp2_with fail
      refine (CF.out _).mono ?_
      rintro _ w1 ⟨rfl, h1⟩
      replace U := U.trans h1
      clear h1
      go_wp2_with fail
      obtain ⟨V2, hV2⟩ : ∃ V2, w1.alloc (.cells #[.int .i64 f.k, .int .i64 f.W, .int .i64 f.m, .int .i64 f.b, .int .u64 f.t, .int .u64 f.n, .int .u64 f.x] 58) = V2 := ⟨_, rfl⟩
      have c : Bf V2 w1.heap.size 58 f := by rw [← hV2]; exact Bf.mk_ w1 f 58
      have ltc : w.heap.size ≤ w1.heap.size := U.size
      have uV2 : Up w1 V2 := by rw [← hV2]; exact (Up.refl _).alloc _
      rw [hV2]
      clear hV2
      replace U := U.trans uV2
      clear uV2
      refine (CP.out _).mono ?_
      rintro _ w3 ⟨rfl, h3⟩
      replace U := U.trans h3
      replace c := c.up h3
      clear h3
      obtain ⟨c0, c1, c2, c3, c4, c5, c6⟩ := Bf.cs c
      have c7 := Bf.lt c
      simp only [Nat.zero_add] at c0 c1 c2 c3 c4 c5 c6 c7
      go_wp2_with fail
      clear c0 c1 c2 c3 c4 c5 c6 c7
      go_ret
      exact ⟨rfl, U⟩
    · rw [if_neg B] at hc'
      subst hc'
      have d3 : (key == f.n) = false := by simpa using B
      clear A B
      have U := Up.refl w
      go_enter Tryd.func33, Tryd.ntmps33
      go_wp2_with fail
      refine (CF.out _).mono ?_
      rintro _ w1 ⟨rfl, h1⟩
      replace U := U.trans h1
      clear h1
      go_wp2_with fail
      obtain ⟨V2, hV2⟩ : ∃ V2, w1.alloc (.cells #[.int .i64 f.k, .int .i64 f.W, .int .i64 f.m, .int .i64 f.b, .int .u64 f.t, .int .u64 f.n, .int .u64 f.x] 58) = V2 := ⟨_, rfl⟩
      have c : Bf V2 w1.heap.size 58 f := by rw [← hV2]; exact Bf.mk_ w1 f 58
      have ltc : w.heap.size ≤ w1.heap.size := U.size
      have uV2 : Up w1 V2 := by rw [← hV2]; exact (Up.refl _).alloc _
      rw [hV2]
      clear hV2
      replace U := U.trans uV2
      clear uV2
      refine (CP.out _).mono ?_
      rintro _ w3 ⟨rfl, h3⟩
      replace U := U.trans h3
      replace c := c.up h3
      clear h3
      obtain ⟨c0, c1, c2, c3, c4, c5, c6⟩ := Bf.cs c
      have c7 := Bf.lt c
      simp only [Nat.zero_add] at c0 c1 c2 c3 c4 c5 c6 c7
      go_wp2_with fail
      clear c0 c1 c2 c3 c4 c5 c6 c7
      go_ret
      exact ⟨rfl, U⟩
  rw [if_neg A] at hc'
  by_cases B : f.k ≠ 2 ∧ f.x ≠ 0 ∧ p = f.x
  · rw [if_pos B] at hc'
    subst hc'
    have d1 : (f.k == 2) = false := by simpa using B.1
    have d2 : (f.k != 2) = true := by simpa using B.1
    have d3 : (f.x != 0) = true := by simpa using B.2.1
    have d4 : (p == f.x) = true := by simpa using B.2.2
    clear A B
    have U := Up.refl w
    go_enter Tryd.func33, Tryd.ntmps33
    go_wp2_with fail
    refine (CF.out _).mono ?_
    rintro _ w1 ⟨rfl, h1⟩
    replace U := U.trans h1
    clear h1
    go_wp2_with fail
    obtain ⟨V2, hV2⟩ : ∃ V2, w1.alloc (.cells #[.int .i64 f.k, .int .i64 f.W, .int .i64 f.m, .int .i64 f.b, .int .u64 f.t, .int .u64 f.n, .int .u64 f.x] 58) = V2 := ⟨_, rfl⟩
    have c : Bf V2 w1.heap.size 58 f := by rw [← hV2]; exact Bf.mk_ w1 f 58
    have ltc : w.heap.size ≤ w1.heap.size := U.size
    have uV2 : Up w1 V2 := by rw [← hV2]; exact (Up.refl _).alloc _
    rw [hV2]
    clear hV2
    replace U := U.trans uV2
    clear uV2
    refine (CP.out _).mono ?_
    rintro _ w3 ⟨rfl, h3⟩
    replace U := U.trans h3
    replace c := c.up h3
    clear h3
    obtain ⟨c0, c1, c2, c3, c4, c5, c6⟩ := Bf.cs c
    have c7 := Bf.lt c
    simp only [Nat.zero_add] at c0 c1 c2 c3 c4 c5 c6 c7
    go_wp2_with fail
    clear c0 c1 c2 c3 c4 c5 c6 c7
    go_ret
    exact ⟨rfl, U⟩
  rw [if_neg B] at hc'
  by_cases C : f.k = 2
  ·
    have d1 : (f.k == 2) = true := by simpa using C
    have d2 : (f.k != 2) = false := by simp [C]
    have d3 : decide (f.t < key) = false := decide_eq_false (fun h => A ⟨C, h⟩)
    clear A B
    have C4 : f.k = 4 → False := fun e => by omega
    clear C
    by_cases K : key = 0 ∧ f.k ≠ 4
    · rw [if_pos K] at hc'
      subst hc'
      have e1 : (key == 0) = true := by simpa using K.1
      have e2 : (f.k != 4) = true := by simpa using K.2
      clear K
      have U := Up.refl w
      go_enter Tryd.func33, Tryd.ntmps33
      go_wp2_with fail
      refine (CF.out _).mono ?_
      rintro _ w1 ⟨rfl, h1⟩
      replace U := U.trans h1
      clear h1
      go_wp2_with fail
      obtain ⟨V2, hV2⟩ : ∃ V2, w1.alloc (.cells #[.int .i64 f.k, .int .i64 f.W, .int .i64 f.m, .int .i64 f.b, .int .u64 f.t, .int .u64 f.n, .int .u64 f.x] 58) = V2 := ⟨_, rfl⟩
      have c : Bf V2 w1.heap.size 58 f := by rw [← hV2]; exact Bf.mk_ w1 f 58
      have ltc : w.heap.size ≤ w1.heap.size := U.size
      have uV2 : Up w1 V2 := by rw [← hV2]; exact (Up.refl _).alloc _
      rw [hV2]
      clear hV2
      replace U := U.trans uV2
      clear uV2
      refine (CP.out _).mono ?_
      rintro _ w3 ⟨rfl, h3⟩
      replace U := U.trans h3
      replace c := c.up h3
      clear h3
      obtain ⟨c0, c1, c2, c3, c4, c5, c6⟩ := Bf.cs c
      have c7 := Bf.lt c
      simp only [Nat.zero_add] at c0 c1 c2 c3 c4 c5 c6 c7
      go_wp2_with fail
      clear c0 c1 c2 c3 c4 c5 c6 c7
      go_ret
      exact ⟨rfl, U⟩
    rw [if_neg K] at hc'
    subst hc'
    by_cases K0 : key = 0
    ·
      have e1 : (key == 0) = true := by simpa using K0
      have e2 : (f.k != 4) = false := by
        have : f.k = 4 := by omega
        simp [this]
      clear K K0
      have U := Up.refl w
      go_enter Tryd.func33, Tryd.ntmps33
      go_wp2_with fail
      refine (CF.out _).mono ?_
      rintro _ w1 ⟨rfl, h1⟩
      replace U := U.trans h1
      clear h1
      go_wp2_with fail
      obtain ⟨V2, hV2⟩ : ∃ V2, w1.alloc (.cells #[.int .i64 f.k, .int .i64 f.W, .int .i64 f.m, .int .i64 f.b, .int .u64 f.t, .int .u64 f.n, .int .u64 f.x] 58) = V2 := ⟨_, rfl⟩
      have c : Bf V2 w1.heap.size 58 f := by rw [← hV2]; exact Bf.mk_ w1 f 58
      have ltc : w.heap.size ≤ w1.heap.size := U.size
      have uV2 : Up w1 V2 := by rw [← hV2]; exact (Up.refl _).alloc _
      rw [hV2]
      clear hV2
      replace U := U.trans uV2
      clear uV2
      refine (CP.out _).mono ?_
      rintro _ w3 ⟨rfl, h3⟩
      replace U := U.trans h3
      replace c := c.up h3
      clear h3
      obtain ⟨c0, c1, c2, c3, c4, c5, c6⟩ := Bf.cs c
      have c7 := Bf.lt c
      simp only [Nat.zero_add] at c0 c1 c2 c3 c4 c5 c6 c7
      go_wp2_with fail
      clear c0 c1 c2 c3 c4 c5 c6 c7
      go_ret
      exact ⟨rfl, U⟩
    ·
      have e1 : (key == 0) = false := by simpa using K0
      clear K K0
      have U := Up.refl w
      go_enter Tryd.func33, Tryd.ntmps33
      go_wp2_with fail
      refine (CF.out _).mono ?_
      rintro _ w1 ⟨rfl, h1⟩
      replace U := U.trans h1
      clear h1
      go_wp2_with fail
      obtain ⟨V2, hV2⟩ : ∃ V2, w1.alloc (.cells #[.int .i64 f.k, .int .i64 f.W, .int .i64 f.m, .int .i64 f.b, .int .u64 f.t, .int .u64 f.n, .int .u64 f.x] 58) = V2 := ⟨_, rfl⟩
      have c : Bf V2 w1.heap.size 58 f := by rw [← hV2]; exact Bf.mk_ w1 f 58
      have ltc : w.heap.size ≤ w1.heap.size := U.size
      have uV2 : Up w1 V2 := by rw [← hV2]; exact (Up.refl _).alloc _
      rw [hV2]
      clear hV2
      replace U := U.trans uV2
      clear uV2
      refine (CP.out _).mono ?_
      rintro _ w3 ⟨rfl, h3⟩
      replace U := U.trans h3
      replace c := c.up h3
      clear h3
      obtain ⟨c0, c1, c2, c3, c4, c5, c6⟩ := Bf.cs c
      have c7 := Bf.lt c
      simp only [Nat.zero_add] at c0 c1 c2 c3 c4 c5 c6 c7
      go_wp2_with fail
      clear c0 c1 c2 c3 c4 c5 c6 c7
      go_ret
      exact ⟨rfl, U⟩
  have d1 : (f.k == 2) = false := by simpa using C
  have d2 : (f.k != 2) = true := by simpa using C
  by_cases D : f.x = 0
  ·
    have d3 : (f.x != 0) = false := by simp [D]
    clear A B D
    by_cases K : key = 0 ∧ f.k ≠ 4
    · rw [if_pos K] at hc'
      subst hc'
      have e1 : (key == 0) = true := by simpa using K.1
      have e2 : (f.k != 4) = true := by simpa using K.2
      clear K
      have U := Up.refl w
      go_enter Tryd.func33, Tryd.ntmps33
      go_wp2_with fail
      refine (CF.out _).mono ?_
      rintro _ w1 ⟨rfl, h1⟩
      replace U := U.trans h1
      clear h1
      go_wp2_with fail
      obtain ⟨V2, hV2⟩ : ∃ V2, w1.alloc (.cells #[.int .i64 f.k, .int .i64 f.W, .int .i64 f.m, .int .i64 f.b, .int .u64 f.t, .int .u64 f.n, .int .u64 f.x] 58) = V2 := ⟨_, rfl⟩
      have c : Bf V2 w1.heap.size 58 f := by rw [← hV2]; exact Bf.mk_ w1 f 58
      have ltc : w.heap.size ≤ w1.heap.size := U.size
      have uV2 : Up w1 V2 := by rw [← hV2]; exact (Up.refl _).alloc _
      rw [hV2]
      clear hV2
      replace U := U.trans uV2
      clear uV2
      refine (CP.out _).mono ?_
      rintro _ w3 ⟨rfl, h3⟩
      replace U := U.trans h3
      replace c := c.up h3
      clear h3
      obtain ⟨c0, c1, c2, c3, c4, c5, c6⟩ := Bf.cs c
      have c7 := Bf.lt c
      simp only [Nat.zero_add] at c0 c1 c2 c3 c4 c5 c6 c7
      go_wp2_with fail
      clear c0 c1 c2 c3 c4 c5 c6 c7
      go_ret
      exact ⟨rfl, U⟩
    rw [if_neg K] at hc'
    subst hc'
    by_cases K0 : key = 0
    ·
      have e1 : (key == 0) = true := by simpa using K0
      have e2 : (f.k != 4) = false := by
        have : f.k = 4 := by omega
        simp [this]
      clear K K0
      have U := Up.refl w
      go_enter Tryd.func33, Tryd.ntmps33
      go_wp2_with fail
      refine (CF.out _).mono ?_
      rintro _ w1 ⟨rfl, h1⟩
      replace U := U.trans h1
      clear h1
      go_wp2_with fail
      obtain ⟨V2, hV2⟩ : ∃ V2, w1.alloc (.cells #[.int .i64 f.k, .int .i64 f.W, .int .i64 f.m, .int .i64 f.b, .int .u64 f.t, .int .u64 f.n, .int .u64 f.x] 58) = V2 := ⟨_, rfl⟩
      have c : Bf V2 w1.heap.size 58 f := by rw [← hV2]; exact Bf.mk_ w1 f 58
      have ltc : w.heap.size ≤ w1.heap.size := U.size
      have uV2 : Up w1 V2 := by rw [← hV2]; exact (Up.refl _).alloc _
      rw [hV2]
      clear hV2
      replace U := U.trans uV2
      clear uV2
      refine (CP.out _).mono ?_
      rintro _ w3 ⟨rfl, h3⟩
      replace U := U.trans h3
      replace c := c.up h3
      clear h3
      obtain ⟨c0, c1, c2, c3, c4, c5, c6⟩ := Bf.cs c
      have c7 := Bf.lt c
      simp only [Nat.zero_add] at c0 c1 c2 c3 c4 c5 c6 c7
      go_wp2_with fail
      clear c0 c1 c2 c3 c4 c5 c6 c7
      go_ret
      exact ⟨rfl, U⟩
    ·
      have e1 : (key == 0) = false := by simpa using K0
      clear K K0
      have U := Up.refl w
      go_enter Tryd.func33, Tryd.ntmps33
      go_wp2_with fail
      refine (CF.out _).mono ?_
      rintro _ w1 ⟨rfl, h1⟩
      replace U := U.trans h1
      clear h1
      go_wp2_with fail
      obtain ⟨V2, hV2⟩ : ∃ V2, w1.alloc (.cells #[.int .i64 f.k, .int .i64 f.W, .int .i64 f.m, .int .i64 f.b, .int .u64 f.t, .int .u64 f.n, .int .u64 f.x] 58) = V2 := ⟨_, rfl⟩
      have c : Bf V2 w1.heap.size 58 f := by rw [← hV2]; exact Bf.mk_ w1 f 58
      have ltc : w.heap.size ≤ w1.heap.size := U.size
      have uV2 : Up w1 V2 := by rw [← hV2]; exact (Up.refl _).alloc _
      rw [hV2]
      clear hV2
      replace U := U.trans uV2
      clear uV2
      refine (CP.out _).mono ?_
      rintro _ w3 ⟨rfl, h3⟩
      replace U := U.trans h3
      replace c := c.up h3
      clear h3
      obtain ⟨c0, c1, c2, c3, c4, c5, c6⟩ := Bf.cs c
      have c7 := Bf.lt c
      simp only [Nat.zero_add] at c0 c1 c2 c3 c4 c5 c6 c7
      go_wp2_with fail
      clear c0 c1 c2 c3 c4 c5 c6 c7
      go_ret
      exact ⟨rfl, U⟩
  have d3 : (f.x != 0) = true := by simpa using D
  have d4 : (p == f.x) = false := by
    rw [beq_eq_false_iff_ne]
    exact fun h => B ⟨C, D, h⟩
  clear A B D
  by_cases K : key = 0 ∧ f.k ≠ 4
  · rw [if_pos K] at hc'
    subst hc'
    have e1 : (key == 0) = true := by simpa using K.1
    have e2 : (f.k != 4) = true := by simpa using K.2
    clear K
    have U := Up.refl w
    go_enter Tryd.func33, Tryd.ntmps33
    go_wp2_with fail
    refine (CF.out _).mono ?_
    rintro _ w1 ⟨rfl, h1⟩
    replace U := U.trans h1
    clear h1
    go_wp2_with fail
    obtain ⟨V2, hV2⟩ : ∃ V2, w1.alloc (.cells #[.int .i64 f.k, .int .i64 f.W, .int .i64 f.m, .int .i64 f.b, .int .u64 f.t, .int .u64 f.n, .int .u64 f.x] 58) = V2 := ⟨_, rfl⟩
    have c : Bf V2 w1.heap.size 58 f := by rw [← hV2]; exact Bf.mk_ w1 f 58
    have ltc : w.heap.size ≤ w1.heap.size := U.size
    have uV2 : Up w1 V2 := by rw [← hV2]; exact (Up.refl _).alloc _
    rw [hV2]
    clear hV2
    replace U := U.trans uV2
    clear uV2
    refine (CP.out _).mono ?_
    rintro _ w3 ⟨rfl, h3⟩
    replace U := U.trans h3
    replace c := c.up h3
    clear h3
    obtain ⟨c0, c1, c2, c3, c4, c5, c6⟩ := Bf.cs c
    have c7 := Bf.lt c
    simp only [Nat.zero_add] at c0 c1 c2 c3 c4 c5 c6 c7
    go_wp2_with fail
    clear c0 c1 c2 c3 c4 c5 c6 c7
    go_ret
    exact ⟨rfl, U⟩
  rw [if_neg K] at hc'
  subst hc'
  by_cases K0 : key = 0
  ·
    have e1 : (key == 0) = true := by simpa using K0
    have e2 : (f.k != 4) = false := by
      have : f.k = 4 := by omega
      simp [this]
    clear K K0
    have U := Up.refl w
    go_enter Tryd.func33, Tryd.ntmps33
    go_wp2_with fail
    refine (CF.out _).mono ?_
    rintro _ w1 ⟨rfl, h1⟩
    replace U := U.trans h1
    clear h1
    go_wp2_with fail
    obtain ⟨V2, hV2⟩ : ∃ V2, w1.alloc (.cells #[.int .i64 f.k, .int .i64 f.W, .int .i64 f.m, .int .i64 f.b, .int .u64 f.t, .int .u64 f.n, .int .u64 f.x] 58) = V2 := ⟨_, rfl⟩
    have c : Bf V2 w1.heap.size 58 f := by rw [← hV2]; exact Bf.mk_ w1 f 58
    have ltc : w.heap.size ≤ w1.heap.size := U.size
    have uV2 : Up w1 V2 := by rw [← hV2]; exact (Up.refl _).alloc _
    rw [hV2]
    clear hV2
    replace U := U.trans uV2
    clear uV2
    refine (CP.out _).mono ?_
    rintro _ w3 ⟨rfl, h3⟩
    replace U := U.trans h3
    replace c := c.up h3
    clear h3
    obtain ⟨c0, c1, c2, c3, c4, c5, c6⟩ := Bf.cs c
    have c7 := Bf.lt c
    simp only [Nat.zero_add] at c0 c1 c2 c3 c4 c5 c6 c7
    go_wp2_with fail
    clear c0 c1 c2 c3 c4 c5 c6 c7
    go_ret
    exact ⟨rfl, U⟩
  ·
    have e1 : (key == 0) = false := by simpa using K0
    clear K K0
    have U := Up.refl w
    go_enter Tryd.func33, Tryd.ntmps33
    go_wp2_with fail
    refine (CF.out _).mono ?_
    rintro _ w1 ⟨rfl, h1⟩
    replace U := U.trans h1
    clear h1
    go_wp2_with fail
    obtain ⟨V2, hV2⟩ : ∃ V2, w1.alloc (.cells #[.int .i64 f.k, .int .i64 f.W, .int .i64 f.m, .int .i64 f.b, .int .u64 f.t, .int .u64 f.n, .int .u64 f.x] 58) = V2 := ⟨_, rfl⟩
    have c : Bf V2 w1.heap.size 58 f := by rw [← hV2]; exact Bf.mk_ w1 f 58
    have ltc : w.heap.size ≤ w1.heap.size := U.size
    have uV2 : Up w1 V2 := by rw [← hV2]; exact (Up.refl _).alloc _
    rw [hV2]
    clear hV2
    replace U := U.trans uV2
    clear uV2
    refine (CP.out _).mono ?_
    rintro _ w3 ⟨rfl, h3⟩
    replace U := U.trans h3
    replace c := c.up h3
    clear h3
    obtain ⟨c0, c1, c2, c3, c4, c5, c6⟩ := Bf.cs c
    have c7 := Bf.lt c
    simp only [Nat.zero_add] at c0 c1 c2 c3 c4 c5 c6 c7
    go_wp2_with fail
    clear c0 c1 c2 c3 c4 c5 c6 c7
    go_ret
    exact ⟨rfl, U⟩
end Go.Proofs.YtjcbncfpcechnaaDoor
