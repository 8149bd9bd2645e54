/-
  The reference of layer 7: what a magnitude is.
-/
import Derived.Test.YtjcbncfpcechnaaDoorVr2
import Derived.BigQuiet
namespace Go.Proofs.YtjcbncfpcechnaaDoor
open Go.RowKit
/-- The magnitude k of the form f is m times 2^z. -/
def M.Mg (f : M.Fm) (k m : Nat) (z : Int) : Prop :=
  (f.k = 1 ∧ ∃ n : Nat, n ≤ 64 ∧ f.W = (n : Int) + 1 ∧ M.IsK n k m z) ∨
  (f.k = 2 ∧ ∃ p : Nat, f.m = (p : Int) ∧ M.mok p f.b k ∧ M.IsM p f.b k m z) ∨
  (f.k = 3 ∧ (0 ≤ f.m ∧ f.m ≤ 64) ∧ 0 < k ∧ m % 2 = 1 ∧ ∃ t : Nat, k = m * 2 ^ t ∧ -f.m + t = z) ∨
  (f.k = 4 ∧ (-100000 ≤ f.b ∧ f.b ≤ 100000) ∧ k < 1000000 ∧ m = 1 ∧ (k : Int) - f.b = z)

set_option maxHeartbeats 2000000 in
set_option maxRecDepth 100000 in
theorem rmag_any (w : World) (f : M.Fm) (k m : Nat) (z : Int) (hk : k < 18446744073709551616) (h : M.Mg f k m z) : Calls Tryd.prog 34 #[fv f, u64 k] w (Mz m z w) := by
  rcases h with ⟨e, n, hn, hW, h⟩ | ⟨e, p, hp, ho, h⟩ | ⟨e, hm, h0, ho, t, ht, hz⟩ | ⟨e, hb, hk2, rfl, rfl⟩
  ·
    have d1 : (f.k == 1) = true := by rw [e]; decide
    have HV : ∀ w1, Calls Tryd.prog 41 #[.int .i64 f.W, u64 k] w1 (V3 m z true w1) := fun w1 => by rw [hW]; exact rvalue_k w1 n k m z hn h
    clear h hW e
    have U := Up.refl w
    go_enter Tryd.func34, Tryd.ntmps34
    go_wp2_with fail
    obtain ⟨V1, hV1⟩ : ∃ V1, w.alloc (.cells #[.int .i64 f.k, .int .i64 f.W, .int .i64 f.m, .int .i64 f.b, .int .u64 f.t, .int .u64 f.n, .int .u64 f.x] 58) = V1 := ⟨_, rfl⟩
    have uV1 : Up w V1 := by rw [← hV1]; first | exact (Up.refl _).alloc _ | exact ((Up.refl _).alloc _).alloc _ | exact (((Up.refl _).alloc _).alloc _).alloc _ | exact ((((Up.refl _).alloc _).alloc _).alloc _).alloc _ | ((repeat (refine Up.alloc ?_ _)); exact Up.refl _)
    have c : Bf V1 w.heap.size 58 f := by rw [← hV1]; exact Bf.mk_ w f 58
    rw [hV1]
    clear hV1
    replace U := U.trans uV1
    clear uV1
    obtain ⟨c0, c1, c2, c3, c4, c5, c6⟩ := Bf.cs c
    have c7 := Bf.lt c
    simp only [Nat.zero_add] at c0 c1 c2 c3 c4 c5 c6 c7
    go_wp2_with fail
    clear c0 c1 c2 c3 c4 c5 c6 c7
    refine (HV _).mono ?_
    rintro _ w2 ⟨rfl, h2⟩
    replace c := c.up h2
    replace U := U.trans h2
    clear h2
    obtain ⟨c0, c1, c2, c3, c4, c5, c6⟩ := Bf.cs c
    have c7 := Bf.lt c
    simp only [Nat.zero_add] at c0 c1 c2 c3 c4 c5 c6 c7
    go_wp2_with fail
    clear c0 c1 c2 c3 c4 c5 c6 c7
    go_ret2
    exact ⟨rfl, U⟩
  ·
    have d1 : (f.k == 1) = false := by rw [e]; decide
    have d2 : (f.k == 2) = true := by rw [e]; decide
    have HV : ∀ w1, Calls Tryd.prog 42 #[.int .i64 f.m, .int .i64 f.b, u64 k] w1 (Mz m z w1) := fun w1 => by rw [hp]; exact rvalue6 w1 p k m f.b z hk ho h
    clear h hp e ho
    have U := Up.refl w
    go_enter Tryd.func34, Tryd.ntmps34
    go_wp2_with fail
    obtain ⟨V1, hV1⟩ : ∃ V1, w.alloc (.cells #[.int .i64 f.k, .int .i64 f.W, .int .i64 f.m, .int .i64 f.b, .int .u64 f.t, .int .u64 f.n, .int .u64 f.x] 58) = V1 := ⟨_, rfl⟩
    have uV1 : Up w V1 := by rw [← hV1]; first | exact (Up.refl _).alloc _ | exact ((Up.refl _).alloc _).alloc _ | exact (((Up.refl _).alloc _).alloc _).alloc _ | exact ((((Up.refl _).alloc _).alloc _).alloc _).alloc _ | ((repeat (refine Up.alloc ?_ _)); exact Up.refl _)
    have c : Bf V1 w.heap.size 58 f := by rw [← hV1]; exact Bf.mk_ w f 58
    rw [hV1]
    clear hV1
    replace U := U.trans uV1
    clear uV1
    obtain ⟨c0, c1, c2, c3, c4, c5, c6⟩ := Bf.cs c
    have c7 := Bf.lt c
    simp only [Nat.zero_add] at c0 c1 c2 c3 c4 c5 c6 c7
    go_wp2_with fail
    clear c0 c1 c2 c3 c4 c5 c6 c7
    refine (HV _).mono ?_
    rintro _ w2 ⟨rfl, h2⟩
    replace c := c.up h2
    replace U := U.trans h2
    clear h2
    obtain ⟨c0, c1, c2, c3, c4, c5, c6⟩ := Bf.cs c
    have c7 := Bf.lt c
    simp only [Nat.zero_add] at c0 c1 c2 c3 c4 c5 c6 c7
    go_wp2_with fail
    clear c0 c1 c2 c3 c4 c5 c6 c7
    go_ret2
    exact ⟨rfl, U⟩
  ·
    have d1 : (f.k == 1) = false := by rw [e]; decide
    have d2 : (f.k == 2) = false := by rw [e]; decide
    have d3 : (f.k == 3) = true := by rw [e]; decide
    have HV : ∀ w1, Calls Tryd.prog 48 #[u64 k, .int .i64 (-f.m)] w1 (Same (.tuple #[u64 m, .int .i64 z]) w1) := fun w1 => rodd_any w1 k m t (-f.m) hk h0 (by omega) (Lib.hid ht) ho z (Lib.hid hz)
    clear e ht hz ho h0
    have U := Up.refl w
    go_enter Tryd.func34, Tryd.ntmps34
    go_wp2_with fail
    obtain ⟨V1, hV1⟩ : ∃ V1, w.alloc (.cells #[.int .i64 f.k, .int .i64 f.W, .int .i64 f.m, .int .i64 f.b, .int .u64 f.t, .int .u64 f.n, .int .u64 f.x] 58) = V1 := ⟨_, rfl⟩
    have uV1 : Up w V1 := by rw [← hV1]; first | exact (Up.refl _).alloc _ | exact ((Up.refl _).alloc _).alloc _ | exact (((Up.refl _).alloc _).alloc _).alloc _ | exact ((((Up.refl _).alloc _).alloc _).alloc _).alloc _ | ((repeat (refine Up.alloc ?_ _)); exact Up.refl _)
    have c : Bf V1 w.heap.size 58 f := by rw [← hV1]; exact Bf.mk_ w f 58
    rw [hV1]
    clear hV1
    replace U := U.trans uV1
    clear uV1
    obtain ⟨c0, c1, c2, c3, c4, c5, c6⟩ := Bf.cs c
    have c7 := Bf.lt c
    simp only [Nat.zero_add] at c0 c1 c2 c3 c4 c5 c6 c7
    go_wp2_with fail
    clear c0 c1 c2 c3 c4 c5 c6 c7
    refine (HV _).mono ?_
    rintro _ _ ⟨rfl, rfl⟩
    obtain ⟨c0, c1, c2, c3, c4, c5, c6⟩ := Bf.cs c
    have c7 := Bf.lt c
    simp only [Nat.zero_add] at c0 c1 c2 c3 c4 c5 c6 c7
    go_wp2_with fail
    clear c0 c1 c2 c3 c4 c5 c6 c7
    go_ret2
    exact ⟨rfl, U⟩
  ·
    have d1 : (f.k == 1) = false := by rw [e]; decide
    have d2 : (f.k == 2) = false := by rw [e]; decide
    have d3 : (f.k == 3) = false := by rw [e]; decide
    clear e
    have U := Up.refl w
    go_enter Tryd.func34, Tryd.ntmps34
    go_wp2_with fail
    obtain ⟨V1, hV1⟩ : ∃ V1, w.alloc (.cells #[.int .i64 f.k, .int .i64 f.W, .int .i64 f.m, .int .i64 f.b, .int .u64 f.t, .int .u64 f.n, .int .u64 f.x] 58) = V1 := ⟨_, rfl⟩
    have uV1 : Up w V1 := by rw [← hV1]; first | exact (Up.refl _).alloc _ | exact ((Up.refl _).alloc _).alloc _ | exact (((Up.refl _).alloc _).alloc _).alloc _ | exact ((((Up.refl _).alloc _).alloc _).alloc _).alloc _ | ((repeat (refine Up.alloc ?_ _)); exact Up.refl _)
    have c : Bf V1 w.heap.size 58 f := by rw [← hV1]; exact Bf.mk_ w f 58
    rw [hV1]
    clear hV1
    replace U := U.trans uV1
    clear uV1
    obtain ⟨c0, c1, c2, c3, c4, c5, c6⟩ := Bf.cs c
    have c7 := Bf.lt c
    simp only [Nat.zero_add] at c0 c1 c2 c3 c4 c5 c6 c7
    go_wp2_with fail
    go_quiet (fail)
    go_wp2_with fail
    clear c0 c1 c2 c3 c4 c5 c6 c7
    go_ret2
    exact ⟨rfl, U.drewN _⟩
end Go.Proofs.YtjcbncfpcechnaaDoor
