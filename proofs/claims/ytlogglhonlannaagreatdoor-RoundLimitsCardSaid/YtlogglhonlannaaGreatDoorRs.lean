/-
  Package round: what stays a number; what is too large; Nearest.
-/
import Derived.Test.YtlogglhonlannaaGreatDoorRq
namespace Go.Proofs.YtlogglhonlannaaGreatDoor
open Go.RowKit
set_option linter.unusedSimpArgs false
set_option linter.unusedVariables false

namespace M
/-- What is too large stays a number. -/
def st (f : Fm) (mode : Int) : Prop := mode = 1 ∨ f.k = 1 ∨ (f.n = 0 ∧ f.x = 0)
/-- What a form has for it, else. -/
def tl (f : Fm) (neg : Bool) : Int := if f.n = 0 then f.x else if neg = true then f.n + half f else f.n
/-- Nearest. -/
def Nc (ii : Int) (neg : Bool) (X k : Nat) (o : Bool) (x : Int) : Prop :=
  ((ii < 1 ∨ 15 ≤ ii) ∧ k = 0 ∧ o = false ∧ x = 3) ∨
  ∃ i : Nat, ii = i ∧ 1 ≤ i ∧ i ≤ 14 ∧ (((tb i).k = 4 ∧ neg = true ∧ k = 0 ∧ o = false ∧ x = 5) ∨ (¬ ((tb i).k = 4 ∧ neg = true) ∧ ∃ q : Nat, mst (tb i) neg = q ∧ Nr (tb i) q X k o ∧ x = 0))
/-- The pattern of a number, of a form. -/
def Rv (f : Fm) (mode : Int) (neg : Bool) (X : Nat) (p : Int) : Prop :=
  (f.k = 4 ∧ (neg = true ∨ X = 0) ∧ p = f.x) ∨
  (¬ (f.k = 4 ∧ (neg = true ∨ X = 0)) ∧ ∃ q k o, mst f neg = (q : Nat) ∧ Nr f q X k o ∧ ((o = true ∧ ¬ st f mode ∧ p = tl f neg) ∨ (¬ (o = true ∧ ¬ st f mode) ∧ p = pat f neg k)))
/-- Round. -/
def Rc (ii mode : Int) (neg : Bool) (X : Nat) (p x : Int) : Prop :=
  ((ii < 1 ∨ 15 ≤ ii) ∧ p = 0 ∧ x = 3) ∨
  ∃ i : Nat, ii = i ∧ 1 ≤ i ∧ i ≤ 14 ∧ ((¬ (mode = 1 ∨ mode = 2) ∧ p = 0 ∧ x = 1) ∨ ((mode = 1 ∨ mode = 2) ∧ Rv (tb i) mode neg X p ∧ x = 0))
theorem mst_rng {f : Fm} (ok : Ok f) (ok2 : Ok2 f) (ok3 : Ok3 f) (neg : Bool) : ∃ q : Nat, mst f neg = q ∧ 3 ≤ q ∧ q < 18446744073709551616 ∧ (q : Int) ≤ tp f := by
  have hb := ok3.big
  have o1 := ok2.one
  have o3 := ok2.tri
  have o4 := ok2.four
  have o2 := ok.two
  have hm := ok.hm
  have ht := ok.t
  unfold mst tp
  refine ⟨(mst f neg).toNat, ?_, ?_, ?_, ?_⟩ <;> unfold mst <;> rcases ok.k with e | e | e | e <;> by_cases c : f.k = 3 ∧ neg = true <;> (try rw [if_pos c]) <;> (try rw [if_neg c]) <;> (try split) <;> omega
theorem nc_ex (ii : Int) (neg : Bool) (X : Nat) : ∃ k o x, Nc ii neg X k o x := by
  rcases in_or_out ii with h | ⟨i, h, a, b⟩
  · exact ⟨_, _, _, .inl ⟨h, rfl, rfl, rfl⟩⟩
  · by_cases c : (tb i).k = 4 ∧ neg = true
    · exact ⟨_, _, _, .inr ⟨i, h, a, b, .inl ⟨c.1, c.2, rfl, rfl, rfl⟩⟩⟩
    · obtain ⟨q, hq, q3, _, ht⟩ := mst_rng (ok i a b) (ok2 i a b) (ok3 i a b) neg
      obtain ⟨k, o, hn⟩ := nr_ex (ok i a b) (ok2 i a b) (ok3 i a b) (q := q) (X := X) ht (fun _ => by omega)
      exact ⟨k, o, _, .inr ⟨i, h, a, b, .inr ⟨c, q, hq, hn, rfl⟩⟩⟩
theorem rv_ex {f : Fm} (ok : Ok f) (ok2 : Ok2 f) (ok3 : Ok3 f) (mode : Int) (neg : Bool) (X : Nat) : ∃ p, Rv f mode neg X p := by
  classical
  by_cases c : f.k = 4 ∧ (neg = true ∨ X = 0)
  · exact ⟨_, .inl ⟨c.1, c.2, rfl⟩⟩
  · obtain ⟨q, hq, q3, _, ht⟩ := mst_rng ok ok2 ok3 neg
    obtain ⟨k, o, hn⟩ := nr_ex ok ok2 ok3 (q := q) (X := X) ht (fun _ => by omega)
    by_cases d : o = true ∧ ¬ st f mode
    · exact ⟨_, .inr ⟨c, q, k, o, hq, hn, .inl ⟨d.1, d.2, rfl⟩⟩⟩
    · exact ⟨_, .inr ⟨c, q, k, o, hq, hn, .inr ⟨d, rfl⟩⟩⟩
theorem rc_ex (ii mode : Int) (neg : Bool) (X : Nat) : ∃ p x, Rc ii mode neg X p x := by
  rcases in_or_out ii with h | ⟨i, h, a, b⟩
  · exact ⟨_, _, .inl ⟨h, rfl, rfl⟩⟩
  · by_cases c : mode = 1 ∨ mode = 2
    · obtain ⟨p, hp⟩ := rv_ex (ok i a b) (ok2 i a b) (ok3 i a b) mode neg X
      exact ⟨p, _, .inr ⟨i, h, a, b, .inr ⟨c, hp, rfl⟩⟩⟩
    · exact ⟨_, _, .inr ⟨i, h, a, b, .inl ⟨c, rfl, rfl⟩⟩⟩
theorem or_inf {f : Fm} (ok : Ok f) (ok3 : Ok3 f) (h : f.n ≠ 0) : Go.bits BinOp.or IntKind.u64 f.n (half f) = f.n + half f := by
  obtain ⟨n, hn, _, hh, hm⟩ := ok_pow ok
  have hn0 := ok.n
  have hlt := (ok3.most h).2.2
  obtain ⟨p, hp⟩ := Int.eq_ofNat_of_zero_le hn0.1
  obtain ⟨a, b⟩ := pow_le64 hn
  rw [hh] at hlt ⊢
  rw [hp] at hlt ⊢
  rw [bits_or_u64_nat p (2 ^ n) (by omega) (by omega), Nat.or_comm, or_top (by omega)]
  push_cast
  omega
end M
/-- What Nearest comes to. -/
def Nx (k : Nat) (o : Bool) (x : Int) (w : World) (e : Ending) (w' : World) : Prop := e = .returned (.tuple #[u64 k, .bool o, .int .i64 x]) ∧ Up w w'
set_option maxHeartbeats 1000000 in
set_option maxRecDepth 100000 in
theorem rnd_stays (w : World) (f : M.Fm) (mode : Int) (r : Bool) (hr : Hid (r = true ↔ M.st f mode)) : Calls Tryz.prog 22 #[fv f, .int .i64 mode] w (Bz r w) := by
  have e := hr.out
  unfold M.st at e
  clear hr
  rcases (show (f.n = 0 ∧ f.x = 0) ∨ (f.n = 0 ∧ f.x ≠ 0) ∨ f.n ≠ 0 by omega) with c | c | c
  ·
    have n1 : (f.n == 0) = true := by simpa using c.1
    have n2 : (f.x == 0) = true := by simpa using c.2
    rcases (show mode = 1 ∨ (mode ≠ 1 ∧ f.k = 1) ∨ (mode ≠ 1 ∧ f.k ≠ 1) by omega) with d | d | d
    ·
      have d1 : (mode == 1) = true := by simpa using d
      obtain rfl : r = true := by
        exact e.2 (by omega)
      clear e c d
      have U := Up.refl w
      go_enter Tryz.func22, Tryz.ntmps22
      go_wp2_with fail
      obtain ⟨V1, hV1⟩ : ∃ V1, w.alloc (.cells #[.int .i64 f.k, .int .i64 f.W, .int .i64 f.m, .int .i64 f.b, .int .u64 f.t, .int .u64 f.n, .int .u64 f.x] 54) = V1 := ⟨_, rfl⟩
      have C : Bf V1 w.heap.size 54 f := by rw [← hV1]; exact Bf.mk_ w f 54
      have ltC : w.heap.size ≤ w.heap.size := U.size
      have uV1 : Up w V1 := by rw [← hV1]; exact (Up.refl _).alloc _
      rw [hV1]
      clear hV1
      replace U := U.trans uV1
      clear uV1
      obtain ⟨C0, C1, C2, C3, C4, C5, C6⟩ := Bf.cs C
      have C7 := Bf.lt C
      simp only [Nat.zero_add] at C0 C1 C2 C3 C4 C5 C6 C7
      go_wp2_with fail
      clear C0 C1 C2 C3 C4 C5 C6 C7
      go_ret
      exact ⟨by first | rfl | simp, U⟩
    ·
      have d1 : (mode == 1) = false := by simpa using d.1
      have d2 : (f.k == 1) = true := by simpa using d.2
      obtain rfl : r = true := by
        exact e.2 (by omega)
      clear e c d
      have U := Up.refl w
      go_enter Tryz.func22, Tryz.ntmps22
      go_wp2_with fail
      obtain ⟨V1, hV1⟩ : ∃ V1, w.alloc (.cells #[.int .i64 f.k, .int .i64 f.W, .int .i64 f.m, .int .i64 f.b, .int .u64 f.t, .int .u64 f.n, .int .u64 f.x] 54) = V1 := ⟨_, rfl⟩
      have C : Bf V1 w.heap.size 54 f := by rw [← hV1]; exact Bf.mk_ w f 54
      have ltC : w.heap.size ≤ w.heap.size := U.size
      have uV1 : Up w V1 := by rw [← hV1]; exact (Up.refl _).alloc _
      rw [hV1]
      clear hV1
      replace U := U.trans uV1
      clear uV1
      obtain ⟨C0, C1, C2, C3, C4, C5, C6⟩ := Bf.cs C
      have C7 := Bf.lt C
      simp only [Nat.zero_add] at C0 C1 C2 C3 C4 C5 C6 C7
      go_wp2_with fail
      clear C0 C1 C2 C3 C4 C5 C6 C7
      go_ret
      exact ⟨by first | rfl | simp, U⟩
    ·
      have d1 : (mode == 1) = false := by simpa using d.1
      have d2 : (f.k == 1) = false := by simpa using d.2
      obtain rfl : r = true := by
        exact e.2 (by omega)
      clear e c d
      have U := Up.refl w
      go_enter Tryz.func22, Tryz.ntmps22
      go_wp2_with fail
      obtain ⟨V1, hV1⟩ : ∃ V1, w.alloc (.cells #[.int .i64 f.k, .int .i64 f.W, .int .i64 f.m, .int .i64 f.b, .int .u64 f.t, .int .u64 f.n, .int .u64 f.x] 54) = V1 := ⟨_, rfl⟩
      have C : Bf V1 w.heap.size 54 f := by rw [← hV1]; exact Bf.mk_ w f 54
      have ltC : w.heap.size ≤ w.heap.size := U.size
      have uV1 : Up w V1 := by rw [← hV1]; exact (Up.refl _).alloc _
      rw [hV1]
      clear hV1
      replace U := U.trans uV1
      clear uV1
      obtain ⟨C0, C1, C2, C3, C4, C5, C6⟩ := Bf.cs C
      have C7 := Bf.lt C
      simp only [Nat.zero_add] at C0 C1 C2 C3 C4 C5 C6 C7
      go_wp2_with fail
      clear C0 C1 C2 C3 C4 C5 C6 C7
      go_ret
      exact ⟨by first | rfl | simp, U⟩
  ·
    have n1 : (f.n == 0) = true := by simpa using c.1
    have n2 : (f.x == 0) = false := by simpa using c.2
    rcases (show mode = 1 ∨ (mode ≠ 1 ∧ f.k = 1) ∨ (mode ≠ 1 ∧ f.k ≠ 1) by omega) with d | d | d
    ·
      have d1 : (mode == 1) = true := by simpa using d
      obtain rfl : r = true := by
        exact e.2 (by omega)
      clear e c d
      have U := Up.refl w
      go_enter Tryz.func22, Tryz.ntmps22
      go_wp2_with fail
      obtain ⟨V1, hV1⟩ : ∃ V1, w.alloc (.cells #[.int .i64 f.k, .int .i64 f.W, .int .i64 f.m, .int .i64 f.b, .int .u64 f.t, .int .u64 f.n, .int .u64 f.x] 54) = V1 := ⟨_, rfl⟩
      have C : Bf V1 w.heap.size 54 f := by rw [← hV1]; exact Bf.mk_ w f 54
      have ltC : w.heap.size ≤ w.heap.size := U.size
      have uV1 : Up w V1 := by rw [← hV1]; exact (Up.refl _).alloc _
      rw [hV1]
      clear hV1
      replace U := U.trans uV1
      clear uV1
      obtain ⟨C0, C1, C2, C3, C4, C5, C6⟩ := Bf.cs C
      have C7 := Bf.lt C
      simp only [Nat.zero_add] at C0 C1 C2 C3 C4 C5 C6 C7
      go_wp2_with fail
      clear C0 C1 C2 C3 C4 C5 C6 C7
      go_ret
      exact ⟨by first | rfl | simp, U⟩
    ·
      have d1 : (mode == 1) = false := by simpa using d.1
      have d2 : (f.k == 1) = true := by simpa using d.2
      obtain rfl : r = true := by
        exact e.2 (by omega)
      clear e c d
      have U := Up.refl w
      go_enter Tryz.func22, Tryz.ntmps22
      go_wp2_with fail
      obtain ⟨V1, hV1⟩ : ∃ V1, w.alloc (.cells #[.int .i64 f.k, .int .i64 f.W, .int .i64 f.m, .int .i64 f.b, .int .u64 f.t, .int .u64 f.n, .int .u64 f.x] 54) = V1 := ⟨_, rfl⟩
      have C : Bf V1 w.heap.size 54 f := by rw [← hV1]; exact Bf.mk_ w f 54
      have ltC : w.heap.size ≤ w.heap.size := U.size
      have uV1 : Up w V1 := by rw [← hV1]; exact (Up.refl _).alloc _
      rw [hV1]
      clear hV1
      replace U := U.trans uV1
      clear uV1
      obtain ⟨C0, C1, C2, C3, C4, C5, C6⟩ := Bf.cs C
      have C7 := Bf.lt C
      simp only [Nat.zero_add] at C0 C1 C2 C3 C4 C5 C6 C7
      go_wp2_with fail
      clear C0 C1 C2 C3 C4 C5 C6 C7
      go_ret
      exact ⟨by first | rfl | simp, U⟩
    ·
      have d1 : (mode == 1) = false := by simpa using d.1
      have d2 : (f.k == 1) = false := by simpa using d.2
      obtain rfl : r = false := by
        cases r
        · rfl
        · have := e.1 rfl; omega
      clear e c d
      have U := Up.refl w
      go_enter Tryz.func22, Tryz.ntmps22
      go_wp2_with fail
      obtain ⟨V1, hV1⟩ : ∃ V1, w.alloc (.cells #[.int .i64 f.k, .int .i64 f.W, .int .i64 f.m, .int .i64 f.b, .int .u64 f.t, .int .u64 f.n, .int .u64 f.x] 54) = V1 := ⟨_, rfl⟩
      have C : Bf V1 w.heap.size 54 f := by rw [← hV1]; exact Bf.mk_ w f 54
      have ltC : w.heap.size ≤ w.heap.size := U.size
      have uV1 : Up w V1 := by rw [← hV1]; exact (Up.refl _).alloc _
      rw [hV1]
      clear hV1
      replace U := U.trans uV1
      clear uV1
      obtain ⟨C0, C1, C2, C3, C4, C5, C6⟩ := Bf.cs C
      have C7 := Bf.lt C
      simp only [Nat.zero_add] at C0 C1 C2 C3 C4 C5 C6 C7
      go_wp2_with fail
      clear C0 C1 C2 C3 C4 C5 C6 C7
      go_ret
      exact ⟨by first | rfl | simp, U⟩
  ·
    have n1 : (f.n == 0) = false := by simpa using c
    rcases (show mode = 1 ∨ (mode ≠ 1 ∧ f.k = 1) ∨ (mode ≠ 1 ∧ f.k ≠ 1) by omega) with d | d | d
    ·
      have d1 : (mode == 1) = true := by simpa using d
      obtain rfl : r = true := by
        exact e.2 (by omega)
      clear e c d
      have U := Up.refl w
      go_enter Tryz.func22, Tryz.ntmps22
      go_wp2_with fail
      obtain ⟨V1, hV1⟩ : ∃ V1, w.alloc (.cells #[.int .i64 f.k, .int .i64 f.W, .int .i64 f.m, .int .i64 f.b, .int .u64 f.t, .int .u64 f.n, .int .u64 f.x] 54) = V1 := ⟨_, rfl⟩
      have C : Bf V1 w.heap.size 54 f := by rw [← hV1]; exact Bf.mk_ w f 54
      have ltC : w.heap.size ≤ w.heap.size := U.size
      have uV1 : Up w V1 := by rw [← hV1]; exact (Up.refl _).alloc _
      rw [hV1]
      clear hV1
      replace U := U.trans uV1
      clear uV1
      obtain ⟨C0, C1, C2, C3, C4, C5, C6⟩ := Bf.cs C
      have C7 := Bf.lt C
      simp only [Nat.zero_add] at C0 C1 C2 C3 C4 C5 C6 C7
      go_wp2_with fail
      clear C0 C1 C2 C3 C4 C5 C6 C7
      go_ret
      exact ⟨by first | rfl | simp, U⟩
    ·
      have d1 : (mode == 1) = false := by simpa using d.1
      have d2 : (f.k == 1) = true := by simpa using d.2
      obtain rfl : r = true := by
        exact e.2 (by omega)
      clear e c d
      have U := Up.refl w
      go_enter Tryz.func22, Tryz.ntmps22
      go_wp2_with fail
      obtain ⟨V1, hV1⟩ : ∃ V1, w.alloc (.cells #[.int .i64 f.k, .int .i64 f.W, .int .i64 f.m, .int .i64 f.b, .int .u64 f.t, .int .u64 f.n, .int .u64 f.x] 54) = V1 := ⟨_, rfl⟩
      have C : Bf V1 w.heap.size 54 f := by rw [← hV1]; exact Bf.mk_ w f 54
      have ltC : w.heap.size ≤ w.heap.size := U.size
      have uV1 : Up w V1 := by rw [← hV1]; exact (Up.refl _).alloc _
      rw [hV1]
      clear hV1
      replace U := U.trans uV1
      clear uV1
      obtain ⟨C0, C1, C2, C3, C4, C5, C6⟩ := Bf.cs C
      have C7 := Bf.lt C
      simp only [Nat.zero_add] at C0 C1 C2 C3 C4 C5 C6 C7
      go_wp2_with fail
      clear C0 C1 C2 C3 C4 C5 C6 C7
      go_ret
      exact ⟨by first | rfl | simp, U⟩
    ·
      have d1 : (mode == 1) = false := by simpa using d.1
      have d2 : (f.k == 1) = false := by simpa using d.2
      obtain rfl : r = false := by
        cases r
        · rfl
        · have := e.1 rfl; omega
      clear e c d
      have U := Up.refl w
      go_enter Tryz.func22, Tryz.ntmps22
      go_wp2_with fail
      obtain ⟨V1, hV1⟩ : ∃ V1, w.alloc (.cells #[.int .i64 f.k, .int .i64 f.W, .int .i64 f.m, .int .i64 f.b, .int .u64 f.t, .int .u64 f.n, .int .u64 f.x] 54) = V1 := ⟨_, rfl⟩
      have C : Bf V1 w.heap.size 54 f := by rw [← hV1]; exact Bf.mk_ w f 54
      have ltC : w.heap.size ≤ w.heap.size := U.size
      have uV1 : Up w V1 := by rw [← hV1]; exact (Up.refl _).alloc _
      rw [hV1]
      clear hV1
      replace U := U.trans uV1
      clear uV1
      obtain ⟨C0, C1, C2, C3, C4, C5, C6⟩ := Bf.cs C
      have C7 := Bf.lt C
      simp only [Nat.zero_add] at C0 C1 C2 C3 C4 C5 C6 C7
      go_wp2_with fail
      clear C0 C1 C2 C3 C4 C5 C6 C7
      go_ret
      exact ⟨by first | rfl | simp, U⟩
set_option maxHeartbeats 1000000 in
set_option maxRecDepth 100000 in
theorem rnd_large (w : World) (f : M.Fm) (ok : M.Ok f) (ok3 : M.Ok3 f) (neg : Bool) (p : Int) (hp : Hid (M.tl f neg = p)) : Calls Tryz.prog 23 #[fv f, .bool neg] w (Wz p w) := by
  have e := hp.out
  unfold M.tl at e
  clear hp
  by_cases c : f.n = 0
  ·
    rw [if_pos c] at e
    subst e
    have d1 : (f.n == 0) = true := by simpa using c
    clear c ok ok3
    have U := Up.refl w
    go_enter Tryz.func23, Tryz.ntmps23
    go_wp2_with fail
    obtain ⟨V1, hV1⟩ : ∃ V1, w.alloc (.cells #[.int .i64 f.k, .int .i64 f.W, .int .i64 f.m, .int .i64 f.b, .int .u64 f.t, .int .u64 f.n, .int .u64 f.x] 54) = V1 := ⟨_, rfl⟩
    have C : Bf V1 w.heap.size 54 f := by rw [← hV1]; exact Bf.mk_ w f 54
    have ltC : w.heap.size ≤ w.heap.size := U.size
    have uV1 : Up w V1 := by rw [← hV1]; exact (Up.refl _).alloc _
    rw [hV1]
    clear hV1
    replace U := U.trans uV1
    clear uV1
    obtain ⟨C0, C1, C2, C3, C4, C5, C6⟩ := Bf.cs C
    have C7 := Bf.lt C
    simp only [Nat.zero_add] at C0 C1 C2 C3 C4 C5 C6 C7
    go_wp2_with fail
    clear C0 C1 C2 C3 C4 C5 C6 C7
    go_ret
    exact ⟨rfl, U⟩
  have d1 : (f.n == 0) = false := by simpa using c
  rw [if_neg c] at e
  cases neg
  ·
    rw [if_neg (by simp)] at e
    subst e
    clear c ok ok3
    have U := Up.refl w
    go_enter Tryz.func23, Tryz.ntmps23
    go_wp2_with fail
    obtain ⟨V1, hV1⟩ : ∃ V1, w.alloc (.cells #[.int .i64 f.k, .int .i64 f.W, .int .i64 f.m, .int .i64 f.b, .int .u64 f.t, .int .u64 f.n, .int .u64 f.x] 54) = V1 := ⟨_, rfl⟩
    have C : Bf V1 w.heap.size 54 f := by rw [← hV1]; exact Bf.mk_ w f 54
    have ltC : w.heap.size ≤ w.heap.size := U.size
    have uV1 : Up w V1 := by rw [← hV1]; exact (Up.refl _).alloc _
    rw [hV1]
    clear hV1
    replace U := U.trans uV1
    clear uV1
    obtain ⟨C0, C1, C2, C3, C4, C5, C6⟩ := Bf.cs C
    have C7 := Bf.lt C
    simp only [Nat.zero_add] at C0 C1 C2 C3 C4 C5 C6 C7
    go_wp2_with fail
    clear C0 C1 C2 C3 C4 C5 C6 C7
    go_ret
    exact ⟨rfl, U⟩
  ·
    rw [if_pos rfl, ← M.or_inf ok ok3 c] at e
    have hk : f.k ≠ 4 := by have := (ok3.most c).1; omega
    have hs := ((M.sgn_ok ok).2 hk).1
    obtain ⟨S, hS⟩ : ∃ z, M.sgn f = z := ⟨_, rfl⟩
    rw [← hs, hS] at e
    have CS := Lib.hid (fun W => sign_any W f ok S (Lib.hid hS))
    clear c ok ok3 hk hs hS
    have U := Up.refl w
    go_enter Tryz.func23, Tryz.ntmps23
    go_wp2_with fail
    obtain ⟨V1, hV1⟩ : ∃ V1, w.alloc (.cells #[.int .i64 f.k, .int .i64 f.W, .int .i64 f.m, .int .i64 f.b, .int .u64 f.t, .int .u64 f.n, .int .u64 f.x] 54) = V1 := ⟨_, rfl⟩
    have C : Bf V1 w.heap.size 54 f := by rw [← hV1]; exact Bf.mk_ w f 54
    have ltC : w.heap.size ≤ w.heap.size := U.size
    have uV1 : Up w V1 := by rw [← hV1]; exact (Up.refl _).alloc _
    rw [hV1]
    clear hV1
    replace U := U.trans uV1
    clear uV1
    obtain ⟨C0, C1, C2, C3, C4, C5, C6⟩ := Bf.cs C
    have C7 := Bf.lt C
    simp only [Nat.zero_add] at C0 C1 C2 C3 C4 C5 C6 C7
    go_upto_region 4 with fail
    go_region_held3 (fun w' => w'.cell? ⟨w.heap.size, 0, none⟩ = some (.int .i64 f.k) ∧ w'.cell? ⟨w.heap.size, 1, none⟩ = some (.int .i64 f.W) ∧ w'.cell? ⟨w.heap.size, 2, none⟩ = some (.int .i64 f.m) ∧ w'.cell? ⟨w.heap.size, 3, none⟩ = some (.int .i64 f.b) ∧ w'.cell? ⟨w.heap.size, 4, none⟩ = some (.int .u64 f.t) ∧ w'.cell? ⟨w.heap.size, 5, none⟩ = some (.int .u64 f.n) ∧ w'.cell? ⟨w.heap.size, 6, none⟩ = some (.int .u64 f.x)) (go_keep) ((go_at_call 47; (with_reducible refine (CS.out _).mono ?_); rintro _ w30 ⟨rfl, h30⟩; have uw30 : Up V1 w30 := Up.trans (by first | with_reducible assumption | exact (Up.refl V1).drewN 1) h30; have cc0 := cell_up_ uw30 C0; have cc1 := cell_up_ uw30 C1; have cc2 := cell_up_ uw30 C2; have cc3 := cell_up_ uw30 C3; have cc4 := cell_up_ uw30 C4; have cc5 := cell_up_ uw30 C5; have cc6 := cell_up_ uw30 C6))
    clear C0 cc0 C1 cc1 C2 cc2 C3 cc3 C4 cc4 C5 cc5 C6 cc6
    go_wp2_with fail
    go_ret
    exact ⟨by first | rfl | exact ret_int e, U.trans uw30⟩
set_option maxHeartbeats 1000000 in
set_option maxRecDepth 100000 in
theorem rnd_nearest (w : World) (TT : Hid (Tz w)) (TF : Hid (TabF w)) (ii : Int) (sg : Bool) (lo s : Nat) (neg : Bool) (v : Value) (t g : Int) (a : Nat) (h : Nt w lo s v a) (hs : s ≤ 1000000) (bt : -5000 ≤ t ∧ t ≤ 5000) (bg : -5000 ≤ g ∧ g ≤ 5000) (h128 : a < 18446744073709551616 ^ 128) (k : Nat) (o : Bool) (x : Int) (hn : M.Nc ii sg (M.sz a t g) k o x) : Calls Tryz.prog 8 #[.int .i64 ii, .bool sg, xv neg v t g] w (Nx k o x w) := by
  have CR := Lib.hid (fun W (U : Up w W) => right_nt W lo s neg v a t g (h.up U) true (decide_eq_true ⟨h128, by unfold M.pw; omega, by unfold M.pw; omega⟩))
  clear h128
  rcases hn with ⟨e, rfl, rfl, rfl⟩ | ⟨i, rfl, i1, i2, ⟨h4, hs4, rfl, rfl, rfl⟩ | ⟨h4, q, hq, hr, rfl⟩⟩
  ·
    have CM := Lib.hid (fun W (F : TabF W) => vmost_any W (Lib.hid F) ii sg 0 3 (.inl ⟨e, rfl, rfl⟩))
    clear h hs bt bg e
    have U := Up.refl w
    go_enter Tryz.func8, Tryz.ntmps8
    go_wp2_with fail
    obtain ⟨V1, hV1⟩ : ∃ V1, w.alloc (.cells #[.bool neg, v, .int .i64 t, .int .i64 g] 25) = V1 := ⟨_, rfl⟩
    have B : Ob V1 w.heap.size 25 #[.bool neg, v, .int .i64 t, .int .i64 g] := by rw [← hV1]; exact Ob.mk_ _ _ _
    have uV1 : Up w V1 := by rw [← hV1]; exact (Up.refl _).alloc _
    have ltB : w.heap.size ≤ w.heap.size := U.size
    rw [hV1]
    clear hV1
    replace U := U.trans uV1
    clear uV1
    have B0 := B.get 0
    have B1 := B.get 1
    have B2 := B.get 2
    have B3 := B.get 3
    have Bf0 := B.fr 0
    have Bf1 := B.fr 1
    have Bf2 := B.fr 2
    have Bf3 := B.fr 3
    have Bl := B.lt
    simp only [List.getElem?_toArray, List.getElem?_cons_zero, List.getElem?_cons_succ] at B0 B1 B2 B3
    go_wp2_with fail
    clear B0 Bf0 B1 Bf1 B2 Bf2 B3 Bf3 Bl
    refine (CR.out _ U).mono ?_
    rintro _ w2 ⟨rfl, h2⟩
    replace U := U.trans h2
    replace B := B.up h2
    clear h2
    have B0 := B.get 0
    have B1 := B.get 1
    have B2 := B.get 2
    have B3 := B.get 3
    have Bf0 := B.fr 0
    have Bf1 := B.fr 1
    have Bf2 := B.fr 2
    have Bf3 := B.fr 3
    have Bl := B.lt
    simp only [List.getElem?_toArray, List.getElem?_cons_zero, List.getElem?_cons_succ] at B0 B1 B2 B3
    go_wp2_with fail
    clear B0 Bf0 B1 Bf1 B2 Bf2 B3 Bf3 Bl
    refine (CM.out _ (TF.out.up U)).mono ?_
    rintro _ w3 ⟨rfl, h3⟩
    replace U := U.trans h3
    replace B := B.up h3
    clear h3
    have B0 := B.get 0
    have B1 := B.get 1
    have B2 := B.get 2
    have B3 := B.get 3
    have Bf0 := B.fr 0
    have Bf1 := B.fr 1
    have Bf2 := B.fr 2
    have Bf3 := B.fr 3
    have Bl := B.lt
    simp only [List.getElem?_toArray, List.getElem?_cons_zero, List.getElem?_cons_succ] at B0 B1 B2 B3
    go_wp2_with fail
    clear B0 Bf0 B1 Bf1 B2 Bf2 B3 Bf3 Bl
    go_ret3
    exact ⟨rfl, U⟩
  ·
    have CM := Lib.hid (fun W (F : TabF W) => vmost_any W (Lib.hid F) (i : Int) sg 0 5 (.inr ⟨i, rfl, i1, i2, .inl ⟨h4, hs4, rfl, rfl⟩⟩))
    clear h hs bt bg h4 hs4
    have U := Up.refl w
    go_enter Tryz.func8, Tryz.ntmps8
    go_wp2_with fail
    obtain ⟨V1, hV1⟩ : ∃ V1, w.alloc (.cells #[.bool neg, v, .int .i64 t, .int .i64 g] 25) = V1 := ⟨_, rfl⟩
    have B : Ob V1 w.heap.size 25 #[.bool neg, v, .int .i64 t, .int .i64 g] := by rw [← hV1]; exact Ob.mk_ _ _ _
    have uV1 : Up w V1 := by rw [← hV1]; exact (Up.refl _).alloc _
    have ltB : w.heap.size ≤ w.heap.size := U.size
    rw [hV1]
    clear hV1
    replace U := U.trans uV1
    clear uV1
    have B0 := B.get 0
    have B1 := B.get 1
    have B2 := B.get 2
    have B3 := B.get 3
    have Bf0 := B.fr 0
    have Bf1 := B.fr 1
    have Bf2 := B.fr 2
    have Bf3 := B.fr 3
    have Bl := B.lt
    simp only [List.getElem?_toArray, List.getElem?_cons_zero, List.getElem?_cons_succ] at B0 B1 B2 B3
    go_wp2_with fail
    clear B0 Bf0 B1 Bf1 B2 Bf2 B3 Bf3 Bl
    refine (CR.out _ U).mono ?_
    rintro _ w2 ⟨rfl, h2⟩
    replace U := U.trans h2
    replace B := B.up h2
    clear h2
    have B0 := B.get 0
    have B1 := B.get 1
    have B2 := B.get 2
    have B3 := B.get 3
    have Bf0 := B.fr 0
    have Bf1 := B.fr 1
    have Bf2 := B.fr 2
    have Bf3 := B.fr 3
    have Bl := B.lt
    simp only [List.getElem?_toArray, List.getElem?_cons_zero, List.getElem?_cons_succ] at B0 B1 B2 B3
    go_wp2_with fail
    clear B0 Bf0 B1 Bf1 B2 Bf2 B3 Bf3 Bl
    refine (CM.out _ (TF.out.up U)).mono ?_
    rintro _ w3 ⟨rfl, h3⟩
    replace U := U.trans h3
    replace B := B.up h3
    clear h3
    have B0 := B.get 0
    have B1 := B.get 1
    have B2 := B.get 2
    have B3 := B.get 3
    have Bf0 := B.fr 0
    have Bf1 := B.fr 1
    have Bf2 := B.fr 2
    have Bf3 := B.fr 3
    have Bl := B.lt
    simp only [List.getElem?_toArray, List.getElem?_cons_zero, List.getElem?_cons_succ] at B0 B1 B2 B3
    go_wp2_with fail
    clear B0 Bf0 B1 Bf1 B2 Bf2 B3 Bf3 Bl
    go_ret3
    exact ⟨rfl, U⟩
  ·
    have ok := M.ok i i1 i2
    have ok2 := M.ok2 i i1 i2
    have ok3 := M.ok3 i i1 i2
    have CM := Lib.hid (fun W (F : TabF W) => vmost_any W (Lib.hid F) (i : Int) sg (q : Int) 0 (.inr ⟨i, rfl, i1, i2, .inr ⟨h4, hq.symm, rfl⟩⟩))
    obtain ⟨f, hf⟩ : ∃ f, M.tb i = f := ⟨_, rfl⟩
    rw [hf] at ok ok2 ok3 hq hr h4
    obtain ⟨q', hq', q3, qb, qt⟩ := M.mst_rng ok ok2 ok3 sg
    obtain rfl : q = q' := by omega
    clear hq hq' h4
    by_cases a0 : a = 0
    ·
      subst a0
      have hz : M.sz 0 t g = 0 := M.sz_zero.2 rfl
      rw [hz] at hr
      obtain ⟨rfl, rfl⟩ := M.nr_uniq ok ok2 ok3 qt hr M.nr_zero
      have CZ := Lib.hid (fun W (U : Up w W) => isnought_any W lo s neg v t g 0 (h.up U) true (decide_eq_true rfl))
      clear h hs bt bg ok ok2 ok3 hf hz hr
      have U := Up.refl w
      go_enter Tryz.func8, Tryz.ntmps8
      go_wp2_with fail
      obtain ⟨V1, hV1⟩ : ∃ V1, w.alloc (.cells #[.bool neg, v, .int .i64 t, .int .i64 g] 25) = V1 := ⟨_, rfl⟩
      have B : Ob V1 w.heap.size 25 #[.bool neg, v, .int .i64 t, .int .i64 g] := by rw [← hV1]; exact Ob.mk_ _ _ _
      have uV1 : Up w V1 := by rw [← hV1]; exact (Up.refl _).alloc _
      have ltB : w.heap.size ≤ w.heap.size := U.size
      rw [hV1]
      clear hV1
      replace U := U.trans uV1
      clear uV1
      have B0 := B.get 0
      have B1 := B.get 1
      have B2 := B.get 2
      have B3 := B.get 3
      have Bf0 := B.fr 0
      have Bf1 := B.fr 1
      have Bf2 := B.fr 2
      have Bf3 := B.fr 3
      have Bl := B.lt
      simp only [List.getElem?_toArray, List.getElem?_cons_zero, List.getElem?_cons_succ] at B0 B1 B2 B3
      go_wp2_with fail
      clear B0 Bf0 B1 Bf1 B2 Bf2 B3 Bf3 Bl
      refine (CR.out _ U).mono ?_
      rintro _ w2 ⟨rfl, h2⟩
      replace U := U.trans h2
      replace B := B.up h2
      clear h2
      have B0 := B.get 0
      have B1 := B.get 1
      have B2 := B.get 2
      have B3 := B.get 3
      have Bf0 := B.fr 0
      have Bf1 := B.fr 1
      have Bf2 := B.fr 2
      have Bf3 := B.fr 3
      have Bl := B.lt
      simp only [List.getElem?_toArray, List.getElem?_cons_zero, List.getElem?_cons_succ] at B0 B1 B2 B3
      go_wp2_with fail
      clear B0 Bf0 B1 Bf1 B2 Bf2 B3 Bf3 Bl
      refine (CM.out _ (TF.out.up U)).mono ?_
      rintro _ w3 ⟨rfl, h3⟩
      replace U := U.trans h3
      replace B := B.up h3
      clear h3
      have B0 := B.get 0
      have B1 := B.get 1
      have B2 := B.get 2
      have B3 := B.get 3
      have Bf0 := B.fr 0
      have Bf1 := B.fr 1
      have Bf2 := B.fr 2
      have Bf3 := B.fr 3
      have Bl := B.lt
      simp only [List.getElem?_toArray, List.getElem?_cons_zero, List.getElem?_cons_succ] at B0 B1 B2 B3
      go_wp2_with fail
      clear B0 Bf0 B1 Bf1 B2 Bf2 B3 Bf3 Bl
      refine (CZ.out _ U).mono ?_
      rintro _ w4 ⟨rfl, h4⟩
      replace U := U.trans h4
      replace B := B.up h4
      clear h4
      have B0 := B.get 0
      have B1 := B.get 1
      have B2 := B.get 2
      have B3 := B.get 3
      have Bf0 := B.fr 0
      have Bf1 := B.fr 1
      have Bf2 := B.fr 2
      have Bf3 := B.fr 3
      have Bl := B.lt
      simp only [List.getElem?_toArray, List.getElem?_cons_zero, List.getElem?_cons_succ] at B0 B1 B2 B3
      go_wp2_with fail
      clear B0 Bf0 B1 Bf1 B2 Bf2 B3 Bf3 Bl
      go_ret3
      exact ⟨rfl, U⟩
    ·
      have CZ := Lib.hid (fun W (U : Up w W) => isnought_any W lo s neg v t g a (h.up U) false (decide_eq_false a0))
      have CY := Lib.hid (fun W (T : Tz W) (F : TabF W) (U : Up w W) (r : Bool) (hr : Hid (r = true ↔ M.Byd f (M.sz a t g) q)) => rnd_beyond W (Lib.hid T) (Lib.hid F) i f (Lib.hid hf) i1 i2 q qb qt lo s neg v t g a (h.up U) hs bt bg r hr)
      rcases hr with ⟨rfl, rfl, hb⟩ | ⟨rfl, hr⟩
      ·
        have CY1 := Lib.hid (fun W T F (U : Up w W) => CY.out W T F U true ⟨fun _ => hb, fun _ => rfl⟩)
        clear h hs bt bg ok ok2 ok3 hf hb a0 CY
        have U := Up.refl w
        go_enter Tryz.func8, Tryz.ntmps8
        go_wp2_with fail
        obtain ⟨V1, hV1⟩ : ∃ V1, w.alloc (.cells #[.bool neg, v, .int .i64 t, .int .i64 g] 25) = V1 := ⟨_, rfl⟩
        have B : Ob V1 w.heap.size 25 #[.bool neg, v, .int .i64 t, .int .i64 g] := by rw [← hV1]; exact Ob.mk_ _ _ _
        have uV1 : Up w V1 := by rw [← hV1]; exact (Up.refl _).alloc _
        have ltB : w.heap.size ≤ w.heap.size := U.size
        rw [hV1]
        clear hV1
        replace U := U.trans uV1
        clear uV1
        have B0 := B.get 0
        have B1 := B.get 1
        have B2 := B.get 2
        have B3 := B.get 3
        have Bf0 := B.fr 0
        have Bf1 := B.fr 1
        have Bf2 := B.fr 2
        have Bf3 := B.fr 3
        have Bl := B.lt
        simp only [List.getElem?_toArray, List.getElem?_cons_zero, List.getElem?_cons_succ] at B0 B1 B2 B3
        go_wp2_with fail
        clear B0 Bf0 B1 Bf1 B2 Bf2 B3 Bf3 Bl
        refine (CR.out _ U).mono ?_
        rintro _ w2 ⟨rfl, h2⟩
        replace U := U.trans h2
        replace B := B.up h2
        clear h2
        have B0 := B.get 0
        have B1 := B.get 1
        have B2 := B.get 2
        have B3 := B.get 3
        have Bf0 := B.fr 0
        have Bf1 := B.fr 1
        have Bf2 := B.fr 2
        have Bf3 := B.fr 3
        have Bl := B.lt
        simp only [List.getElem?_toArray, List.getElem?_cons_zero, List.getElem?_cons_succ] at B0 B1 B2 B3
        go_wp2_with fail
        clear B0 Bf0 B1 Bf1 B2 Bf2 B3 Bf3 Bl
        refine (CM.out _ (TF.out.up U)).mono ?_
        rintro _ w3 ⟨rfl, h3⟩
        replace U := U.trans h3
        replace B := B.up h3
        clear h3
        have B0 := B.get 0
        have B1 := B.get 1
        have B2 := B.get 2
        have B3 := B.get 3
        have Bf0 := B.fr 0
        have Bf1 := B.fr 1
        have Bf2 := B.fr 2
        have Bf3 := B.fr 3
        have Bl := B.lt
        simp only [List.getElem?_toArray, List.getElem?_cons_zero, List.getElem?_cons_succ] at B0 B1 B2 B3
        go_wp2_with fail
        clear B0 Bf0 B1 Bf1 B2 Bf2 B3 Bf3 Bl
        refine (CZ.out _ U).mono ?_
        rintro _ w4 ⟨rfl, h4⟩
        replace U := U.trans h4
        replace B := B.up h4
        clear h4
        have B0 := B.get 0
        have B1 := B.get 1
        have B2 := B.get 2
        have B3 := B.get 3
        have Bf0 := B.fr 0
        have Bf1 := B.fr 1
        have Bf2 := B.fr 2
        have Bf3 := B.fr 3
        have Bl := B.lt
        simp only [List.getElem?_toArray, List.getElem?_cons_zero, List.getElem?_cons_succ] at B0 B1 B2 B3
        go_wp2_with fail
        clear B0 Bf0 B1 Bf1 B2 Bf2 B3 Bf3 Bl
        refine (CY1.out _ (TT.out.up U) (TF.out.up U) U).mono ?_
        rintro _ w5 ⟨rfl, h5⟩
        replace U := U.trans h5
        replace B := B.up h5
        clear h5
        have B0 := B.get 0
        have B1 := B.get 1
        have B2 := B.get 2
        have B3 := B.get 3
        have Bf0 := B.fr 0
        have Bf1 := B.fr 1
        have Bf2 := B.fr 2
        have Bf3 := B.fr 3
        have Bl := B.lt
        simp only [List.getElem?_toArray, List.getElem?_cons_zero, List.getElem?_cons_succ] at B0 B1 B2 B3
        go_wp2_with fail
        clear B0 Bf0 B1 Bf1 B2 Bf2 B3 Bf3 Bl
        go_ret3
        exact ⟨rfl, U⟩
      ·
        have nb : ¬ M.Byd f (M.sz a t g) q := fun hb => hr.2.1 (M.byd_down ok ok2 ok3 qt hr.1 hb)
        have CY1 := Lib.hid (fun W T F (U : Up w W) => CY.out W T F U false ⟨fun e => (by cases e), fun e => absurd e nb⟩)
        have CS := Lib.hid (fun W (T : Tz W) (F : TabF W) (U : Up w W) => rnd_search W (Lib.hid T) (Lib.hid F) i f (Lib.hid hf) i1 i2 lo s neg v t g a (h.up U) hs bt bg a0 q qb qt k (.inr ⟨rfl, hr⟩))
        clear h hs bt bg ok ok2 ok3 hf hr nb a0 CY
        have U := Up.refl w
        go_enter Tryz.func8, Tryz.ntmps8
        go_wp2_with fail
        obtain ⟨V1, hV1⟩ : ∃ V1, w.alloc (.cells #[.bool neg, v, .int .i64 t, .int .i64 g] 25) = V1 := ⟨_, rfl⟩
        have B : Ob V1 w.heap.size 25 #[.bool neg, v, .int .i64 t, .int .i64 g] := by rw [← hV1]; exact Ob.mk_ _ _ _
        have uV1 : Up w V1 := by rw [← hV1]; exact (Up.refl _).alloc _
        have ltB : w.heap.size ≤ w.heap.size := U.size
        rw [hV1]
        clear hV1
        replace U := U.trans uV1
        clear uV1
        have B0 := B.get 0
        have B1 := B.get 1
        have B2 := B.get 2
        have B3 := B.get 3
        have Bf0 := B.fr 0
        have Bf1 := B.fr 1
        have Bf2 := B.fr 2
        have Bf3 := B.fr 3
        have Bl := B.lt
        simp only [List.getElem?_toArray, List.getElem?_cons_zero, List.getElem?_cons_succ] at B0 B1 B2 B3
        go_wp2_with fail
        clear B0 Bf0 B1 Bf1 B2 Bf2 B3 Bf3 Bl
        refine (CR.out _ U).mono ?_
        rintro _ w2 ⟨rfl, h2⟩
        replace U := U.trans h2
        replace B := B.up h2
        clear h2
        have B0 := B.get 0
        have B1 := B.get 1
        have B2 := B.get 2
        have B3 := B.get 3
        have Bf0 := B.fr 0
        have Bf1 := B.fr 1
        have Bf2 := B.fr 2
        have Bf3 := B.fr 3
        have Bl := B.lt
        simp only [List.getElem?_toArray, List.getElem?_cons_zero, List.getElem?_cons_succ] at B0 B1 B2 B3
        go_wp2_with fail
        clear B0 Bf0 B1 Bf1 B2 Bf2 B3 Bf3 Bl
        refine (CM.out _ (TF.out.up U)).mono ?_
        rintro _ w3 ⟨rfl, h3⟩
        replace U := U.trans h3
        replace B := B.up h3
        clear h3
        have B0 := B.get 0
        have B1 := B.get 1
        have B2 := B.get 2
        have B3 := B.get 3
        have Bf0 := B.fr 0
        have Bf1 := B.fr 1
        have Bf2 := B.fr 2
        have Bf3 := B.fr 3
        have Bl := B.lt
        simp only [List.getElem?_toArray, List.getElem?_cons_zero, List.getElem?_cons_succ] at B0 B1 B2 B3
        go_wp2_with fail
        clear B0 Bf0 B1 Bf1 B2 Bf2 B3 Bf3 Bl
        refine (CZ.out _ U).mono ?_
        rintro _ w4 ⟨rfl, h4⟩
        replace U := U.trans h4
        replace B := B.up h4
        clear h4
        have B0 := B.get 0
        have B1 := B.get 1
        have B2 := B.get 2
        have B3 := B.get 3
        have Bf0 := B.fr 0
        have Bf1 := B.fr 1
        have Bf2 := B.fr 2
        have Bf3 := B.fr 3
        have Bl := B.lt
        simp only [List.getElem?_toArray, List.getElem?_cons_zero, List.getElem?_cons_succ] at B0 B1 B2 B3
        go_wp2_with fail
        clear B0 Bf0 B1 Bf1 B2 Bf2 B3 Bf3 Bl
        refine (CY1.out _ (TT.out.up U) (TF.out.up U) U).mono ?_
        rintro _ w5 ⟨rfl, h5⟩
        replace U := U.trans h5
        replace B := B.up h5
        clear h5
        have B0 := B.get 0
        have B1 := B.get 1
        have B2 := B.get 2
        have B3 := B.get 3
        have Bf0 := B.fr 0
        have Bf1 := B.fr 1
        have Bf2 := B.fr 2
        have Bf3 := B.fr 3
        have Bl := B.lt
        simp only [List.getElem?_toArray, List.getElem?_cons_zero, List.getElem?_cons_succ] at B0 B1 B2 B3
        go_wp2_with fail
        clear B0 Bf0 B1 Bf1 B2 Bf2 B3 Bf3 Bl
        refine (CS.out _ (TT.out.up U) (TF.out.up U) U).mono ?_
        rintro _ w6 ⟨rfl, h6⟩
        replace U := U.trans h6
        replace B := B.up h6
        clear h6
        have B0 := B.get 0
        have B1 := B.get 1
        have B2 := B.get 2
        have B3 := B.get 3
        have Bf0 := B.fr 0
        have Bf1 := B.fr 1
        have Bf2 := B.fr 2
        have Bf3 := B.fr 3
        have Bl := B.lt
        simp only [List.getElem?_toArray, List.getElem?_cons_zero, List.getElem?_cons_succ] at B0 B1 B2 B3
        go_wp2_with fail
        clear B0 Bf0 B1 Bf1 B2 Bf2 B3 Bf3 Bl
        go_ret3
        exact ⟨rfl, U⟩
end Go.Proofs.YtlogglhonlannaaGreatDoor
