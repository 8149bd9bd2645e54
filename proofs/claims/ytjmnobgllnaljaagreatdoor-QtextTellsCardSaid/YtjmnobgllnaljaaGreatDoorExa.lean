/-
  Package exact: Cmp, CmpSigned, Right, Of, Dec.
-/
import Derived.Test.YtjmnobgllnaljaaGreatDoorNa
import Derived.Deep.RegionHeld3
import Derived.Deep.DrawnRows
/-
  Package exact: the small calls.
-/
namespace Go.Proofs.YtjmnobgllnaljaaGreatDoor
open Go.RowKit Go.Shelf
/-- Bits, where it is known what it tells. -/
theorem bits_at (w : World) (lo s : Nat) (v : Value) (a : Nat) (z : Int) (h : Nw w lo s v a) (e : Hid (M.bits a = z)) : Calls Tryz.prog 17 #[v] w (Same (.int .i64 z) w) := by
  have := bits_any w lo s v a h
  rwa [e.out] at this
theorem bits_at2 (w : World) (lo s : Nat) (v : Value) (a : Nat) (z : Int) (h : Nw w lo s v a) (e : Hid ((M.bits a : Int) = z)) : Calls Tryz.prog 17 #[v] w (Same (.int .i64 z) w) := by
  have := bits_any w lo s v a h
  rwa [e.out] at this

/-- A number as a value. -/
abbrev xv (neg : Bool) (v : Value) (t f : Int) : Value := .agg #[.bool neg, v, .int .i64 t, .int .i64 f]
/-- What a call comes to that tells z, and makes memory of its own. -/
def Num (z : Int) (w : World) (e : Ending) (w' : World) : Prop := e = .returned (.int .i64 z) ∧ Up w w'
def Boo (t : Bool) (w : World) (e : Ending) (w' : World) : Prop := e = .returned (.bool t) ∧ Up w w'

theorem M.bits_eq_zero (a : Nat) : (((M.bits a : Nat) : Int) == 0) = decide (a = 0) := by
  rw [Bool.eq_iff_iff, beq_iff_eq, decide_eq_true_iff]
  constructor
  · intro h
    rcases Nat.eq_zero_or_pos a with h0 | h0
    · exact h0
    · have := M.bits_pos (a := a) (by omega); omega
  · intro h; rw [h]; rfl
/-- -1, 0, 1, as a number stands to 0. -/
def M.sgx (neg : Bool) (a : Nat) : Int := if a = 0 then 0 else if neg = true then -1 else 1
end Go.Proofs.YtjmnobgllnaljaaGreatDoor
/-
  Package exact: Cmp and CmpSigned.
-/
namespace Go.Proofs.YtjmnobgllnaljaaGreatDoor
open Go.RowKit Go.Shelf

theorem cell_up {w w' : World} (hu : Up w w') {p : Addr} {v : Value} (h : w.cell? p = some v) : w'.cell? p = some v := by
  rw [Below.cell hu (World.block_lt_of_cell? w _ h)]; exact h
theorem frozen_up {w w' : World} (hu : Up w w') {p : Addr} {v : Value} (h : w.cell? p = some v) (k : w.frozen? p = false) : w'.frozen? p = false := by
  rw [Below.frozen hu (World.block_lt_of_cell? w _ h)]; exact k
/-- -1, 0, 1, of numbers with signs. -/
def M.icmp (x y : Int) : Int := if x < y then -1 else if x = y then 0 else 1
set_option maxHeartbeats 400000 in
theorem compare_i (w : World) (x y z : Int) (hz : Hid (M.icmp x y = z)) : Calls Tryz.prog 36 #[.int .i64 x, .int .i64 y] w (Same (.int .i64 z) w) := by
  rcases Int.lt_trichotomy x y with h | h | h
  · have e : Hid (z = -1) := by rw [Hid, ← hz.out, M.icmp, if_pos h]
    clear hz
    go_enter Tryz.func36, Tryz.ntmps36
    go_wp2
    go_ret
    exact ⟨ret_int e.out.symm, rfl⟩
  · have e : Hid (z = 0) := by rw [Hid, ← hz.out, M.icmp, if_neg (by omega), if_pos h]
    subst h
    clear hz
    go_enter Tryz.func36, Tryz.ntmps36
    go_wp2
    go_ret
    exact ⟨ret_int e.out.symm, rfl⟩
  · have e : Hid (z = 1) := by rw [Hid, ← hz.out, M.icmp, if_neg (by omega), if_neg (by omega)]
    clear hz
    go_enter Tryz.func36, Tryz.ntmps36
    go_wp2
    go_ret
    exact ⟨ret_int e.out.symm, rfl⟩
theorem M.sgx_rng (neg : Bool) (a : Nat) : M.sgx neg a = -1 ∨ M.sgx neg a = 0 ∨ M.sgx neg a = 1 := by
  unfold M.sgx
  split
  · exact .inr (.inl rfl)
  · split
    · exact .inl rfl
    · exact .inr (.inr rfl)
/-- How two numbers stand, of their signs, and their sizes' standing. -/
def M.csg (x y z : Int) : Int := if x = y then x * z else M.icmp x y

namespace M
/-- A number over a base that is not above its powers. -/
def ov (a : Nat) (t f m : Int) : Nat := a * 5 ^ (f - m).toNat * 2 ^ (t - m).toNat
theorem ov_zero {a : Nat} {t f m : Int} : ov a t f m = 0 ↔ a = 0 := by
  unfold ov
  have h1 : 0 < 5 ^ (f - m).toNat := Nat.pow_pos (by omega)
  have h2 : 0 < 2 ^ (t - m).toNat := Nat.pow_pos (by omega)
  rw [Nat.mul_eq_zero, Nat.mul_eq_zero]
  omega
theorem cmp_ov {a b : Nat} {t f t' f' m : Int} {T F T' F' : Nat} (h1 : m ≤ t) (h2 : m ≤ f) (h3 : m ≤ t') (h4 : m ≤ f') (b1 : t - t' ≤ 131072) (b2 : t' - t ≤ 131072) (b3 : f - f' ≤ 10000) (b4 : f' - f ≤ 10000)
    (hT : max 0 (min (t - t') 131072) = (T : Int)) (hF : max 0 (min (f - f') 10000) = (F : Int)) (hT' : max 0 (min (-(t - t')) 131072) = (T' : Int)) (hF' : max 0 (min (-(f - f')) 10000) = (F' : Int)) :
    cmp (a * 5 ^ F * 2 ^ T) (b * 5 ^ F' * 2 ^ T') = cmp (ov a t f m) (ov b t' f' m) := by
  obtain ⟨c2, hc2⟩ : ∃ c2 : Nat, (c2 : Int) = min t t' - m := ⟨(min t t' - m).toNat, by omega⟩
  obtain ⟨c5, hc5⟩ : ∃ c5 : Nat, (c5 : Int) = min f f' - m := ⟨(min f f' - m).toNat, by omega⟩
  have e1 : (t - m).toNat = T + c2 := by omega
  have e2 : (f - m).toNat = F + c5 := by omega
  have e3 : (t' - m).toNat = T' + c2 := by omega
  have e4 : (f' - m).toNat = F' + c5 := by omega
  have hp : 0 < 5 ^ c5 * 2 ^ c2 := Nat.mul_pos (Nat.pow_pos (by omega)) (Nat.pow_pos (by omega))
  have k1 : ∀ (x F T : Nat), x * 5 ^ (F + c5) * 2 ^ (T + c2) = x * 5 ^ F * 2 ^ T * (5 ^ c5 * 2 ^ c2) := by
    intro x F T
    rw [Nat.pow_add, Nat.pow_add]
    simp only [Nat.mul_assoc, Nat.mul_left_comm, Nat.mul_comm]
  unfold ov
  rw [e1, e2, e3, e4, k1, k1, cmp_times _ _ _ hp]
end M
/-- A number's cells, which may be written. -/
def Bx (w : World) (b : Nat) (neg : Bool) (v : Value) (t f : Int) : Prop :=
  (w.cell? ⟨b, 0, none⟩ = some (.bool neg) ∧ w.cell? ⟨b, 1, none⟩ = some v ∧ w.cell? ⟨b, 2, none⟩ = some (.int .i64 t) ∧ w.cell? ⟨b, 3, none⟩ = some (.int .i64 f)) ∧
  w.frozen? ⟨b, 0, none⟩ = false ∧ w.frozen? ⟨b, 1, none⟩ = false ∧ w.frozen? ⟨b, 2, none⟩ = false ∧ w.frozen? ⟨b, 3, none⟩ = false
theorem Bx.mk_ (w : World) (neg : Bool) (v : Value) (t f : Int) : Bx (w.alloc (.cells #[.bool neg, v, .int .i64 t, .int .i64 f] 46)) w.heap.size neg v t f := by
  refine ⟨⟨?_, ?_, ?_, ?_⟩, ?_, ?_, ?_, ?_⟩ <;> simp
theorem Bx.up {w w' : World} {b : Nat} {neg : Bool} {v : Value} {t f : Int} (h : Bx w b neg v t f) (hu : Up w w') : Bx w' b neg v t f := by
  obtain ⟨⟨a0, a1, a2, a3⟩, b0, b1, b2, b3⟩ := h
  exact ⟨⟨cell_up hu a0, cell_up hu a1, cell_up hu a2, cell_up hu a3⟩, frozen_up hu a0 b0, frozen_up hu a1 b1, frozen_up hu a2 b2, frozen_up hu a3 b3⟩
theorem bx_at (o : Obj) (w : World) (neg : Bool) (v : Value) (t f : Int) : Bx ((w.alloc o).alloc (.cells #[.bool neg, v, .int .i64 t, .int .i64 f] 46)) (w.heap.size + 1) neg v t f := by
  have := Bx.mk_ (w.alloc o) neg v t f
  rwa [show (w.alloc o).heap.size = w.heap.size + 1 from Array.size_push _] at this

theorem lit1n (w : World) (x : Nat) (X : Int) (hX : X = (x : Int)) (hx : x < 18446744073709551616) (h0 : x ≠ 0) :
    Nt (w.alloc (.cells #[.int .u64 X] 37)) w.heap.size 1 (.slice (some ⟨w.heap.size, 0, none⟩) 1 1) x :=
  ⟨_, 1, 1, [x], rfl, lit1_wd w x X hX hx, by simp [M.val], by omega, by simp [M.Nrm, h0]⟩
theorem lit1_at (o : Obj) (w : World) (x : Nat) (X : Int) (hX : X = (x : Int)) (hx : x < 18446744073709551616) (h0 : x ≠ 0) :
    Nt ((w.alloc o).alloc (.cells #[.int .u64 X] 37)) (w.heap.size + 1) 1 (.slice (some ⟨w.heap.size + 1, 0, none⟩) 1 1) x := by
  have := lit1n (w.alloc o) x X hX hx h0
  rwa [show (w.alloc o).heap.size = w.heap.size + 1 from Array.size_push _] at this
theorem lt_w128 {a : Nat} (h : a < 18446744073709551616) : a < 18446744073709551616 ^ 128 := Nat.lt_of_lt_of_le h (by
  have : 18446744073709551616 ^ 1 ≤ 18446744073709551616 ^ 128 := Nat.pow_le_pow_right (by omega) (by omega)
  omega)
end Go.Proofs.YtjmnobgllnaljaaGreatDoor
/-
  Package exact: Right, Dec, Of.
-/
namespace Go.Proofs.YtjmnobgllnaljaaGreatDoor
open Go.RowKit Go.Shelf

/-- The four cells of a number, written. -/
abbrev set4 (w : World) (b : Nat) (u0 u1 u2 u3 : Value) : World := (((w.setCell ⟨b, 0, none⟩ u0).setCell ⟨b, 1, none⟩ u1).setCell ⟨b, 2, none⟩ u2).setCell ⟨b, 3, none⟩ u3
theorem Nt.set4 {w : World} {lo s : Nat} {v : Value} {a : Nat} (h : Nt w lo s v a) {b : Nat} (hb : b < lo) (u0 u1 u2 u3 : Value) : Nt (set4 w b u0 u1 u2 u3) lo s v a := by
  obtain ⟨A, n, c, xs, e, h1, h2⟩ := h
  exact ⟨A, n, c, xs, e, (((h1.set_other (p := ⟨b, 0, none⟩) hb u0).set_other (p := ⟨b, 1, none⟩) hb u1).set_other (p := ⟨b, 2, none⟩) hb u2).set_other (p := ⟨b, 3, none⟩) hb u3, h2⟩
theorem Up.set4 {w w' : World} (h : Up w w') {b : Nat} (hb : w.heap.size ≤ b) (u0 u1 u2 u3 : Value) : Up w (set4 w' b u0 u1 u2 u3) :=
  (((h.setCell (p := ⟨b, 0, none⟩) hb u0).setCell (p := ⟨b, 1, none⟩) hb u1).setCell (p := ⟨b, 2, none⟩) hb u2).setCell (p := ⟨b, 3, none⟩) hb u3
/-- Is a power one? -/
abbrev M.pw (k : Int) : Prop := -5000 ≤ k ∧ k ≤ 5000
/-- What a call comes to that makes a number, or tells that there is none. -/
def Xo (neg : Bool) (s a : Nat) (t f : Int) (is : Bool) (w : World) (e : Ending) (w' : World) : Prop := ∃ v, e = .returned (.tuple #[xv neg v t f, .bool is]) ∧ Nt w' w.heap.size s v a ∧ Up w w'
/-- A value of a form. -/
abbrev vv (c : Int) (neg : Bool) (m : Nat) (e : Int) : Value := .agg #[.int .i64 c, .bool neg, u64 m, .int .i64 e]
theorem of_up (w w' : World) (x : Nat) (hx : x < 18446744073709551616) (_hu : Up w w') : Calls Tryz.prog 91 #[u64 x] w' (Res 1 x w') := of_any w' x hx
end Go.Proofs.YtjmnobgllnaljaaGreatDoor
