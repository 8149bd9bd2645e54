/-
  Package exact: Reduced.
-/
import Derived.Test.YtjmnobgllnaljaaGreatDoorEx3
import Derived.Test.YtjmnobgllnaljaaGreatDoorExa
import Derived.Test.YtjmnobgllnaljaaGreatDoorNb
namespace Go.Proofs.YtjmnobgllnaljaaGreatDoor
open Go.RowKit Go.Shelf

theorem cell_grown {w w' : World} {b : Nat} (hg : w.grownBy w' (some b)) {p : Addr} (hp : p.block ≠ b) {v : Value} (h : w.cell? p = some v) : w'.cell? p = some v := by
  have hbl := hg.block p.block (World.block_lt_of_cell? w _ h) (fun e => hp (Option.some.inj e))
  exact (World.cell?_of_block (w := w) hbl).trans h
theorem frozen_grown {w w' : World} {b : Nat} (hg : w.grownBy w' (some b)) {p : Addr} (hp : p.block ≠ b) {v : Value} (h : w.cell? p = some v) (k : w.frozen? p = false) : w'.frozen? p = false := by
  have hbl := hg.block p.block (World.block_lt_of_cell? w _ h) (fun e => hp (Option.some.inj e))
  exact (World.frozen?_of_block (w := w) hbl).trans k
theorem Nt.kept {w w' : World} {lo s b : Nat} {v : Value} {a : Nat} (h : Nt w lo s v a) (hg : w.grownBy w' (some b)) (hne : v.ownBlock ≠ some b) : Nt w' lo s v a := by
  obtain ⟨A, n, c, xs, rfl, h1, h2⟩ := h
  refine ⟨A, n, c, xs, rfl, h1.kept hg (fun _ b' e => ?_), h2⟩
  rcases A with _ | ad
  · cases e
  · simp only [Option.map_some, Option.some.injEq] at e
    subst e
    intro e2
    exact hne e2.symm
theorem Nt.own_lo {w : World} {lo s b : Nat} {v : Value} {a : Nat} (h : Nt w lo s v a) (h0 : 0 < a) (hb : b < lo) : v.ownBlock ≠ some b := by
  obtain ⟨A, n, c, xs, rfl, h1, h2, _⟩ := h
  have hn : 0 < n := by
    rcases Nat.eq_zero_or_pos n with e | e
    · exfalso
      have : xs = [] := List.eq_nil_of_length_eq_zero (by rw [h1.num, e])
      rw [this] at h2; simp [M.val] at h2; omega
    · exact e
  obtain ⟨b', o, rfl, hl, _⟩ := h1.at_ hn
  intro e
  simp only [Value.ownBlock, Option.some.injEq] at e
  omega
theorem Nt.own_hi {w : World} {lo s b : Nat} {v : Value} {a : Nat} (h : Nt w lo s v a) (h0 : 0 < a) (hb : w.heap.size ≤ b) : v.ownBlock ≠ some b := by
  obtain ⟨A, n, c, xs, rfl, h1, h2, _⟩ := h
  have hn : 0 < n := by
    rcases Nat.eq_zero_or_pos n with e | e
    · exfalso
      have : xs = [] := List.eq_nil_of_length_eq_zero (by rw [h1.num, e])
      rw [this] at h2; simp [M.val] at h2; omega
    · exact e
  obtain ⟨b', o, rfl, hl, hc⟩ := h1.at_ hn
  have := World.block_lt_of_cell? w _ (hc 0 hn).1
  simp only at this
  intro e
  simp only [Value.ownBlock, Option.some.injEq] at e
  omega

theorem Bx.grown {w w' : World} {b b' : Nat} {neg : Bool} {v : Value} {t f : Int} (h : Bx w b' neg v t f) (hg : w.grownBy w' (some b)) (hne : b' ≠ b) : Bx w' b' neg v t f := by
  obtain ⟨⟨a0, a1, a2, a3⟩, b0, b1, b2, b3⟩ := h
  exact ⟨⟨cell_grown hg hne a0, cell_grown hg hne a1, cell_grown hg hne a2, cell_grown hg hne a3⟩, frozen_grown hg hne a0 b0, frozen_grown hg hne a1 b1, frozen_grown hg hne a2 b2, frozen_grown hg hne a3 b3⟩
/-- What is so while factors are taken out: the variable's block is b. -/
structure RInv (w0 : World) (b lo s N base k r : Nat) (v : Value) (wr : World) : Prop where
  only : w0.grownBy wr (some b)
  cell : wr.cell? ⟨b, 0, none⟩ = some v
  free : wr.frozen? ⟨b, 0, none⟩ = false
  num : Nt wr lo s v r
  own : v.ownBlock ≠ some b
  eq : r * base ^ k = N
theorem RInv.up {w0 wr w' : World} {b lo s N base k r : Nat} {v : Value} (h : RInv w0 b lo s N base k r v wr) (hu : Up wr w') : RInv w0 b lo s N base k r v w' :=
  ⟨only_up h.only hu, cell_up hu h.cell, frozen_up hu h.cell h.free, h.num.up hu, h.own, h.eq⟩
theorem RInv.set {w0 wr : World} {b lo s N base k r k' r' : Nat} {v v' : Value} (h : RInv w0 b lo s N base k r v wr) (h' : Nt wr lo s v' r') (ho : v'.ownBlock ≠ some b) (e : r' * base ^ k' = N) :
    RInv w0 b lo s N base k' r' v' (wr.setCell ⟨b, 0, none⟩ v') := by
  have hg : wr.grownBy (wr.setCell ⟨b, 0, none⟩ v') (some b) := only_setCell (World.grownBy.refl _ _) 0 v'
  exact ⟨only_setCell h.only 0 v', World.cell?_setCell_same wr _ _ h.cell, by rw [World.frozen?_setCell]; exact h.free, h'.kept hg ho, ho, e⟩
theorem M.taken_le {r base k N s : Nat} (h : r * base ^ k = N) (hN : 0 < N) (hb : 2 ≤ base) (hs : N < 18446744073709551616 ^ s) : k < 64 * s + 1 := by
  have hr : 0 < r := by
    rcases Nat.eq_zero_or_pos r with e | e
    · rw [e, Nat.zero_mul] at h; omega
    · exact e
  have h1 : 2 ^ k ≤ base ^ k := Nat.pow_le_pow_left hb k
  have h2 : 1 * base ^ k ≤ r * base ^ k := Nat.mul_le_mul_right _ hr
  have h3 : 2 ^ k < 2 ^ (64 * s) := by rw [Nat.pow_mul]; exact Nat.lt_of_le_of_lt (by omega) hs
  have := (Nat.pow_lt_pow_iff_right (by omega : 1 < 2)).1 h3
  omega

/-- What takeOut comes to. -/
def Took (w0 : World) (b lo s N base : Nat) (e : Ending) (w' : World) : Prop := ∃ (k r : Nat) (v : Value), e = .returned (.int .i64 k) ∧ RInv w0 b lo s N base k r v w' ∧ r % base ≠ 0 ∧ k ≤ 64 * s
/-- A number and the same one reduced. -/
structure M.Rdx (a : Nat) (t f : Int) (s a' : Nat) (t' f' : Int) : Prop where
  zero : a = 0 → a' = 0 ∧ t' = 0 ∧ f' = 0
  pos : 0 < a → ∃ k2 k5 : Nat, a' * 5 ^ k5 * 2 ^ k2 = a ∧ a' % 2 ≠ 0 ∧ a' % 5 ≠ 0 ∧ t' = t + k2 ∧ f' = f + k5 ∧ k2 ≤ 64 * s ∧ k5 ≤ 64 * s
/-- What Reduced comes to. -/
def Red (neg : Bool) (s a : Nat) (t f : Int) (w : World) (e : Ending) (w' : World) : Prop := ∃ v a' t' f', e = .returned (xv neg v t' f') ∧ Nt w' w.heap.size s v a' ∧ Up w w' ∧ M.Rdx a t f s a' t' f'
end Go.Proofs.YtjmnobgllnaljaaGreatDoor
