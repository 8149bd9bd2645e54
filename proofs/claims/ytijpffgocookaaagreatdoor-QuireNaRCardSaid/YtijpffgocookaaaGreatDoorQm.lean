/-
  Package quire's quires as things among others; a form's measures.
-/
import Derived.Test.YtijpffgocookaaaGreatDoorQu
import Derived.Test.YtijpffgocookaaaGreatDoorYa
namespace Go.Proofs.YtijpffgocookaaaGreatDoor
open Go.RowKit Go.Shelf
set_option linter.unusedVariables false
set_option linter.unusedSimpArgs false

/-- A form of posits, its quire's bits, and those behind the point. -/
structure Qk (i : Nat) (f : M.Fm) (S Z : Nat) : Prop where
  i1 : 1 ≤ i
  i2 : i ≤ 4
  tb : M.tb i = f
  s : M.qS i = S
  z : M.qz i = -(Z : Int)
  sw : 16 * f.W = (S : Int)
  zw : 8 * f.W = (Z : Int) + 16
  s1 : 128 ≤ S
  s2 : S ≤ 1024
  z1 : 48 ≤ Z
  z2 : Z ≤ 496
  k : f.k = 1
theorem Qk.ex {i : Nat} (i1 : 1 ≤ i) (i2 : i ≤ 4) : ∃ f S Z, Qk i f S Z := by
  obtain ⟨h1, h2, h3, h4, h5, h6, _⟩ := M.q_facts i1 i2
  exact ⟨_, _, (8 * (M.tb i).W - 16).toNat, i1, i2, rfl, rfl, by unfold M.qz; omega, by omega, by omega, h4, h5, by omega, by omega, h1⟩
theorem Nt.keep_ {w w' : World} {lo s n c a : Nat} {A : Option Addr} (h : Nt w lo s (.slice A n c) a) (hk : ∀ k o, 0 < n → A = some ⟨k, o, none⟩ → w'.heap[k]? = w.heap[k]?) : Nt w' lo s (.slice A n c) a := by
  obtain ⟨A', n', c', xs, e, h1, h2, h3, h4⟩ := h
  cases e
  refine ⟨A, n, c, xs, rfl, ⟨h1.num, h1.len, h1.small, h1.wds, fun h0 => ?_⟩, h2, h3, h4⟩
  obtain ⟨b, o, e, hlo, hc⟩ := h1.at_ h0
  have hbk := hk b o h0 e
  exact ⟨b, o, e, hlo, fun j hj => ⟨(World.cell?_of_block (w := w) (a := ⟨b, o + j, none⟩) hbk).trans (hc j hj).1, (World.frozen?_of_block (w := w) (a := ⟨b, o + j, none⟩) hbk).trans (hc j hj).2⟩⟩
theorem Nt.old_ {w : World} {lo s n c a : Nat} {A : Option Addr} (h : Nt w lo s (.slice A n c) a) (h0 : 0 < n) {k o : Nat} (e : A = some ⟨k, o, none⟩) : lo ≤ k ∧ k < w.heap.size := by
  obtain ⟨A', n', c', xs, e', h1, _⟩ := h
  cases e'
  obtain ⟨b, o', e', hlo, hc⟩ := h1.at_ h0
  have hlt := World.block_lt_of_cell? w _ (hc 0 h0).1
  rw [e] at e'
  injection e' with e'
  injection e' with e1 e2
  subst e1
  exact ⟨hlo, hlt⟩
theorem Nt.slq {w : World} {lo s : Nat} {v : Value} {a : Nat} (h : Nt w lo s v a) : ∃ A n c, v = .slice A n c ∧ Nt w lo s (.slice A n c) a := by
  obtain ⟨A, n, c, xs, rfl, h⟩ := h
  exact ⟨A, n, c, rfl, A, n, c, xs, rfl, h⟩
/-- A quire's cells. -/
abbrev Qo (w : World) (p i : Nat) (f : M.Fm) (v : Value) : Prop := Ob w p 78 #[.int .i64 f.k, .int .i64 f.W, .int .i64 f.m, .int .i64 f.b, .int .u64 f.t, .int .u64 f.n, .int .u64 f.x, .int .i64 (i : Int), v]
/-- The quire at p, of the form i, holds the bits b. -/
def Iq (p i b : Nat) : Thg := fun w F => (1 ≤ i ∧ i ≤ 4 ∧ b < 2 ^ M.qS i) ∧ ∃ A n c, Qo w p i (M.tb i) (.slice A n c) ∧ Nt w 0 20 (.slice A n c) b ∧ (0 < n → ∀ b' o, A = some ⟨b', o, none⟩ → b' ≠ p) ∧ ∀ k, F k ↔ (k = p ∨ 0 < n ∧ ∃ o, A = some ⟨k, o, none⟩)
theorem Iq.kpt (p i b : Nat) : Kpt (Iq p i b) := by
  refine ⟨fun w F ⟨hi, A, n, c, h1, h2, h3, h4⟩ k hk => ?_, fun w w' F ⟨hi, A, n, c, h1, h2, h3, h4⟩ _ hb => ?_⟩
  · rcases (h4 k).1 hk with rfl | ⟨h0, o, e⟩
    · exact Ob.lt h1
    · exact (h2.old_ h0 e).2
  · exact ⟨hi, A, n, c, (hb p ((h4 p).2 (.inl rfl))).trans h1, h2.keep_ (fun k o h0 e => hb k ((h4 k).2 (.inr ⟨h0, o, e⟩))), h3, h4⟩
theorem Iq.open_ {p i b : Nat} {w : World} {F : Nat → Prop} (h : Iq p i b w F) : ∃ f S Z A n c, Qk i f S Z ∧ b < 2 ^ S ∧ Qo w p i f (.slice A n c) ∧ Nt w 0 20 (.slice A n c) b := by
  obtain ⟨⟨i1, i2, hb⟩, A, n, c, h1, h2, _⟩ := h
  obtain ⟨f, S, Z, K⟩ := Qk.ex i1 i2
  refine ⟨f, S, Z, A, n, c, K, K.s ▸ hb, ?_, h2⟩
  rw [← K.tb]; exact h1
/-- A quire that stays. -/
theorem Iq.stay {p i b : Nat} {w w2 : World} {F : Nat → Prop} (h : Iq p i b w F) (u : Up w w2) : Iq p i b w2 F ∧ Fr F w w2 ∧ ∀ k, F k → F k ∨ w.heap.size ≤ k :=
  ⟨(Iq.kpt p i b).keep _ _ _ h (Up.size u) (fun k hk => Below.block u k ((Iq.kpt p i b).old _ _ h k hk)), Fr.of_up u, fun _ h => .inl h⟩
/-- A quire whose bits are stored anew. -/
theorem Iq.put {p i b b' lo : Nat} {w w2 : World} {F : Nat → Prop} {B : Option Addr} {m d : Nat} (h : Iq p i b w F) (u : Up w w2) (N : Nt w2 lo 20 (.slice B m d) b') (hlo : w.heap.size ≤ lo) (hb : b' < 2 ^ M.qS i) :
    ∃ F', Iq p i b' (w2.setCell ⟨p, 8, none⟩ (.slice B m d)) F' ∧ Fr F w (w2.setCell ⟨p, 8, none⟩ (.slice B m d)) ∧ ∀ k, F' k → F k ∨ w.heap.size ≤ k := by
  obtain ⟨hi, A, n, c, h1, h2, h3, h4⟩ := h
  have hlt := Ob.lt h1
  have hp : F p := (h4 p).2 (.inl rfl)
  have hs : ∀ k, k ≠ p → (w2.setCell ⟨p, 8, none⟩ (.slice B m d)).heap[k]? = w2.heap[k]? := fun k hk => Below.heap_setCell w2 ⟨p, 8, none⟩ _ k hk
  have hne : 0 < m → ∀ b' o, B = some ⟨b', o, none⟩ → b' ≠ p := fun h0 b' o e => by have := (N.old_ h0 e).1; omega
  refine ⟨fun k => k = p ∨ 0 < m ∧ ∃ o, B = some ⟨k, o, none⟩, ⟨⟨hi.1, hi.2.1, hb⟩, B, m, d, ?_, ?_, hne, fun k => Iff.rfl⟩, ⟨u.os, u.tape, u.output, ?_, fun k hk hf => ?_⟩, ?_⟩
  · exact (h1.up u).put 8 _
  · exact (N.lower (Nat.zero_le _)).keep_ (fun k o h0 e => hs k (hne h0 k o e))
  · have := Up.size u
    simpa [World.setCell] using this
  · exact (hs k (fun e => hf (e ▸ hp))).trans (Below.block u k hk)
  · rintro k (rfl | ⟨h0, o, e⟩)
    · exact .inl hp
    · exact .inr (by have := (N.old_ h0 e).1; omega)
/-- Bits have sixteen words at most. -/
theorem M.w_fit {a S k : Nat} (h : a < 2 ^ S) (hS : S ≤ 64 * k) : a < 18446744073709551616 ^ k := by
  rw [show (18446744073709551616 : Nat) = 2 ^ 64 by decide, ← Nat.pow_mul]
  exact Nat.lt_of_lt_of_le h (Nat.pow_le_pow_right (by decide) hS)
theorem Nt.fit20 {w : World} {lo s S a : Nat} {v : Value} (h : Nt w lo s v a) (ha : a < 2 ^ S) (hS : S ≤ 1024) : Nt w lo 20 v a := (h.fit (k := 16) (M.w_fit ha (by omega))).more (by decide)
end Go.Proofs.YtijpffgocookaaaGreatDoor
