import Derived.Test.YtijpffgocookaaaGreatDoorQWYb
import Derived.Test.YtijpffgocookaaaGreatDoorQWExa
import Derived.Test.YtijpffgocookaaaGreatDoorQWFoa
import Derived.Test.YtijpffgocookaaaGreatDoorQWMqa
import Derived.Test.YtijpffgocookaaaGreatDoorQWObm
set_option maxHeartbeats 32000000
set_option linter.unusedVariables false
set_option linter.unusedSimpArgs false
namespace Go.Proofs.YtijpffgocookaaaGreatDoor
open Go.RowKit Go.Shelf
abbrev Thg := World → (Nat → Prop) → Prop
structure Fr (F : Nat → Prop) (w w' : World) : Prop where
 os : w'.os = w.os
 tape : w'.tape = w.tape
 output : w'.output = w.output
 size : w.heap.size ≤ w'.heap.size
 block : ∀ k, k < w.heap.size → ¬ F k → w'.heap[k]? = w.heap[k]?
theorem Fr.of_up {F : Nat → Prop} {w w' : World} (h : Up w w') : Fr F w w' := ⟨h.os, h.tape, h.output, Up.size h, fun k hk _ => Below.block h k hk⟩
theorem Fr.trans {F G : Nat → Prop} {w w' w'' : World} (h : Fr F w w') (g : Fr G w' w'') (hG : ∀ k, G k → F k ∨ w.heap.size ≤ k) : Fr F w w'' :=
 ⟨g.os.trans h.os, g.tape.trans h.tape, g.output.trans h.output, Nat.le_trans h.size g.size, fun k hk hf => (g.block k (Nat.lt_of_lt_of_le hk h.size) (fun e => by rcases hG k e with a | a; exact hf a; omega)).trans (h.block k hk hf)⟩
theorem Fr.up {F : Nat → Prop} {w0 w w' : World} (h : Fr F w w') (U : Up w0 w) (hF : ∀ k, F k → w0.heap.size ≤ k) : Up w0 w' := by
 have hs := Up.size U
 exact ⟨h.os.trans U.os, h.tape.trans U.tape, h.output.trans U.output, Nat.le_trans hs h.size, fun k hk => (h.block k (Nat.lt_of_lt_of_le hk hs) (fun e => by have := hF k e; omega)).trans (Below.block U k hk)⟩
theorem Fr.of_grown {q : Nat} {F : Nat → Prop} {w w' : World} (h : w.grownBy w' (some q)) (hq : F q) : Fr F w w' :=
 ⟨h.os, h.tape, h.output, h.size, fun k hk hf => h.block k hk (fun e => by injection e with e; subst e; exact hf hq)⟩
structure Kpt (φ : Thg) : Prop where
 old : ∀ w F, φ w F → ∀ k, F k → k < w.heap.size
 keep : ∀ w w' F, φ w F → w.heap.size ≤ w'.heap.size → (∀ k, F k → w'.heap[k]? = w.heap[k]?) → φ w' F
def Non : Thg := fun _ F => ∀ k, ¬ F k
theorem Non.kpt : Kpt Non := ⟨fun _ _ h k hk => absurd hk (h k), fun _ _ _ h _ _ => h⟩
def Nmb (s : Nat) (v : Value) (a : Nat) : Thg := fun w F => ∃ A n c xs, v = .slice A n c ∧ Wd w 0 A n c xs ∧ M.val xs = a ∧ n ≤ s ∧ M.Nrm xs ∧ ∀ k, F k ↔ 0 < n ∧ ∃ o, A = some ⟨k, o, none⟩
theorem Nmb.nt {s : Nat} {v : Value} {a : Nat} {w : World} {F : Nat → Prop} (h : Nmb s v a w F) : Nt w 0 s v a := by
 obtain ⟨A, n, c, xs, e, h1, h2, h3, h4, _⟩ := h
 exact ⟨A, n, c, xs, e, h1, h2, h3, h4⟩
theorem Nmb.of {w : World} {lo s : Nat} {v : Value} {a : Nat} (h : Nt w lo s v a) : ∃ F, Nmb s v a w F ∧ ∀ k, F k → lo ≤ k := by
 obtain ⟨A, n, c, xs, e, h1, h2, h3, h4⟩ := h
 refine ⟨fun k => 0 < n ∧ ∃ o, A = some ⟨k, o, none⟩, ⟨A, n, c, xs, e, h1.lower (Nat.zero_le _), h2, h3, h4, fun k => Iff.rfl⟩, fun k ⟨h0, o, ho⟩ => ?_⟩
 obtain ⟨b, o', e', hb, _⟩ := h1.at_ h0
 rw [ho] at e'
 injection e' with e'
 injection e' with e1 e2
 omega
theorem Nmb.kpt (s : Nat) (v : Value) (a : Nat) : Kpt (Nmb s v a) := by
 refine ⟨fun w F ⟨A, n, c, xs, e, h1, h2, h3, h4, h5⟩ k hk => ?_, fun w w' F ⟨A, n, c, xs, e, h1, h2, h3, h4, h5⟩ _ hb => ?_⟩
 ·obtain ⟨h0, o, ho⟩ := (h5 k).1 hk
  obtain ⟨b, o', e', _, hc⟩ := h1.at_ h0
  have hlt := World.block_lt_of_cell? w _ (hc 0 h0).1
  rw [ho] at e'
  injection e' with e'
  injection e' with e1 e2
  subst e1
  exact hlt
 ·refine ⟨A, n, c, xs, e, ⟨h1.num, h1.len, h1.small, h1.wds, fun h0 => ?_⟩, h2, h3, h4, h5⟩
  obtain ⟨b, o, e', hlo, hc⟩ := h1.at_ h0
  have hbk := hb b ((h5 b).2 ⟨h0, o, e'⟩)
  exact ⟨b, o, e', hlo, fun j hj => ⟨(World.cell?_of_block (w := w) (a := ⟨b, o + j, none⟩) hbk).trans (hc j hj).1, (World.frozen?_of_block (w := w) (a := ⟨b, o + j, none⟩) hbk).trans (hc j hj).2⟩⟩
structure Sd3 (w0 w : World) (φ ψ χ : Thg) : Prop where
 st : ∃ F G H, φ w F ∧ ψ w G ∧ χ w H ∧ (∀ k, F k → ¬ G k) ∧ (∀ k, F k → ¬ H k) ∧ (∀ k, G k → ¬ H k) ∧ ∀ k, F k ∨ G k ∨ H k → w0.heap.size ≤ k
 up : Up w0 w
 k1 : Kpt φ
 k2 : Kpt ψ
 k3 : Kpt χ
section
variable {w0 w w' : World} {φ ψ χ φ' : Thg}
theorem Sd3.start (U : Up w0 w) : Sd3 w0 w Non Non Non :=
 ⟨⟨fun _ => False, fun _ => False, fun _ => False, fun _ h => h, fun _ h => h, fun _ h => h, fun _ h => h.elim, fun _ h => h.elim, fun _ h => h.elim, fun _ h => by rcases h with h | h | h <;> exact h.elim⟩, U, Non.kpt, Non.kpt, Non.kpt⟩
theorem Sd3.pure (S : Sd3 w0 w φ ψ χ) (u : Up w w') : Sd3 w0 w' φ ψ χ := by
 obtain ⟨F, G, H, h1, h2, h3, d⟩ := S.st
 have kp : ∀ {θ : Thg} {E : Nat → Prop}, Kpt θ → θ w E → θ w' E := fun k h => k.keep _ _ _ h (Up.size u) (fun j hj => Below.block u j (k.old _ _ h j hj))
 exact ⟨⟨F, G, H, kp S.k1 h1, kp S.k2 h2, kp S.k3 h3, d⟩, S.up.trans u, S.k1, S.k2, S.k3⟩
theorem Sd3.swap2 (S : Sd3 w0 w φ ψ χ) : Sd3 w0 w ψ φ χ := by
 obtain ⟨F, G, H, h1, h2, h3, d1, d2, d3, d4⟩ := S.st
 exact ⟨⟨G, F, H, h2, h1, h3, fun k a b => d1 k b a, d3, d2, fun k h => d4 k (by rcases h with h | h | h <;> simp [h])⟩, S.up, S.k2, S.k1, S.k3⟩
theorem Sd3.swap3 (S : Sd3 w0 w φ ψ χ) : Sd3 w0 w χ ψ φ := by
 obtain ⟨F, G, H, h1, h2, h3, d1, d2, d3, d4⟩ := S.st
 exact ⟨⟨H, G, F, h3, h2, h1, fun k a b => d3 k b a, fun k a b => d2 k b a, fun k a b => d1 k b a, fun k h => d4 k (by rcases h with h | h | h <;> simp [h])⟩, S.up, S.k3, S.k2, S.k1⟩
theorem Sd3.swap32 (S : Sd3 w0 w φ ψ χ) : Sd3 w0 w φ χ ψ := S.swap2.swap3.swap2
def Mu {α : Type} (F : Nat → Prop) (φ' : α → Thg) (r : α → Value) (w : World) (e : Ending) (w' : World) : Prop :=
 ∃ x, e = .returned (r x) ∧ ∃ F', φ' x w' F' ∧ Fr F w w' ∧ ∀ k, F' k → F k ∨ w.heap.size ≤ k
theorem Sd3.mutX {P : Program} {f : Nat} {args : Array Value} {α : Type} {φ' : α → Thg} {r : α → Value} (S : Sd3 w0 w φ ψ χ) (hk : ∀ x, Kpt (φ' x)) (h : ∀ F, φ w F → Calls P f args w (Mu F φ' r w)) :
  Calls P f args w (fun e w' => ∃ x, e = .returned (r x) ∧ Sd3 w0 w' (φ' x) ψ χ) := by
 obtain ⟨F, G, H, h1, h2, h3, d1, d2, d3, d4⟩ := S.st
 refine (h F h1).mono ?_
 rintro e w' ⟨x, rfl, F', g1, g2, g3⟩
 refine ⟨x, rfl, ⟨F', G, H, g1, ?_, ?_, ?_, ?_, d3, ?_⟩, g2.up S.up (fun k hk => d4 k (.inl hk)), hk x, S.k2, S.k3⟩
 ·exact S.k2.keep _ _ _ h2 g2.size (fun k hk => g2.block k (S.k2.old _ _ h2 k hk) (fun e => d1 k e hk))
 ·exact S.k3.keep _ _ _ h3 g2.size (fun k hk => g2.block k (S.k3.old _ _ h3 k hk) (fun e => d2 k e hk))
 ·intro k a b
  rcases g3 k a with e | e
  ·exact d1 k e b
  ·have := S.k2.old _ _ h2 k b; omega
 ·intro k a b
  rcases g3 k a with e | e
  ·exact d2 k e b
  ·have := S.k3.old _ _ h3 k b; omega
 ·intro k a
  rcases a with a | a
  ·rcases g3 k a with e | e
   ·exact d4 k (.inl e)
   ·have := Up.size S.up; omega
  ·exact d4 k (.inr a)
theorem Sd3.mut {P : Program} {f : Nat} {args : Array Value} {r : Value} (S : Sd3 w0 w φ ψ χ) (hk : Kpt φ') (h : ∀ F, φ w F → Calls P f args w (Mu (α := Unit) F (fun _ => φ') (fun _ => r) w)) :
  Calls P f args w (fun e w' => e = .returned r ∧ Sd3 w0 w' φ' ψ χ) :=
 (S.mutX (φ' := fun _ : Unit => φ') (fun _ => hk) h).mono fun _ _ ⟨_, h1, h2⟩ => ⟨h1, h2⟩
theorem Sd3.num {P : Program} {f : Nat} {args : Array Value} {s a : Nat} {r : Value → Value} (S : Sd3 w0 w Non ψ χ) (h : Calls P f args w (fun e w' => ∃ v, e = .returned (r v) ∧ Nt w' w.heap.size s v a ∧ Up w w')) :
  Calls P f args w (fun e w' => ∃ v, e = .returned (r v) ∧ Sd3 w0 w' (Nmb s v a) ψ χ) :=
 S.mutX (φ' := fun v => Nmb s v a) (fun v => Nmb.kpt s v a) fun F hF => h.mono fun e w' ⟨v, h1, h2, h3⟩ => by
  obtain ⟨F', g1, g2⟩ := Nmb.of h2
  exact ⟨v, h1, F', g1, Fr.of_up h3, fun k hk => .inr (g2 k hk)⟩
theorem Sd3.drop (S : Sd3 w0 w φ ψ χ) : Sd3 w0 w Non ψ χ := by
 obtain ⟨F, G, H, h1, h2, h3, d1, d2, d3, d4⟩ := S.st
 exact ⟨⟨fun _ => False, G, H, fun _ h => h, h2, h3, fun _ h => h.elim, fun _ h => h.elim, d3, fun k h => d4 k (by rcases h with h | h | h; exact h.elim; exact .inr (.inl h); exact .inr (.inr h))⟩, S.up, Non.kpt, S.k2, S.k3⟩
end
abbrev ptr (p : Nat) : Value := .pointer (some ⟨p, 0, none⟩)
structure Qui (Is : Nat → Nat → Nat → Thg) : Prop where
 kpt : ∀ p i b, Kpt (Is p i b)
 rng : ∀ {p i b w F}, Is p i b w F → 1 ≤ i ∧ i ≤ 4 ∧ b < 2 ^ M.qS i
 new : ∀ (w : World), TabF w → ∀ i : Nat, 1 ≤ i → i ≤ 4 → ∀ F : Nat → Prop, Calls Tryz.prog 13 #[.int .i64 (i : Int)] w (Mu F (fun p => Is p i 0) (fun p => .tuple #[ptr p, .int .i64 0]) w)
 none_ : ∀ (w : World), TabF w → ∀ ii : Int, ¬ (1 ≤ ii ∧ ii ≤ 4) → Calls Tryz.prog 13 #[.int .i64 ii] w (fun e w' => e = .returned (.tuple #[.pointer none, .int .i64 3]) ∧ Up w w')
 size : ∀ {p i b w F}, Is p i b w F → Tz w → TabF w → Calls Tryz.prog 37 #[ptr p] w (fun e w' => e = .returned (.int .i64 (M.qS i : Int)) ∧ Up w w')
 bits : ∀ {p i b w F}, Is p i b w F → Tz w → TabF w → Calls Tryz.prog 30 #[ptr p] w (fun e w' => ∃ v, e = .returned v ∧ Nt w' w.heap.size 20 v b ∧ Up w w')
 set : ∀ {p i b w F}, Is p i b w F → Tz w → TabF w → ∀ (lo : Nat) (A : Option Addr) (n c : Nat) (xs : List Nat), Wd w lo A n c xs → n ≤ 20 → ∀ b' x, M.Qs i (M.val xs) b b' x →
  Calls Tryz.prog 25 #[ptr p, .slice A n c] w (Mu (α := Unit) F (fun _ => Is p i b') (fun _ => .int .i64 x) w)
 nar : ∀ {p i b w F}, Is p i b w F → Tz w → TabF w → ∀ r, decide (b = M.qn i) = r → Calls Tryz.prog 32 #[ptr p] w (fun e w' => e = .returned (.bool r) ∧ Up w w')
 value : ∀ {p i b w F}, Is p i b w F → Tz w → TabF w → b ≠ M.qn i → ∀ s N t f, M.Qv i b s N t f → Calls Tryz.prog 28 #[ptr p] w (Xo s 20 N t f true w)
 value_ : ∀ {p i b w F}, Is p i b w F → Tz w → TabF w → b = M.qn i → Calls Tryz.prog 28 #[ptr p] w (Xo false 0 0 0 0 false w)
 clear : ∀ {p i b w F}, Is p i b w F → Tz w → TabF w → Calls Tryz.prog 21 #[ptr p] w (Mu (α := Unit) F (fun _ => Is p i 0) (fun _ => .tuple #[]) w)
 neg : ∀ {p i b w F}, Is p i b w F → Tz w → TabF w → Calls Tryz.prog 19 #[ptr p] w (Mu (α := Unit) F (fun _ => Is p i (M.ng (2 ^ M.qS i) b)) (fun _ => .tuple #[]) w)
 add : ∀ {p i b w F}, Is p i b w F → Tz w → TabF w → ∀ a c : Nat, a < 18446744073709551616 → c < 18446744073709551616 → ∀ o x, M.Qa i a c o x →
  Calls Tryz.prog 16 #[ptr p, u64 a, u64 c] w (Mu (α := Unit) F (fun _ => Is p i (M.qst i b o)) (fun _ => .int .i64 x) w)
 sub : ∀ {p i b w F}, Is p i b w F → Tz w → TabF w → ∀ a c : Nat, a < 18446744073709551616 → c < 18446744073709551616 → ∀ o x, M.Qa i a c o x →
  Calls Tryz.prog 18 #[ptr p, u64 a, u64 c] w (Mu (α := Unit) F (fun _ => Is p i (M.qst i b (M.tk i true o))) (fun _ => .int .i64 x) w)
 load : ∀ {p i b w F}, Is p i b w F → Tz w → TabF w → ∀ (lo : Nat) (s : Bool) (v : Value) (a : Nat) (t f : Int), Nt w lo 20 v a → -600 ≤ t ∧ t ≤ 600 → -600 ≤ f ∧ f ≤ 600 → ∀ b' x, M.Qld i s a t f b b' x →
  Calls Tryz.prog 22 #[ptr p, xv s v t f] w (Mu (α := Unit) F (fun _ => Is p i b') (fun _ => .int .i64 x) w)
 posit : ∀ {p i b w F}, Is p i b w F → Tz w → TabF w → ∀ q : Int, M.Qp i b q → Calls Tryz.prog 33 #[ptr p] w (fun e w' => e = .returned (.int .u64 q) ∧ Up w w')
section
variable {Is : Nat → Nat → Nat → Thg} {w0 w : World} {ψ χ : Thg} {p i b : Nat}
theorem Qui.fresh_ (Q : Qui Is) (TF : TabF w0) (S : Sd3 w0 w Non ψ χ) (i1 : 1 ≤ i) (i2 : i ≤ 4) : Calls Tryz.prog 13 #[.int .i64 (i : Int)] w (fun e w' => ∃ p, e = .returned (.tuple #[ptr p, .int .i64 0]) ∧ Sd3 w0 w' (Is p i 0) ψ χ) :=
 S.mutX (fun p => Q.kpt p i 0) fun F _ => Q.new w (TF.up S.up) i i1 i2 F
theorem Sd3.read {P : Program} {f : Nat} {args : Array Value} {R : Ending → World → Prop} {φ : Thg} (S : Sd3 w0 w φ ψ χ) (h : ∀ F, φ w F → Calls P f args w (fun e w' => R e w' ∧ Up w w')) : Calls P f args w (fun e w' => R e w' ∧ Sd3 w0 w' φ ψ χ) := by
 obtain ⟨F, G, H, h1, _⟩ := S.st
 exact (h F h1).mono fun _ _ ⟨a, u⟩ => ⟨a, S.pure u⟩
theorem Qui.size_ (Q : Qui Is) (TT : Tz w0) (TF : TabF w0) (S : Sd3 w0 w (Is p i b) ψ χ) : Calls Tryz.prog 37 #[ptr p] w (fun e w' => e = .returned (.int .i64 (M.qS i : Int)) ∧ Sd3 w0 w' (Is p i b) ψ χ) :=
 S.read fun F h => Q.size h (TT.up S.up) (TF.up S.up)
theorem Qui.nar_ (Q : Qui Is) (TT : Tz w0) (TF : TabF w0) (S : Sd3 w0 w (Is p i b) ψ χ) (r : Bool) (hr : decide (b = M.qn i) = r) : Calls Tryz.prog 32 #[ptr p] w (fun e w' => e = .returned (.bool r) ∧ Sd3 w0 w' (Is p i b) ψ χ) :=
 S.read fun F h => Q.nar h (TT.up S.up) (TF.up S.up) r hr
theorem Qui.posit_ (Q : Qui Is) (TT : Tz w0) (TF : TabF w0) (S : Sd3 w0 w (Is p i b) ψ χ) (q : Int) (hq : M.Qp i b q) : Calls Tryz.prog 33 #[ptr p] w (fun e w' => e = .returned (.int .u64 q) ∧ Sd3 w0 w' (Is p i b) ψ χ) :=
 S.read fun F h => Q.posit h (TT.up S.up) (TF.up S.up) q hq
theorem Qui.bits_ (Q : Qui Is) (TT : Tz w0) (TF : TabF w0) (S : Sd3 w0 w (Is p i b) ψ χ) : Calls Tryz.prog 30 #[ptr p] w (fun e w' => ∃ v, e = .returned v ∧ Nt w' w.heap.size 20 v b ∧ Up w w' ∧ Sd3 w0 w' (Is p i b) ψ χ) := by
 obtain ⟨F, G, H, h1, _⟩ := S.st
 exact (Q.bits h1 (TT.up S.up) (TF.up S.up)).mono fun _ _ ⟨v, a, n, u⟩ => ⟨v, a, n, u, S.pure u⟩
theorem Qui.keep_ (Q : Qui Is) (TT : Tz w0) (TF : TabF w0) (S : Sd3 w0 w (Is p i b) ψ Non) : Calls Tryz.prog 30 #[ptr p] w (fun e w' => ∃ v, e = .returned v ∧ Sd3 w0 w' (Is p i b) ψ (Nmb 20 v b)) := by
 obtain ⟨F, G, H, h1, _⟩ := S.st
 exact (S.swap3.num (r := fun v => v) (Q.bits h1 (TT.up S.up) (TF.up S.up))).mono fun _ _ ⟨v, a, n⟩ => ⟨v, a, n.swap3⟩
theorem Qui.clear_ (Q : Qui Is) (TT : Tz w0) (TF : TabF w0) (S : Sd3 w0 w (Is p i b) ψ χ) : Calls Tryz.prog 21 #[ptr p] w (fun e w' => e = .returned (.tuple #[]) ∧ Sd3 w0 w' (Is p i 0) ψ χ) :=
 S.mut (Q.kpt _ _ _) fun F h => Q.clear h (TT.up S.up) (TF.up S.up)
theorem Qui.neg_ (Q : Qui Is) (TT : Tz w0) (TF : TabF w0) (S : Sd3 w0 w (Is p i b) ψ χ) : Calls Tryz.prog 19 #[ptr p] w (fun e w' => e = .returned (.tuple #[]) ∧ Sd3 w0 w' (Is p i (M.ng (2 ^ M.qS i) b)) ψ χ) :=
 S.mut (Q.kpt _ _ _) fun F h => Q.neg h (TT.up S.up) (TF.up S.up)
theorem Qui.add_ (Q : Qui Is) (TT : Tz w0) (TF : TabF w0) (S : Sd3 w0 w (Is p i b) ψ χ) (a c : Nat) (ha : a < 18446744073709551616) (hc : c < 18446744073709551616) (o : Option Nat) (x : Int) (h : M.Qa i a c o x) : Calls Tryz.prog 16 #[ptr p, u64 a, u64 c] w (fun e w' => e = .returned (.int .i64 x) ∧ Sd3 w0 w' (Is p i (M.qst i b o)) ψ χ) :=
 S.mut (Q.kpt _ _ _) fun F hi => Q.add hi (TT.up S.up) (TF.up S.up) a c ha hc o x h
theorem Qui.sub_ (Q : Qui Is) (TT : Tz w0) (TF : TabF w0) (S : Sd3 w0 w (Is p i b) ψ χ) (a c : Nat) (ha : a < 18446744073709551616) (hc : c < 18446744073709551616) (o : Option Nat) (x : Int) (h : M.Qa i a c o x) : Calls Tryz.prog 18 #[ptr p, u64 a, u64 c] w (fun e w' => e = .returned (.int .i64 x) ∧ Sd3 w0 w' (Is p i (M.qst i b (M.tk i true o))) ψ χ) :=
 S.mut (Q.kpt _ _ _) fun F hi => Q.sub hi (TT.up S.up) (TF.up S.up) a c ha hc o x h
theorem Qui.set_ (Q : Qui Is) (TT : Tz w0) (TF : TabF w0) (S : Sd3 w0 w (Is p i b) ψ χ) (lo : Nat) (A : Option Addr) (n c : Nat) (xs : List Nat) (hw : Wd w lo A n c xs) (hn : n ≤ 20) (b' : Nat) (x : Int) (h : M.Qs i (M.val xs) b b' x) : Calls Tryz.prog 25 #[ptr p, .slice A n c] w (fun e w' => e = .returned (.int .i64 x) ∧ Sd3 w0 w' (Is p i b') ψ χ) :=
 S.mut (Q.kpt _ _ _) fun F hi => Q.set hi (TT.up S.up) (TF.up S.up) lo A n c xs hw hn b' x h
theorem Qui.load_ (Q : Qui Is) (TT : Tz w0) (TF : TabF w0) (S : Sd3 w0 w (Is p i b) ψ χ) (lo : Nat) (s : Bool) (v : Value) (a : Nat) (t f : Int) (hw : Nt w lo 20 v a) (ht : -600 ≤ t ∧ t ≤ 600) (hf : -600 ≤ f ∧ f ≤ 600) (b' : Nat) (x : Int) (h : M.Qld i s a t f b b' x) : Calls Tryz.prog 22 #[ptr p, xv s v t f] w (fun e w' => e = .returned (.int .i64 x) ∧ Sd3 w0 w' (Is p i b') ψ χ) :=
 S.mut (Q.kpt _ _ _) fun F hi => Q.load hi (TT.up S.up) (TF.up S.up) lo s v a t f hw ht hf b' x h
theorem Qui.rng_ (Q : Qui Is) (S : Sd3 w0 w (Is p i b) ψ χ) : 1 ≤ i ∧ i ≤ 4 ∧ b < 2 ^ M.qS i := by
 obtain ⟨F, G, H, h1, _⟩ := S.st
 exact Q.rng h1
end
end Go.Proofs.YtijpffgocookaaaGreatDoor
namespace Go.Proofs.YtijpffgocookaaaGreatDoor
open Go
namespace M
theorem isk_high {n k m : Nat} {z : Int} (h : IsK n k m z) : m * 2 ^ (z + 4 * n).toNat < 2 ^ (8 * n) := by
 obtain ⟨mo, R, r, q, t, h1, h2, h3⟩ := h
 have rg := h1.rng
 have fl := fr_lt r q
 have el := ex_le h1.1
 obtain ⟨u, hu⟩ : ∃ u : Nat, (u : Int) = 4 * R + ex r q - (r - 2 : Nat) + 4 * n := ⟨(4 * R + ex r q - (r - 2 : Nat) + 4 * n).toNat, by
  obtain ⟨hq, ⟨_, e1, e2⟩ | ⟨_, e1, e2⟩ | ⟨_, e1, e2, e3⟩⟩ := h1 <;> omega⟩
 have e1 : (z + 4 * (n : Int)).toNat = t + u := by omega
 rw [e1, Nat.pow_add, ← Nat.mul_assoc, ← h2]
 have e2 : 2 ^ (r - 2) + fr r q < 2 ^ (r - 2 + 1) := by rw [Nat.pow_succ]; omega
 refine Nat.lt_of_lt_of_le (Nat.mul_lt_mul_of_pos_right e2 (Nat.two_pow_pos u)) ?_
 rw [← Nat.pow_add]
 exact Nat.pow_le_pow_right (by decide) (by omega)
theorem nar_pat {i : Nat} (i1 : 1 ≤ i) (i2 : i ≤ 4) : (((2 ^ ((tb i).W.toNat - 1) : Nat) : Int) ≤ msk (tb i)) ∧ Dv (tb i) ((2 ^ ((tb i).W.toNat - 1) : Nat) : Int) 4 false 0 0 ∧ (tb i).x = ((2 ^ ((tb i).W.toNat - 1) : Nat) : Int) := by
 rcases (show i = 1 ∨ i = 2 ∨ i = 3 ∨ i = 4 by omega) with rfl | rfl | rfl | rfl <;> exact ⟨by decide, .inl ⟨by decide, rfl, rfl, rfl, rfl⟩, by decide⟩
theorem zero_pat {i : Nat} (i1 : 1 ≤ i) (i2 : i ≤ 4) : ((0 : Nat) : Int) ≤ msk (tb i) ∧ Dv (tb i) ((0 : Nat) : Int) 1 false 0 0 := by
 rcases (show i = 1 ∨ i = 2 ∨ i = 3 ∨ i = 4 by omega) with rfl | rfl | rfl | rfl <;> exact ⟨by decide, .inr (.inr (.inl ⟨by decide, rfl, by decide, rfl, rfl⟩))⟩
theorem dcq {i p : Nat} (i1 : 1 ≤ i) (i2 : i ≤ 4) (hp : (p : Int) ≤ msk (tb i)) {c : Int} {g : Bool} {m : Nat} {z : Int} (h : Dv (tb i) p c g m z) : Dc (i : Int) p c g m z 0 := dc_mk i1 (four14 i2) hp h
theorem nar_q {i : Nat} (i1 : 1 ≤ i) (i2 : i ≤ 4) : Qa i (2 ^ ((tb i).W.toNat - 1)) 0 none 0 := by
 obtain ⟨a, b, _⟩ := nar_pat i1 i2
 obtain ⟨c, d⟩ := zero_pat i1 i2
 exact .inr ⟨rfl, ⟨a, c⟩, _, _, _, _, _, _, _, _, dcq i1 i2 a b, dcq i1 i2 c d, .inl ⟨rfl, .inl rfl⟩⟩
theorem qv_bnd {i b : Nat} (i1 : 1 ≤ i) (i2 : i ≤ 4) (hb : b < 2 ^ qS i) {s : Bool} {N : Nat} {t f : Int} (h : Qv i b s N t f) : (-600 ≤ t ∧ t ≤ 600) ∧ (-600 ≤ f ∧ f ≤ 600) := by
 have hq := q_facts i1 i2
 rcases h with ⟨_, _, _, rfl, rfl⟩ | ⟨h0, _, hN, _, lo, k, h1, rfl, rfl⟩
 ·omega
 ·have hN0 : 0 < N := by omega
  have hm : qm i b < 2 ^ (qS i + 1) := by
   have := Nat.two_pow_pos (qS i)
   rw [Nat.pow_succ]
   unfold qm; split <;> omega
  have l1 : 2 ^ lo ≤ qm i b := by rw [h1]; exact Nat.le_mul_of_pos_left _ (Nat.mul_pos hN0 (Nat.pow_pos (by decide)))
  have l2 : 2 ^ (2 * k) ≤ qm i b := by
   rw [h1]
   refine Nat.le_trans ?_ (Nat.le_mul_of_pos_right _ (Nat.two_pow_pos lo))
   refine Nat.le_trans ?_ (Nat.le_mul_of_pos_left _ hN0)
   rw [Nat.pow_mul]
   exact Nat.pow_le_pow_left (by decide) k
  have e1 := p2inj (Nat.lt_of_le_of_lt l1 hm)
  have e2 := p2inj (Nat.lt_of_le_of_lt l2 hm)
  unfold qz
  omega
theorem qs1 : qS 1 = 128 := by decide
theorem sh15_one : Dv (tb 1) ((64 : Nat) : Int) 2 false 1 0 := .inr (.inr (.inr ⟨by decide, rfl, by decide, 64, by decide, .inl ⟨rfl, 7, by decide, rfl, ⟨by decide, 0, 5, 0, 3, by unfold Ps; decide, by decide, by decide⟩⟩⟩))
theorem sh15_two : Dv (tb 1) ((72 : Nat) : Int) 2 false 1 1 := .inr (.inr (.inr ⟨by decide, rfl, by decide, 72, by decide, .inl ⟨rfl, 7, by decide, rfl, ⟨by decide, 0, 5, 8, 3, by unfold Ps; decide, by decide, by decide⟩⟩⟩))
theorem sh15_neg : Dv (tb 1) ((192 : Nat) : Int) 2 true 1 0 := .inr (.inr (.inr ⟨by decide, rfl, by decide, 64, by decide, .inl ⟨rfl, 7, by decide, rfl, ⟨by decide, 0, 5, 0, 3, by unfold Ps; decide, by decide, by decide⟩⟩⟩))
theorem sh15_a : Qa 1 64 64 (some 281474976710656) 0 :=
 .inr ⟨rfl, by decide, _, _, _, _, _, _, _, _, dcq (by decide) (by decide) (by decide) sh15_one, dcq (by decide) (by decide) (by decide) sh15_one, .inr (.inr ⟨by decide, by decide, 281474976710656, by decide +kernel, by rw [if_pos rfl]⟩)⟩
theorem sh15_b : Qa 1 64 72 (some 562949953421312) 0 :=
 .inr ⟨rfl, by decide, _, _, _, _, _, _, _, _, dcq (by decide) (by decide) (by decide) sh15_one, dcq (by decide) (by decide) (by decide) sh15_two, .inr (.inr ⟨by decide, by decide, 562949953421312, by decide +kernel, by rw [if_pos rfl]⟩)⟩
theorem sh15_c : Qa 1 256 0 (some 0) 1 := .inl ⟨rfl, rfl, by decide⟩
theorem sh15_d : Qa 1 128 0 none 0 := nar_q (i := 1) (by decide) (by decide)
theorem sh15_e : qst 1 0 (some 281474976710656) = 281474976710656 := by decide +kernel
theorem sh15_f : qst 1 281474976710656 (tk 1 true (some 562949953421312)) = 340282366920938463463374325956791500800 := by decide +kernel
theorem sh15_g : Qp 1 340282366920938463463374325956791500800 192 := by
 refine .inr ⟨by decide +kernel, ?_⟩
 have h := (has_rv (ok 1 (by decide) (by decide)) (ok2 1 (by decide) (by decide)) (ok3 1 (by decide) (by decide)) (by decide) sh15_neg (.inr rfl) 1).1
 have e : sz (qm 1 340282366920938463463374325956791500800) (qz 1) 0 = sz 1 0 0 := by
  rw [show qm 1 340282366920938463463374325956791500800 = 1 * 5 ^ 0 * 2 ^ 48 by decide +kernel, sz_mix _ _ _ _ (by decide)]
  rfl
 rw [e, show decide (qn 1 ≤ 340282366920938463463374325956791500800) = true by decide +kernel]
 exact h
theorem sh15_h : qst 1 340282366920938463463374325956791500800 (some 0) = 340282366920938463463374325956791500800 := by decide +kernel
end M
end Go.Proofs.YtijpffgocookaaaGreatDoor
namespace Go.Proofs.YtijpffgocookaaaGreatDoor
open Go.RowKit Go.Shelf
def True15 (w : World) (e : Ending) (w' : World) : Prop := e = .returned (.bool true) ∧ Up w w'
theorem Sd3.sl {w0 w : World} {φ ψ : Thg} {s : Nat} {v : Value} {a : Nat} (S : Sd3 w0 w φ ψ (Nmb s v a)) : ∃ A n c, v = .slice A n c := by
 obtain ⟨F, G, H, h1, h2, ⟨A, n, c, xs, e, _⟩, _⟩ := S.st
 exact ⟨A, n, c, e⟩
theorem Sd3.nt {w0 w : World} {φ ψ : Thg} {s : Nat} {v : Value} {a : Nat} (S : Sd3 w0 w φ ψ (Nmb s v a)) : Nt w 0 s v a := by
 obtain ⟨F, G, H, h1, h2, h3, _⟩ := S.st
 exact h3.nt
theorem Nt.one_word {w : World} {lo s : Nat} {A : Option Addr} {n c a : Nat} (h : Nt w lo s (.slice A n c) a) (h0 : 0 < a) (h1 : a < 18446744073709551616) : n = 1 ∧ ∃ b o, A = some ⟨b, o, none⟩ ∧ w.cell? ⟨b, o, none⟩ = some (u64 a) := by
 obtain ⟨A', n', c', xs, e, hw, hv, _, hn⟩ := h
 cases e
 have hx : xs = [a] := M.val_inj hw.wds (by intro x hx; simp at hx; omega) hn (by simp [M.Nrm]; omega) (by rw [hv]; simp [M.val])
 subst hx
 have h2 := hw.num
 simp at h2
 subst h2
 obtain ⟨b, o, e, _, hc⟩ := hw.at_ (by omega)
 exact ⟨rfl, b, o, e, (hc 0 (by omega)).1⟩
theorem Nt.no_word {w : World} {lo s : Nat} {A : Option Addr} {n c : Nat} (h : Nt w lo s (.slice A n c) 0) : n = 0 := by
 obtain ⟨A', n', c', xs, e, hw, hv, _, hn⟩ := h
 cases e
 have : xs = [] := M.val_inj hw.wds M.Wds.nil hn M.Nrm.nil (by rw [hv]; rfl)
 subst this
 exact hw.num.symm
section
variable {Is : Nat → Nat → Nat → Thg}
set_option maxRecDepth 100000 in
theorem shown15_any (Q : Qui Is) (w : World) (TT : Hid (Tz w)) (TF : Hid (TabF w)) : Calls Tryz.prog 12 #[] w (True15 w) := by
 have S := Sd3.start (Up.refl w)
 go_enter Tryz.func12, Tryz.ntmps12
 go_wp2_with fail
 refine (Q.fresh_ TF.out (by first | exact S | exact S.pure ((Up.refl _).drew) | exact S.pure ((Up.refl _).drewN _)) (i := 1) (by decide) (by decide)).mono ?_
 clear S
 rintro _ w1 ⟨p, rfl, S⟩
 go_wp2_with fail
 refine (Q.none_ _ (TF.out.up (by first | exact S.up | exact S.up.drew | exact S.up.drewN _)) 5 (by decide)).mono ?_
 rintro _ w2 ⟨rfl, u⟩
 replace S := S.pure u
 go_wp2_with fail
 refine (Q.add_ TT.out TF.out (by first | exact S | exact S.pure ((Up.refl _).drew) | exact S.pure ((Up.refl _).drewN _)) 64 64 (by decide) (by decide) _ _ M.sh15_a).mono ?_
 clear S
 rintro _ w3 ⟨rfl, S⟩
 rw [M.sh15_e] at S
 go_wp2_with fail
 refine (Q.keep_ TT.out TF.out (by first | exact S | exact S.pure ((Up.refl _).drew) | exact S.pure ((Up.refl _).drewN _))).mono ?_
 clear S
 rintro _ w4 ⟨v, rfl, S⟩
 obtain ⟨A, n, c, rfl⟩ := S.sl
 go_wp2_with fail
 refine (Q.sub_ TT.out TF.out (by first | exact S | exact S.pure ((Up.refl _).drew) | exact S.pure ((Up.refl _).drewN _)) 64 72 (by decide) (by decide) _ _ M.sh15_b).mono ?_
 clear S
 rintro _ w5 ⟨rfl, S⟩
 rw [M.sh15_f] at S
 go_wp2_with fail
 refine (Q.posit_ TT.out TF.out (by first | exact S | exact S.pure ((Up.refl _).drew) | exact S.pure ((Up.refl _).drewN _)) _ M.sh15_g).mono ?_
 clear S
 rintro _ w6 ⟨rfl, S⟩
 go_wp2_with fail
 refine (Q.add_ TT.out TF.out (by first | exact S | exact S.pure ((Up.refl _).drew) | exact S.pure ((Up.refl _).drewN _)) 256 0 (by decide) (by decide) _ _ M.sh15_c).mono ?_
 clear S
 rintro _ w7 ⟨rfl, S⟩
 rw [M.sh15_h] at S
 go_wp2_with fail
 refine (Q.add_ TT.out TF.out (by first | exact S | exact S.pure ((Up.refl _).drew) | exact S.pure ((Up.refl _).drewN _)) 128 0 (by decide) (by decide) _ _ M.sh15_d).mono ?_
 clear S
 rintro _ w8 ⟨rfl, S⟩
 rw [M.qst_none] at S
 go_wp2_with fail
 refine (Q.nar_ TT.out TF.out (by first | exact S | exact S.pure ((Up.refl _).drew) | exact S.pure ((Up.refl _).drewN _)) true (decide_eq_true rfl)).mono ?_
 clear S
 rintro _ w9 ⟨rfl, S⟩
 go_wp2_with fail
 refine (Q.clear_ TT.out TF.out (by first | exact S | exact S.pure ((Up.refl _).drew) | exact S.pure ((Up.refl _).drewN _))).mono ?_
 clear S
 rintro _ w10 ⟨rfl, S⟩
 obtain ⟨rfl, b, o, rfl, hc⟩ := (S.nt).one_word (by decide) (by decide)
 go_wp2_with fail
 refine (Q.bits_ TT.out TF.out (by first | exact S | exact S.pure ((Up.refl _).drew) | exact S.pure ((Up.refl _).drewN _))).mono ?_
 clear S
 rintro _ w11 ⟨v, rfl, hn, u, S⟩
 obtain ⟨A, m, d, rfl⟩ : ∃ A m d, v = .slice A m d := by obtain ⟨A, m, d, _, e, _⟩ := hn; exact ⟨A, m, d, e⟩
 obtain rfl := hn.no_word
 clear hn u hc
 go_wp2_with fail
 refine (Q.size_ TT.out TF.out (by first | exact S | exact S.pure ((Up.refl _).drew) | exact S.pure ((Up.refl _).drewN _))).mono ?_
 clear S
 rintro _ w12 ⟨rfl, S⟩
 rw [M.qs1]
 go_wp2_with fail
 go_ret
 exact ⟨by first | rfl | simp, by first | exact S.up | exact S.up.drew | exact S.up.drewN _⟩
end
end Go.Proofs.YtijpffgocookaaaGreatDoor
