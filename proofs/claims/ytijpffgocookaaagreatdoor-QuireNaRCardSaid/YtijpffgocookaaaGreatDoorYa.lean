/-
  Layer 15: things that live in memory side by side, each in its own blocks; what is asked of package quire.
-/
import Derived.Test.YtijpffgocookaaaGreatDoorYb
import Derived.Test.YtijpffgocookaaaGreatDoorExa
import Derived.Test.YtijpffgocookaaaGreatDoorFoa
import Derived.Test.YtijpffgocookaaaGreatDoorTz
import Derived.Test.YtijpffgocookaaaGreatDoorObm
namespace Go.Proofs.YtijpffgocookaaaGreatDoor
open Go.RowKit Go.Shelf
set_option linter.unusedVariables false
set_option linter.unusedSimpArgs false

/-- A thing that lives in the blocks F of a world. -/
abbrev Thg := World → (Nat → Prop) → Prop
/-- Nothing but the blocks F, and new ones, has turned. -/
structure Fr (F : Nat → Prop) (w w' : World) : Prop where
  os : w'.os = w.os
  tape : w'.tape = w.tape
  output : w'.output = w.output
  size : w.heap.size ≤ w'.heap.size
  block : ∀ k, k < w.heap.size → ¬ F k → w'.heap[k]? = w.heap[k]?
theorem Fr.of_up {F : Nat → Prop} {w w' : World} (h : Up w w') : Fr F w w' := ⟨h.os, h.tape, h.output, Up.size h, fun k hk _ => Below.block h k hk⟩
theorem Fr.trans {F G : Nat → Prop} {w w' w'' : World} (h : Fr F w w') (g : Fr G w' w'') (hG : ∀ k, G k → F k ∨ w.heap.size ≤ k) : Fr F w w'' :=
  ⟨g.os.trans h.os, g.tape.trans h.tape, g.output.trans h.output, Nat.le_trans h.size g.size, fun k hk hf => (g.block k (Nat.lt_of_lt_of_le hk h.size) (fun e => by rcases hG k e with a | a; exact hf a; omega)).trans (h.block k hk hf)⟩
theorem Fr.up {F : Nat → Prop} {w0 w w' : World} (h : Fr F w w') (U : Up w0 w) (hF : ∀ k, F k → w0.heap.size ≤ k) : Up w0 w' := by
  have hs := Up.size U
  exact ⟨h.os.trans U.os, h.tape.trans U.tape, h.output.trans U.output, Nat.le_trans hs h.size, fun k hk => (h.block k (Nat.lt_of_lt_of_le hk hs) (fun e => by have := hF k e; omega)).trans (Below.block U k hk)⟩
theorem Fr.of_grown {q : Nat} {F : Nat → Prop} {w w' : World} (h : w.grownBy w' (some q)) (hq : F q) : Fr F w w' :=
  ⟨h.os, h.tape, h.output, h.size, fun k hk hf => h.block k hk (fun e => by injection e with e; subst e; exact hf hq)⟩
/-- It lies in blocks that are there, and stays as long as these are as they are. -/
structure Kpt (φ : Thg) : Prop where
  old : ∀ w F, φ w F → ∀ k, F k → k < w.heap.size
  keep : ∀ w w' F, φ w F → w.heap.size ≤ w'.heap.size → (∀ k, F k → w'.heap[k]? = w.heap[k]?) → φ w' F
/-- No thing. -/
def Non : Thg := fun _ F => ∀ k, ¬ F k
theorem Non.kpt : Kpt Non := ⟨fun _ _ h k hk => absurd hk (h k), fun _ _ _ h _ _ => h⟩
/-- A number's words. -/
def Nmb (s : Nat) (v : Value) (a : Nat) : Thg := fun w F => ∃ A n c xs, v = .slice A n c ∧ Wd w 0 A n c xs ∧ M.val xs = a ∧ n ≤ s ∧ M.Nrm xs ∧ ∀ k, F k ↔ 0 < n ∧ ∃ o, A = some ⟨k, o, none⟩
theorem Nmb.nt {s : Nat} {v : Value} {a : Nat} {w : World} {F : Nat → Prop} (h : Nmb s v a w F) : Nt w 0 s v a := by
  obtain ⟨A, n, c, xs, e, h1, h2, h3, h4, _⟩ := h
  exact ⟨A, n, c, xs, e, h1, h2, h3, h4⟩
theorem Nmb.of {w : World} {lo s : Nat} {v : Value} {a : Nat} (h : Nt w lo s v a) : ∃ F, Nmb s v a w F ∧ ∀ k, F k → lo ≤ k := by
  obtain ⟨A, n, c, xs, e, h1, h2, h3, h4⟩ := h
  refine ⟨fun k => 0 < n ∧ ∃ o, A = some ⟨k, o, none⟩, ⟨A, n, c, xs, e, h1.lower (Nat.zero_le _), h2, h3, h4, fun k => Iff.rfl⟩, fun k ⟨h0, o, ho⟩ => ?_⟩
  obtain ⟨b, o', e', hb, _⟩ := h1.at_ h0
  rw [ho] at e'
  injection e' with e'
  injection e' with e1 e2
  omega
theorem Nmb.kpt (s : Nat) (v : Value) (a : Nat) : Kpt (Nmb s v a) := by
  refine ⟨fun w F ⟨A, n, c, xs, e, h1, h2, h3, h4, h5⟩ k hk => ?_, fun w w' F ⟨A, n, c, xs, e, h1, h2, h3, h4, h5⟩ _ hb => ?_⟩
  · obtain ⟨h0, o, ho⟩ := (h5 k).1 hk
    obtain ⟨b, o', e', _, hc⟩ := h1.at_ h0
    have hlt := World.block_lt_of_cell? w _ (hc 0 h0).1
    rw [ho] at e'
    injection e' with e'
    injection e' with e1 e2
    subst e1
    exact hlt
  · refine ⟨A, n, c, xs, e, ⟨h1.num, h1.len, h1.small, h1.wds, fun h0 => ?_⟩, h2, h3, h4, h5⟩
    obtain ⟨b, o, e', hlo, hc⟩ := h1.at_ h0
    have hbk := hb b ((h5 b).2 ⟨h0, o, e'⟩)
    exact ⟨b, o, e', hlo, fun j hj => ⟨(World.cell?_of_block (w := w) (a := ⟨b, o + j, none⟩) hbk).trans (hc j hj).1, (World.frozen?_of_block (w := w) (a := ⟨b, o + j, none⟩) hbk).trans (hc j hj).2⟩⟩

/-- Three things side by side, in blocks that are new since w0, of which nothing has turned. -/
structure Sd3 (w0 w : World) (φ ψ χ : Thg) : Prop where
  st : ∃ F G H, φ w F ∧ ψ w G ∧ χ w H ∧ (∀ k, F k → ¬ G k) ∧ (∀ k, F k → ¬ H k) ∧ (∀ k, G k → ¬ H k) ∧ ∀ k, F k ∨ G k ∨ H k → w0.heap.size ≤ k
  up : Up w0 w
  k1 : Kpt φ
  k2 : Kpt ψ
  k3 : Kpt χ
section
variable {w0 w w' : World} {φ ψ χ φ' : Thg}
theorem Sd3.start (U : Up w0 w) : Sd3 w0 w Non Non Non :=
  ⟨⟨fun _ => False, fun _ => False, fun _ => False, fun _ h => h, fun _ h => h, fun _ h => h, fun _ h => h.elim, fun _ h => h.elim, fun _ h => h.elim, fun _ h => by rcases h with h | h | h <;> exact h.elim⟩, U, Non.kpt, Non.kpt, Non.kpt⟩
theorem Sd3.pure (S : Sd3 w0 w φ ψ χ) (u : Up w w') : Sd3 w0 w' φ ψ χ := by
  obtain ⟨F, G, H, h1, h2, h3, d⟩ := S.st
  have kp : ∀ {θ : Thg} {E : Nat → Prop}, Kpt θ → θ w E → θ w' E := fun k h => k.keep _ _ _ h (Up.size u) (fun j hj => Below.block u j (k.old _ _ h j hj))
  exact ⟨⟨F, G, H, kp S.k1 h1, kp S.k2 h2, kp S.k3 h3, d⟩, S.up.trans u, S.k1, S.k2, S.k3⟩
theorem Sd3.swap2 (S : Sd3 w0 w φ ψ χ) : Sd3 w0 w ψ φ χ := by
  obtain ⟨F, G, H, h1, h2, h3, d1, d2, d3, d4⟩ := S.st
  exact ⟨⟨G, F, H, h2, h1, h3, fun k a b => d1 k b a, d3, d2, fun k h => d4 k (by rcases h with h | h | h <;> simp [h])⟩, S.up, S.k2, S.k1, S.k3⟩
theorem Sd3.swap3 (S : Sd3 w0 w φ ψ χ) : Sd3 w0 w χ ψ φ := by
  obtain ⟨F, G, H, h1, h2, h3, d1, d2, d3, d4⟩ := S.st
  exact ⟨⟨H, G, F, h3, h2, h1, fun k a b => d3 k b a, fun k a b => d2 k b a, fun k a b => d1 k b a, fun k h => d4 k (by rcases h with h | h | h <;> simp [h])⟩, S.up, S.k3, S.k2, S.k1⟩
theorem Sd3.swap32 (S : Sd3 w0 w φ ψ χ) : Sd3 w0 w φ χ ψ := S.swap2.swap3.swap2
/-- What a call comes to that turns the thing of the blocks F to another one, and nothing else. -/
def Mu {α : Type} (F : Nat → Prop) (φ' : α → Thg) (r : α → Value) (w : World) (e : Ending) (w' : World) : Prop :=
  ∃ x, e = .returned (r x) ∧ ∃ F', φ' x w' F' ∧ Fr F w w' ∧ ∀ k, F' k → F k ∨ w.heap.size ≤ k
theorem Sd3.mutX {P : Program} {f : Nat} {args : Array Value} {α : Type} {φ' : α → Thg} {r : α → Value} (S : Sd3 w0 w φ ψ χ) (hk : ∀ x, Kpt (φ' x)) (h : ∀ F, φ w F → Calls P f args w (Mu F φ' r w)) :
    Calls P f args w (fun e w' => ∃ x, e = .returned (r x) ∧ Sd3 w0 w' (φ' x) ψ χ) := by
  obtain ⟨F, G, H, h1, h2, h3, d1, d2, d3, d4⟩ := S.st
  refine (h F h1).mono ?_
  rintro e w' ⟨x, rfl, F', g1, g2, g3⟩
  refine ⟨x, rfl, ⟨F', G, H, g1, ?_, ?_, ?_, ?_, d3, ?_⟩, g2.up S.up (fun k hk => d4 k (.inl hk)), hk x, S.k2, S.k3⟩
  · exact S.k2.keep _ _ _ h2 g2.size (fun k hk => g2.block k (S.k2.old _ _ h2 k hk) (fun e => d1 k e hk))
  · exact S.k3.keep _ _ _ h3 g2.size (fun k hk => g2.block k (S.k3.old _ _ h3 k hk) (fun e => d2 k e hk))
  · intro k a b
    rcases g3 k a with e | e
    · exact d1 k e b
    · have := S.k2.old _ _ h2 k b; omega
  · intro k a b
    rcases g3 k a with e | e
    · exact d2 k e b
    · have := S.k3.old _ _ h3 k b; omega
  · intro k a
    rcases a with a | a
    · rcases g3 k a with e | e
      · exact d4 k (.inl e)
      · have := Up.size S.up; omega
    · exact d4 k (.inr a)
/-- The same, of one answer. -/
theorem Sd3.mut {P : Program} {f : Nat} {args : Array Value} {r : Value} (S : Sd3 w0 w φ ψ χ) (hk : Kpt φ') (h : ∀ F, φ w F → Calls P f args w (Mu (α := Unit) F (fun _ => φ') (fun _ => r) w)) :
    Calls P f args w (fun e w' => e = .returned r ∧ Sd3 w0 w' φ' ψ χ) :=
  (S.mutX (φ' := fun _ : Unit => φ') (fun _ => hk) h).mono fun _ _ ⟨_, h1, h2⟩ => ⟨h1, h2⟩
/-- A fresh number takes an empty place. -/
theorem Sd3.num {P : Program} {f : Nat} {args : Array Value} {s a : Nat} {r : Value → Value} (S : Sd3 w0 w Non ψ χ) (h : Calls P f args w (fun e w' => ∃ v, e = .returned (r v) ∧ Nt w' w.heap.size s v a ∧ Up w w')) :
    Calls P f args w (fun e w' => ∃ v, e = .returned (r v) ∧ Sd3 w0 w' (Nmb s v a) ψ χ) :=
  S.mutX (φ' := fun v => Nmb s v a) (fun v => Nmb.kpt s v a) fun F hF => h.mono fun e w' ⟨v, h1, h2, h3⟩ => by
    obtain ⟨F', g1, g2⟩ := Nmb.of h2
    exact ⟨v, h1, F', g1, Fr.of_up h3, fun k hk => .inr (g2 k hk)⟩
/-- A thing is no longer asked for. -/
theorem Sd3.drop (S : Sd3 w0 w φ ψ χ) : Sd3 w0 w Non ψ χ := by
  obtain ⟨F, G, H, h1, h2, h3, d1, d2, d3, d4⟩ := S.st
  exact ⟨⟨fun _ => False, G, H, fun _ h => h, h2, h3, fun _ h => h.elim, fun _ h => h.elim, d3, fun k h => d4 k (by rcases h with h | h | h; exact h.elim; exact .inr (.inl h); exact .inr (.inr h))⟩, S.up, Non.kpt, S.k2, S.k3⟩
end

abbrev ptr (p : Nat) : Value := .pointer (some ⟨p, 0, none⟩)
/-- What is asked of package quire: the quire at p, of the form i, holds the bits b. -/
structure Qui (Is : Nat → Nat → Nat → Thg) : Prop where
  kpt : ∀ p i b, Kpt (Is p i b)
  rng : ∀ {p i b w F}, Is p i b w F → 1 ≤ i ∧ i ≤ 4 ∧ b < 2 ^ M.qS i
  new : ∀ (w : World), TabF w → ∀ i : Nat, 1 ≤ i → i ≤ 4 → ∀ F : Nat → Prop, Calls Tryz.prog 13 #[.int .i64 (i : Int)] w (Mu F (fun p => Is p i 0) (fun p => .tuple #[ptr p, .int .i64 0]) w)
  none_ : ∀ (w : World), TabF w → ∀ ii : Int, ¬ (1 ≤ ii ∧ ii ≤ 4) → Calls Tryz.prog 13 #[.int .i64 ii] w (fun e w' => e = .returned (.tuple #[.pointer none, .int .i64 3]) ∧ Up w w')
  size : ∀ {p i b w F}, Is p i b w F → Tz w → TabF w → Calls Tryz.prog 37 #[ptr p] w (fun e w' => e = .returned (.int .i64 (M.qS i : Int)) ∧ Up w w')
  bits : ∀ {p i b w F}, Is p i b w F → Tz w → TabF w → Calls Tryz.prog 30 #[ptr p] w (fun e w' => ∃ v, e = .returned v ∧ Nt w' w.heap.size 20 v b ∧ Up w w')
  set : ∀ {p i b w F}, Is p i b w F → Tz w → TabF w → ∀ (lo : Nat) (A : Option Addr) (n c : Nat) (xs : List Nat), Wd w lo A n c xs → n ≤ 20 → ∀ b' x, M.Qs i (M.val xs) b b' x →
    Calls Tryz.prog 25 #[ptr p, .slice A n c] w (Mu (α := Unit) F (fun _ => Is p i b') (fun _ => .int .i64 x) w)
  nar : ∀ {p i b w F}, Is p i b w F → Tz w → TabF w → ∀ r, decide (b = M.qn i) = r → Calls Tryz.prog 32 #[ptr p] w (fun e w' => e = .returned (.bool r) ∧ Up w w')
  value : ∀ {p i b w F}, Is p i b w F → Tz w → TabF w → b ≠ M.qn i → ∀ s N t f, M.Qv i b s N t f → Calls Tryz.prog 28 #[ptr p] w (Xo s 20 N t f true w)
  value_ : ∀ {p i b w F}, Is p i b w F → Tz w → TabF w → b = M.qn i → Calls Tryz.prog 28 #[ptr p] w (Xo false 0 0 0 0 false w)
  clear : ∀ {p i b w F}, Is p i b w F → Tz w → TabF w → Calls Tryz.prog 21 #[ptr p] w (Mu (α := Unit) F (fun _ => Is p i 0) (fun _ => .tuple #[]) w)
  neg : ∀ {p i b w F}, Is p i b w F → Tz w → TabF w → Calls Tryz.prog 19 #[ptr p] w (Mu (α := Unit) F (fun _ => Is p i (M.ng (2 ^ M.qS i) b)) (fun _ => .tuple #[]) w)
  add : ∀ {p i b w F}, Is p i b w F → Tz w → TabF w → ∀ a c : Nat, a < 18446744073709551616 → c < 18446744073709551616 → ∀ o x, M.Qa i a c o x →
    Calls Tryz.prog 16 #[ptr p, u64 a, u64 c] w (Mu (α := Unit) F (fun _ => Is p i (M.qst i b o)) (fun _ => .int .i64 x) w)
  sub : ∀ {p i b w F}, Is p i b w F → Tz w → TabF w → ∀ a c : Nat, a < 18446744073709551616 → c < 18446744073709551616 → ∀ o x, M.Qa i a c o x →
    Calls Tryz.prog 18 #[ptr p, u64 a, u64 c] w (Mu (α := Unit) F (fun _ => Is p i (M.qst i b (M.tk i true o))) (fun _ => .int .i64 x) w)
  load : ∀ {p i b w F}, Is p i b w F → Tz w → TabF w → ∀ (lo : Nat) (s : Bool) (v : Value) (a : Nat) (t f : Int), Nt w lo 20 v a → -600 ≤ t ∧ t ≤ 600 → -600 ≤ f ∧ f ≤ 600 → ∀ b' x, M.Qld i s a t f b b' x →
    Calls Tryz.prog 22 #[ptr p, xv s v t f] w (Mu (α := Unit) F (fun _ => Is p i b') (fun _ => .int .i64 x) w)
  posit : ∀ {p i b w F}, Is p i b w F → Tz w → TabF w → ∀ q : Int, M.Qp i b q → Calls Tryz.prog 33 #[ptr p] w (fun e w' => e = .returned (.int .u64 q) ∧ Up w w')

/-! The same, of three things side by side. -/
section
variable {Is : Nat → Nat → Nat → Thg} {w0 w : World} {ψ χ : Thg} {p i b : Nat}
theorem Qui.fresh_ (Q : Qui Is) (TF : TabF w0) (S : Sd3 w0 w Non ψ χ) (i1 : 1 ≤ i) (i2 : i ≤ 4) : Calls Tryz.prog 13 #[.int .i64 (i : Int)] w (fun e w' => ∃ p, e = .returned (.tuple #[ptr p, .int .i64 0]) ∧ Sd3 w0 w' (Is p i 0) ψ χ) :=
  S.mutX (fun p => Q.kpt p i 0) fun F _ => Q.new w (TF.up S.up) i i1 i2 F
/-- A call that only reads. -/
theorem Sd3.read {P : Program} {f : Nat} {args : Array Value} {R : Ending → World → Prop} {φ : Thg} (S : Sd3 w0 w φ ψ χ) (h : ∀ F, φ w F → Calls P f args w (fun e w' => R e w' ∧ Up w w')) : Calls P f args w (fun e w' => R e w' ∧ Sd3 w0 w' φ ψ χ) := by
  obtain ⟨F, G, H, h1, _⟩ := S.st
  exact (h F h1).mono fun _ _ ⟨a, u⟩ => ⟨a, S.pure u⟩
theorem Qui.size_ (Q : Qui Is) (TT : Tz w0) (TF : TabF w0) (S : Sd3 w0 w (Is p i b) ψ χ) : Calls Tryz.prog 37 #[ptr p] w (fun e w' => e = .returned (.int .i64 (M.qS i : Int)) ∧ Sd3 w0 w' (Is p i b) ψ χ) :=
  S.read fun F h => Q.size h (TT.up S.up) (TF.up S.up)
theorem Qui.nar_ (Q : Qui Is) (TT : Tz w0) (TF : TabF w0) (S : Sd3 w0 w (Is p i b) ψ χ) (r : Bool) (hr : decide (b = M.qn i) = r) : Calls Tryz.prog 32 #[ptr p] w (fun e w' => e = .returned (.bool r) ∧ Sd3 w0 w' (Is p i b) ψ χ) :=
  S.read fun F h => Q.nar h (TT.up S.up) (TF.up S.up) r hr
theorem Qui.posit_ (Q : Qui Is) (TT : Tz w0) (TF : TabF w0) (S : Sd3 w0 w (Is p i b) ψ χ) (q : Int) (hq : M.Qp i b q) : Calls Tryz.prog 33 #[ptr p] w (fun e w' => e = .returned (.int .u64 q) ∧ Sd3 w0 w' (Is p i b) ψ χ) :=
  S.read fun F h => Q.posit h (TT.up S.up) (TF.up S.up) q hq
/-- Bits that are looked at, and then forgotten: what they are lasts as long as nothing else turns. -/
theorem Qui.bits_ (Q : Qui Is) (TT : Tz w0) (TF : TabF w0) (S : Sd3 w0 w (Is p i b) ψ χ) : Calls Tryz.prog 30 #[ptr p] w (fun e w' => ∃ v, e = .returned v ∧ Nt w' w.heap.size 20 v b ∧ Up w w' ∧ Sd3 w0 w' (Is p i b) ψ χ) := by
  obtain ⟨F, G, H, h1, _⟩ := S.st
  exact (Q.bits h1 (TT.up S.up) (TF.up S.up)).mono fun _ _ ⟨v, a, n, u⟩ => ⟨v, a, n, u, S.pure u⟩
/-- Bits that are kept, in an empty place. -/
theorem Qui.keep_ (Q : Qui Is) (TT : Tz w0) (TF : TabF w0) (S : Sd3 w0 w (Is p i b) ψ Non) : Calls Tryz.prog 30 #[ptr p] w (fun e w' => ∃ v, e = .returned v ∧ Sd3 w0 w' (Is p i b) ψ (Nmb 20 v b)) := by
  obtain ⟨F, G, H, h1, _⟩ := S.st
  exact (S.swap3.num (r := fun v => v) (Q.bits h1 (TT.up S.up) (TF.up S.up))).mono fun _ _ ⟨v, a, n⟩ => ⟨v, a, n.swap3⟩
theorem Qui.clear_ (Q : Qui Is) (TT : Tz w0) (TF : TabF w0) (S : Sd3 w0 w (Is p i b) ψ χ) : Calls Tryz.prog 21 #[ptr p] w (fun e w' => e = .returned (.tuple #[]) ∧ Sd3 w0 w' (Is p i 0) ψ χ) :=
  S.mut (Q.kpt _ _ _) fun F h => Q.clear h (TT.up S.up) (TF.up S.up)
theorem Qui.neg_ (Q : Qui Is) (TT : Tz w0) (TF : TabF w0) (S : Sd3 w0 w (Is p i b) ψ χ) : Calls Tryz.prog 19 #[ptr p] w (fun e w' => e = .returned (.tuple #[]) ∧ Sd3 w0 w' (Is p i (M.ng (2 ^ M.qS i) b)) ψ χ) :=
  S.mut (Q.kpt _ _ _) fun F h => Q.neg h (TT.up S.up) (TF.up S.up)
theorem Qui.add_ (Q : Qui Is) (TT : Tz w0) (TF : TabF w0) (S : Sd3 w0 w (Is p i b) ψ χ) (a c : Nat) (ha : a < 18446744073709551616) (hc : c < 18446744073709551616) (o : Option Nat) (x : Int) (h : M.Qa i a c o x) : Calls Tryz.prog 16 #[ptr p, u64 a, u64 c] w (fun e w' => e = .returned (.int .i64 x) ∧ Sd3 w0 w' (Is p i (M.qst i b o)) ψ χ) :=
  S.mut (Q.kpt _ _ _) fun F hi => Q.add hi (TT.up S.up) (TF.up S.up) a c ha hc o x h
theorem Qui.sub_ (Q : Qui Is) (TT : Tz w0) (TF : TabF w0) (S : Sd3 w0 w (Is p i b) ψ χ) (a c : Nat) (ha : a < 18446744073709551616) (hc : c < 18446744073709551616) (o : Option Nat) (x : Int) (h : M.Qa i a c o x) : Calls Tryz.prog 18 #[ptr p, u64 a, u64 c] w (fun e w' => e = .returned (.int .i64 x) ∧ Sd3 w0 w' (Is p i (M.qst i b (M.tk i true o))) ψ χ) :=
  S.mut (Q.kpt _ _ _) fun F hi => Q.sub hi (TT.up S.up) (TF.up S.up) a c ha hc o x h
theorem Qui.set_ (Q : Qui Is) (TT : Tz w0) (TF : TabF w0) (S : Sd3 w0 w (Is p i b) ψ χ) (lo : Nat) (A : Option Addr) (n c : Nat) (xs : List Nat) (hw : Wd w lo A n c xs) (hn : n ≤ 20) (b' : Nat) (x : Int) (h : M.Qs i (M.val xs) b b' x) : Calls Tryz.prog 25 #[ptr p, .slice A n c] w (fun e w' => e = .returned (.int .i64 x) ∧ Sd3 w0 w' (Is p i b') ψ χ) :=
  S.mut (Q.kpt _ _ _) fun F hi => Q.set hi (TT.up S.up) (TF.up S.up) lo A n c xs hw hn b' x h
theorem Qui.load_ (Q : Qui Is) (TT : Tz w0) (TF : TabF w0) (S : Sd3 w0 w (Is p i b) ψ χ) (lo : Nat) (s : Bool) (v : Value) (a : Nat) (t f : Int) (hw : Nt w lo 20 v a) (ht : -600 ≤ t ∧ t ≤ 600) (hf : -600 ≤ f ∧ f ≤ 600) (b' : Nat) (x : Int) (h : M.Qld i s a t f b b' x) : Calls Tryz.prog 22 #[ptr p, xv s v t f] w (fun e w' => e = .returned (.int .i64 x) ∧ Sd3 w0 w' (Is p i b') ψ χ) :=
  S.mut (Q.kpt _ _ _) fun F hi => Q.load hi (TT.up S.up) (TF.up S.up) lo s v a t f hw ht hf b' x h
theorem Qui.valok_ (Q : Qui Is) (TT : Tz w0) (TF : TabF w0) (S : Sd3 w0 w (Is p i b) ψ χ) (hb : b ≠ M.qn i) (s : Bool) (N : Nat) (t f : Int) (h : M.Qv i b s N t f) : Calls Tryz.prog 28 #[ptr p] w (fun e w' => ∃ v, e = .returned (.tuple #[xv s v t f, .bool true]) ∧ Nt w' w.heap.size 20 v N ∧ Up w w' ∧ Sd3 w0 w' (Is p i b) ψ χ) := by
  obtain ⟨F, G, H, h1, _⟩ := S.st
  exact (Q.value h1 (TT.up S.up) (TF.up S.up) hb s N t f h).mono fun _ _ ⟨v, a, n, u⟩ => ⟨v, a, n, u, S.pure u⟩
theorem Qui.valno_ (Q : Qui Is) (TT : Tz w0) (TF : TabF w0) (S : Sd3 w0 w (Is p i b) ψ χ) (hb : b = M.qn i) : Calls Tryz.prog 28 #[ptr p] w (fun e w' => ∃ v, e = .returned (.tuple #[xv false v 0 0, .bool false]) ∧ Nt w' w.heap.size 0 v 0 ∧ Up w w' ∧ Sd3 w0 w' (Is p i b) ψ χ) := by
  obtain ⟨F, G, H, h1, _⟩ := S.st
  exact (Q.value_ h1 (TT.up S.up) (TF.up S.up) hb).mono fun _ _ ⟨v, a, n, u⟩ => ⟨v, a, n, u, S.pure u⟩
theorem Qui.rng_ (Q : Qui Is) (S : Sd3 w0 w (Is p i b) ψ χ) : 1 ≤ i ∧ i ≤ 4 ∧ b < 2 ^ M.qS i := by
  obtain ⟨F, G, H, h1, _⟩ := S.st
  exact Q.rng h1
end
end Go.Proofs.YtijpffgocookaaaGreatDoor
