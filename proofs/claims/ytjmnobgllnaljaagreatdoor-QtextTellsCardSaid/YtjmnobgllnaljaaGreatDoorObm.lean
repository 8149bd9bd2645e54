/-
  Whole variables in memory: their blocks, stores into them, and what stays beside them.
-/
import Derived.Test.YtjmnobgllnaljaaGreatDoorMem
import Derived.OwnWalk
import Derived.Below
import Derived.Laws.Tables
namespace Go.Proofs.YtjmnobgllnaljaaGreatDoor
open Go.RowKit

section
variable {w w' : World} {b : Nat} {ty : TypeId} {cs : Array Value}
/-- A variable's whole block, which may be written. -/
def Ob (w : World) (b : Nat) (ty : TypeId) (cs : Array Value) : Prop := w.heap[b]? = some (.cells cs ty (0, 0))
theorem Ob.mk_ (w : World) (ty : TypeId) (cs : Array Value) : Ob (w.alloc (.cells cs ty)) w.heap.size ty cs := by
  show (w.heap.push _)[w.heap.size]? = _
  exact Array.getElem?_push_size
theorem Ob.lt (h : Ob w b ty cs) : b < w.heap.size := (Array.getElem?_eq_some_iff.1 h).1
theorem Ob.up (h : Ob w b ty cs) (hu : Up w w') : Ob w' b ty cs := (Below.block hu b h.lt).trans h
theorem Ob.get (h : Ob w b ty cs) (i : Nat) : w.cell? ⟨b, i, none⟩ = cs[i]? := by
  unfold Ob at h
  simp [World.cell?, h]
theorem Ob.fr (h : Ob w b ty cs) (i : Nat) : w.frozen? ⟨b, i, none⟩ = false := by
  unfold Ob at h
  simp [World.frozen?, h]
theorem Ob.other {b' i : Nat} (h : Ob w b ty cs) (hne : b ≠ b') (v : Value) : Ob (w.setCell ⟨b', i, none⟩ v) b ty cs :=
  (Below.heap_setCell w ⟨b', i, none⟩ v b hne).trans h
theorem Ob.drewN (h : Ob w b ty cs) (k : Nat) : Ob (w.drewN k) b ty cs := h
theorem Ob.put (h : Ob w b ty cs) (i : Nat) (v : Value) : Ob (w.setCell ⟨b, i, none⟩ v) b ty (cs.setIfInBounds i v) := by
  unfold Ob at h ⊢
  rw [setCell_eq_setRow w b i _ ty (0, 0) _ h, setRow_heap w b _ _ ty _ h]
theorem Up.setRow_ (h : Up w w') {b : Nat} (hb : w.heap.size ≤ b) (cs : Array Value) : Up w (w'.setRow b cs) :=
  ⟨h.os, h.tape, h.output, by have := h.size; simpa [World.setRow] using this, fun k hk => (setRow_other w' b k cs (by omega)).trans (h.block k hk)⟩
end
/-- A whole variable is stored. -/
theorem store_ob {P : Program} {ops : Array Oper} {rest : List Oper} {o : Oper} {a : Act} {w : World} {Q : Exit → Act → World → Prop} (hgd : o.guard = none) (ty : TypeId) (x y : Operand) (ho : o.op = .store ty x y)
    (g : Nat) (cs cs' : Array Value) (hx : a.eval x = .pointer (some ⟨g, 0, none⟩)) (hy : a.eval y = .agg cs') (N : Nat) (hi : (P.info? ty).map (·.size) = some N) (hN : cs'.size = N) (hs : cs.size = N) (h1 : cs'.all (·.oneCell') = true)
    (w0 : World) (U : Up w0 w) (hb : w0.heap.size ≤ g) (t : TypeId) (hB : Ob w g t cs)
    (h : ∀ V, Ob V g t cs' → Up w0 V → wpList P ops Q rest (a.put o.dst undef) V) : wpList P ops Q (o :: rest) a w :=
  wpList_store_row hgd ty x y ho g _ hx hy t _ hB (hi.trans (by rw [hN])) (hs.trans hN.symm) h1 (h _ (setRow_heap w g _ _ t _ hB) (U.setRow_ hb _))
/-- Nothing has turned but what the blocks b and b' hold, and what is new. -/
structure Kb (b b' : Nat) (w w' : World) : Prop where
  os : w'.os = w.os
  tape : w'.tape = w.tape
  output : w'.output = w.output
  size : w.heap.size ≤ w'.heap.size
  block : ∀ k, k < w.heap.size → k ≠ b → k ≠ b' → w'.heap[k]? = w.heap[k]?
theorem Kb.of_up {b b' : Nat} {w w' : World} (h : Up w w') : Kb b b' w w' := ⟨h.os, h.tape, h.output, Up.size h, fun k hk _ _ => Below.block h k hk⟩
theorem Kb.trans {b b' : Nat} {w w' w'' : World} (h : Kb b b' w w') (g : Kb b b' w' w'') : Kb b b' w w'' :=
  ⟨g.os.trans h.os, g.tape.trans h.tape, g.output.trans h.output, Nat.le_trans h.size g.size, fun k hk h1 h2 => (g.block k (Nat.lt_of_lt_of_le hk h.size) h1 h2).trans (h.block k hk h1 h2)⟩
theorem Kb.up {b b' : Nat} {w0 w w' : World} (h : Kb b b' w w') (U : Up w0 w) (h1 : w0.heap.size ≤ b) (h2 : w0.heap.size ≤ b') : Up w0 w' := by
  have hs := Up.size U
  exact ⟨h.os.trans U.os, h.tape.trans U.tape, h.output.trans U.output, Nat.le_trans hs h.size, fun k hk => (h.block k (Nat.lt_of_lt_of_le hk hs) (by omega) (by omega)).trans (Below.block U k hk)⟩
theorem Kb.setNew {b b' : Nat} {w w' : World} (h : Kb b b' w w') {p : Addr} (hp : w.heap.size ≤ p.block) (v : Value) : Kb b b' w (w'.setCell p v) :=
  ⟨h.os, h.tape, h.output, (show w.heap.size ≤ (w'.setCell p v).heap.size by simp [World.setCell]; exact h.size), fun k hk h1 h2 => (Below.heap_setCell _ _ _ _ (by omega)).trans (h.block k hk h1 h2)⟩

theorem Kb.cell {b b' : Nat} {w w' : World} (h : Kb b b' w w') {p : Addr} (hp : p.block < w.heap.size) (h1 : p.block ≠ b) (h2 : p.block ≠ b') : w'.cell? p = w.cell? p := World.cell?_of_block (w := w) (h.block p.block hp h1 h2)
theorem Kb.frozen {b b' : Nat} {w w' : World} (h : Kb b b' w w') {p : Addr} (hp : p.block < w.heap.size) (h1 : p.block ≠ b) (h2 : p.block ≠ b') : w'.frozen? p = w.frozen? p := World.frozen?_of_block (w := w) (h.block p.block hp h1 h2)
theorem Kb.setIn {b b' : Nat} {w w' : World} (h : Kb b b' w w') {p : Addr} (hp : p.block = b ∨ p.block = b') (v : Value) : Kb b b' w (w'.setCell p v) :=
  ⟨h.os, h.tape, h.output, (show w.heap.size ≤ (w'.setCell p v).heap.size by simp [World.setCell]; exact h.size), fun k hk h1 h2 => (Below.heap_setCell _ _ _ _ (by rcases hp with e | e <;> rw [e] <;> assumption)).trans (h.block k hk h1 h2)⟩
section
variable {w V : World} {g : Nat}
theorem store_ob2 {P : Program} {ops : Array Oper} {rest : List Oper} {o : Oper} {a : Act} {w : World} {Q : Exit → Act → World → Prop} (hgd : o.guard = none) (ty : TypeId) (x y : Operand) (ho : o.op = .store ty x y)
    (g : Nat) (cs cs' : Array Value) (hx : a.eval x = .pointer (some ⟨g, 0, none⟩)) (hy : a.eval y = .agg cs') (N : Nat) (hi : (P.info? ty).map (·.size) = some N) (hN : cs'.size = N) (hs : cs.size = N) (h1 : cs'.all (·.oneCell') = true)
    (w0 : World) (U : Up w0 w) (hb : w0.heap.size ≤ g) (t : TypeId) (hB : Ob w g t cs)
    (h : ∀ V, Ob V g t cs' → Up w0 V → (∀ b', b' ≠ g → V.heap[b']? = w.heap[b']?) → wpList P ops Q rest (a.put o.dst undef) V) : wpList P ops Q (o :: rest) a w :=
  wpList_store_row hgd ty x y ho g _ hx hy t _ hB (hi.trans (by rw [hN])) (hs.trans hN.symm) h1 (h _ (setRow_heap w g _ _ t _ hB) (U.setRow_ hb _) (fun b' hne => setRow_other w g b' _ hne))
theorem Nt.other {lo s : Nat} {v : Value} {a : Nat} (h : Nt w lo s v a) (ho : ∀ b', b' ≠ g → V.heap[b']? = w.heap[b']?) (hg : g < lo) : Nt V lo s v a := by
  obtain ⟨A, n, c, xs, e, h1, h2⟩ := h
  exact ⟨A, n, c, xs, e, h1.keep (fun p _ hp => ⟨World.cell?_of_block (w := w) (ho p.block (by omega)), World.frozen?_of_block (w := w) (ho p.block (by omega))⟩), h2⟩
theorem Ob.oth {b : Nat} {ty : TypeId} {cs : Array Value} (h : Ob w b ty cs) (ho : ∀ b', b' ≠ g → V.heap[b']? = w.heap[b']?) (hg : b ≠ g) : Ob V b ty cs := (ho b hg).trans h
end
end Go.Proofs.YtjmnobgllnaljaaGreatDoor
