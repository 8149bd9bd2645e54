import Derived.Test.YtijpffgocookaaaGreatDoorQWMath2
import Derived.Test.YtijpffgocookaaaGreatDoorProg
import Derived.WalkKit
import Derived.WalkSpells
import Derived.WalkLawsBesides
import Derived.Lib.Hide
import Derived.Deep.Draws
import Derived.Deep.QuietTactic
import Derived.BigQuiet
import Derived.OwnWalk
import Derived.Below
import Derived.Laws.Tables
set_option maxHeartbeats 32000000
set_option linter.unusedVariables false
set_option linter.unusedSimpArgs false
namespace Go.Proofs.YtijpffgocookaaaGreatDoor
open Go.RowKit
theorem ret_int {k : IntKind} {a b : Int} (h : a = b) : Ending.returned (.int k a) = .returned (.int k b) := by rw [h]
theorem ret_bool {a b : Bool} (h : a = b) : Ending.returned (.bool a) = .returned (.bool b) := by rw [h]
abbrev u64 (x : Nat) : Value := .int .u64 (x : Int)
def lenOf : Value → Nat | .slice _ k _ => k | _ => 0
structure Wd (w : World) (lo : Nat) (A : Option Addr) (n c : Nat) (xs : List Nat) : Prop where
 num : xs.length = n
 len : n ≤ c
 small : n ≤ 1099511627776
 wds : M.Wds xs
 at_ : 0 < n → ∃ b o, A = some ⟨b, o, none⟩ ∧ lo ≤ b ∧ ∀ j, j < n → w.cell? ⟨b, o + j, none⟩ = some (u64 (xs.getD j 0)) ∧ w.frozen? ⟨b, o + j, none⟩ = false
def Up (w w' : World) : Prop := Below w.heap.size w w'
section
variable {w w' w'' : World} {lo n c : Nat} {A : Option Addr} {xs : List Nat}
theorem Up.refl (w : World) : Up w w := Below.refl _ _
theorem Up.trans (h : Up w w') (k : Up w' w'') : Up w w'' := Below.trans h (Below.mono k h.size)
theorem Up.size (h : Up w w') : w.heap.size ≤ w'.heap.size := Below.size h
theorem Up.drewN (h : Up w w') (k : Nat) : Up w (w'.drewN k) := ⟨h.os, h.tape, h.output, (show w.heap.size ≤ w'.heap.size from Up.size h), h.block⟩
theorem Up.drew (h : Up w w') : Up w w'.drew := Below.drew h
theorem Up.alloc (h : Up w w') (o : Obj) : Up w (w'.alloc o) := Below.alloc h h.size o
theorem Up.al {w V : World} {o : Obj} (h : w.alloc o = V) : Up w V := h ▸ Below.alloc (Below.refl _ _) (Nat.le_refl _) o
theorem Up.setCell (h : Up w w') {p : Addr} (hp : w.heap.size ≤ p.block) (u : Value) : Up w (w'.setCell p u) := Below.setCell h hp u
theorem Up.grown (h : Up w w') {row : Option Nat} (hg : w'.grownBy w'' row) (hr : ∀ k, row = some k → w.heap.size ≤ k) : Up w w'' := Below.grown h hg h.size hr
theorem Wd.keep (h : Wd w lo A n c xs) (hk : ∀ p : Addr, p.block < w.heap.size → lo ≤ p.block → w'.cell? p = w.cell? p ∧ w'.frozen? p = w.frozen? p) : Wd w' lo A n c xs :=
 ⟨h.num, h.len, h.small, h.wds, fun hn => by
  obtain ⟨b, o, e, hb, hc⟩ := h.at_ hn
  refine ⟨b, o, e, hb, fun j hj => ?_⟩
  obtain ⟨h1, h2⟩ := hc j hj
  have hlt := World.block_lt_of_cell? w _ h1
  obtain ⟨k1, k2⟩ := hk ⟨b, o + j, none⟩ hlt hb
  exact ⟨k1.trans h1, k2.trans h2⟩⟩
theorem Wd.up (h : Wd w lo A n c xs) (hb : Up w w') : Wd w' lo A n c xs :=
 h.keep fun _ hp _ => ⟨Below.cell hb hp, Below.frozen hb hp⟩
theorem Wd.lower {lo' : Nat} (h : Wd w lo A n c xs) (hl : lo' ≤ lo) : Wd w lo' A n c xs :=
 ⟨h.num, h.len, h.small, h.wds, fun hn => by
  obtain ⟨b, o, e, hb, hc⟩ := h.at_ hn
  exact ⟨b, o, e, Nat.le_trans hl hb, hc⟩⟩
theorem Wd.drewN (h : Wd w lo A n c xs) (k : Nat) : Wd (w.drewN k) lo A n c xs := h.up ((Up.refl w).drewN k)
theorem Wd.take (h : Wd w lo A n c xs) {m : Nat} (hm : m ≤ n) : Wd w lo A m c (xs.take m) := by
 have hl : (xs.take m).length = m := by rw [List.length_take, h.num, Nat.min_eq_left hm]
 refine ⟨hl, by have := h.len; omega, by have := h.small; omega, h.wds.take m, fun hn => ?_⟩
 obtain ⟨b, o, e, hb, hc⟩ := h.at_ (by omega)
 refine ⟨b, o, e, hb, fun j hj => ?_⟩
 obtain ⟨h1, h2⟩ := hc j (by omega)
 refine ⟨?_, h2⟩
 rw [h1, List.getD_eq_getElem?_getD, List.getD_eq_getElem?_getD, List.getElem?_take_of_lt (by omega)]
theorem Wd.nil (w : World) (lo : Nat) (A : Option Addr) (c : Nat) : Wd w lo A 0 c [] :=
 ⟨rfl, by omega, by omega, M.Wds.nil, fun h => by omega⟩
def Nw (w : World) (lo s : Nat) (v : Value) (a : Nat) : Prop := ∃ A n c xs, v = .slice A n c ∧ Wd w lo A n c xs ∧ M.val xs = a ∧ n ≤ s
def Nt (w : World) (lo s : Nat) (v : Value) (a : Nat) : Prop := ∃ A n c xs, v = .slice A n c ∧ Wd w lo A n c xs ∧ M.val xs = a ∧ n ≤ s ∧ M.Nrm xs
variable {v : Value} {a s : Nat}
theorem Nt.nw (h : Nt w lo s v a) : Nw w lo s v a := by
 obtain ⟨A, n, c, xs, e, h1, h2, h3, _⟩ := h
 exact ⟨A, n, c, xs, e, h1, h2, h3⟩
theorem Nw.up (h : Nw w lo s v a) (hb : Up w w') : Nw w' lo s v a := by
 obtain ⟨A, n, c, xs, e, h1, h2⟩ := h
 exact ⟨A, n, c, xs, e, h1.up hb, h2⟩
theorem Nt.up (h : Nt w lo s v a) (hb : Up w w') : Nt w' lo s v a := by
 obtain ⟨A, n, c, xs, e, h1, h2⟩ := h
 exact ⟨A, n, c, xs, e, h1.up hb, h2⟩
theorem Nt.lower {lo' : Nat} (h : Nt w lo s v a) (hl : lo' ≤ lo) : Nt w lo' s v a := by
 obtain ⟨A, n, c, xs, e, h1, h2⟩ := h
 exact ⟨A, n, c, xs, e, h1.lower hl, h2⟩
theorem Nw.more {s' : Nat} (h : Nw w lo s v a) (hs : s ≤ s') : Nw w lo s' v a := by
 obtain ⟨A, n, c, xs, e, h1, h2, h3⟩ := h
 exact ⟨A, n, c, xs, e, h1, h2, Nat.le_trans h3 hs⟩
theorem Nt.more {s' : Nat} (h : Nt w lo s v a) (hs : s ≤ s') : Nt w lo s' v a := by
 obtain ⟨A, n, c, xs, e, h1, h2, h3, h4⟩ := h
 exact ⟨A, n, c, xs, e, h1, h2, Nat.le_trans h3 hs, h4⟩
theorem Nt.fit {k : Nat} (h : Nt w lo s v a) (hk : a < 18446744073709551616 ^ k) : Nt w lo k v a := by
 obtain ⟨A, n, c, xs, e, h1, h2, h3, h4⟩ := h
 refine ⟨A, n, c, xs, e, h1, h2, ?_, h4⟩
 rw [← h1.num]
 exact M.len_of_lt h4 (by rw [h2]; exact hk)
theorem Nt.nil (w : World) (lo s : Nat) : Nt w lo s (.slice none 0 0) 0 := ⟨none, 0, 0, [], rfl, Wd.nil w lo none 0, rfl, Nat.zero_le _, M.Nrm.nil⟩
def Val (v : Value) (w : World) (e : Ending) (w' : World) : Prop := e = .returned v ∧ ∃ k, w' = w.drewN k
def Same (v : Value) (w : World) (e : Ending) (w' : World) : Prop := e = .returned v ∧ w = w'
def Res (s a : Nat) (w : World) (e : Ending) (w' : World) : Prop := ∃ v, e = .returned v ∧ Nt w' w.heap.size s v a ∧ Up w w'
def Opt (s a : Nat) (is : Bool) (w : World) (e : Ending) (w' : World) : Prop := ∃ v, e = .returned (.tuple #[v, .bool is]) ∧ Nt w' w.heap.size s v a ∧ Up w w'
theorem Same.quiet {P : Program} {f : FuncId} {args : Array Value} {w : World} {n : Nat} {v : Value}
  (h : Calls P f args (w.drewN n) (Same v (w.drewN n))) : Calls P f args (w.drewN n) fun e w'' => e = .returned v ∧ ∃ m, w'' = w.drewN m :=
 h.mono fun _ _ ⟨he, hm⟩ => ⟨he, n, hm.symm⟩
theorem Same.quiet2 {P : Program} {f : FuncId} {args : Array Value} {w : World} {a n : Nat} {v : Value}
  (h : Calls P f args (w.drewN (a + n)) (Same v (w.drewN (a + n)))) : Calls P f args (w.drewN (a + n)) fun e w'' => e = .returned v ∧ ∃ m, w'' = w.drewN (a + m) :=
 h.mono fun _ _ ⟨he, hm⟩ => ⟨he, n, hm.symm⟩
theorem Val.quiet2 {P : Program} {f : FuncId} {args : Array Value} {w : World} {a n : Nat} {v : Value}
  (h : Calls P f args (w.drewN (a + n)) (Val v (w.drewN (a + n)))) : Calls P f args (w.drewN (a + n)) fun e w'' => e = .returned v ∧ ∃ m, w'' = w.drewN (a + m) :=
 h.mono fun _ _ ⟨he, m, hm⟩ => ⟨he, n + m, by rw [hm, World.drewN_drewN, Nat.add_assoc]⟩
end
end Go.Proofs.YtijpffgocookaaaGreatDoor
namespace Go.Proofs.YtijpffgocookaaaGreatDoor
open Go.RowKit
def Trimmed (lo : Nat) (A : Option Addr) (n c a : Nat) (w : World) (e : Ending) (w' : World) : Prop :=
 ∃ m ys, e = .returned (.slice A m c) ∧ w = w' ∧ Wd w lo A m c ys ∧ M.Nrm ys ∧ M.val ys = a ∧ m ≤ n
theorem trim_any (w : World) (lo : Nat) (A : Option Addr) (n c : Nat) (xs : List Nat) (h : Wd w lo A n c xs) :
  Calls Tryz.prog 67 #[.slice A n c] w (Trimmed lo A n c (M.val xs) w) := by
 have h0 := h
 obtain ⟨hl, h1, h2, h3, h4⟩ := h
 have fin : ∀ m, m ≤ n → (0 < m → xs.getD (m - 1) 0 ≠ 0) → (∀ j, m ≤ j → j < n → xs.getD j 0 = 0) → Wd w lo A m c (xs.take m) ∧ M.Nrm (xs.take m) ∧ M.val (xs.take m) = M.val xs ∧ m ≤ n :=
  fun m hm k1 k2 => ⟨h0.take hm, M.Nrm.take (by omega) k1, M.val_take_noughts (by omega) (fun j k3 k4 => k2 j k3 (by omega)), hm⟩
 have FIN := Lib.hid fin
 clear fin h0 hl h3
 go_enter Tryz.func67, Tryz.ntmps67
 go_wp2
 go_loop [0] (fun s => ∃ k : Nat, k ≤ n ∧ s = .slice A k c ∧ ∀ j, k ≤ j → j < n → xs.getD j 0 = 0) (fun s => lenOf s)
 case atStart => exact ⟨n, Nat.le_refl _, rfl, fun j _ _ => by omega⟩
 case round =>
  obtain ⟨k, hk, rfl, hz⟩ := hrel
  have HZ := Lib.hid hz
  clear hz
  by_cases hk0 : k = 0
  ·subst hk0
   go_wp2
   go_ret
   obtain ⟨f1, f2, f3, f4⟩ := FIN.out 0 (by omega) (by omega) (fun j _ hj => HZ.out j (by omega) hj)
   exact ⟨0, _, rfl, rfl, f1, f2, f3, f4⟩
  ·obtain ⟨b, o, rfl, hb, hc⟩ := h4 (by omega)
   obtain ⟨x, hx⟩ : ∃ x, xs.getD (k - 1) 0 = x := ⟨_, rfl⟩
   have hc1 := (hc (k - 1) (by omega)).1
   rw [hx] at hc1
   have HX := Lib.hid hx
   clear hx hc
   have hp : 0 < k := by omega
   clear hk0
   go_wp2
   ·have hx0 : x = 0 := by
     have : ((x : Int) == 0) = true := by assumption
     simpa using this
    go_round
    case rel =>
     refine ⟨k - 1, by omega, by congr 1, fun j h1 h2 => ?_⟩
     by_cases hj : j = k - 1
     ·rw [hj, HX.out, hx0]
     ·exact HZ.out j (by omega) h2
    case measure => simp [lenOf]; omega
   ·go_ret
    have hx0 : x ≠ 0 := by
     have : ((x : Int) == 0) = false := by assumption
     simpa using this
    obtain ⟨f1, f2, f3, f4⟩ := FIN.out k hk (fun _ => by rw [HX.out]; exact hx0) (fun j h1 h2 => HZ.out j h1 h2)
    exact ⟨k, _, rfl, rfl, f1, f2, f3, f4⟩
theorem wordAt_any (w : World) (lo : Nat) (A : Option Addr) (n c : Nat) (xs : List Nat) (h : Wd w lo A n c xs) (i : Int) (hi : 0 ≤ i) (hi' : i ≤ 1000000000000000000) :
  Calls Tryz.prog 69 #[.slice A n c, .int .i64 i] w (Same (u64 (xs.getD i.toNat 0)) w) := by
 obtain ⟨k, rfl⟩ := Int.eq_ofNat_of_zero_le hi
 rw [Int.toNat_natCast]
 obtain ⟨hl, h1, h2, h3, h4⟩ := h
 by_cases hk : k < n
 ·obtain ⟨b, o, rfl, hb, hc⟩ := h4 (by omega)
  have hc1 := (hc k hk).1
  generalize xs.getD k 0 = x at *
  clear hc h4 h3 hl
  go_enter Tryz.func69, Tryz.ntmps69
  go_wp2
  go_ret
  exact ⟨rfl, rfl⟩
 ·have hx : xs.getD k 0 = 0 := by simp [List.getD_eq_getElem?_getD, List.getElem?_eq_none (show xs.length ≤ k by omega)]
  rw [hx]
  clear hx h4 h3 hl
  go_enter Tryz.func69, Tryz.ntmps69
  go_wp2
  go_ret
  exact ⟨rfl, rfl⟩
theorem wordAt_nat (w : World) (lo : Nat) (A : Option Addr) (n c : Nat) (xs : List Nat) (h : Wd w lo A n c xs) (k : Nat) (hk : k ≤ 1000000000000000) (y : Nat) (hy : xs.getD k 0 = y) :
  Calls Tryz.prog 69 #[.slice A n c, .int .i64 (k : Int)] w (Same (u64 y) w) := by
 have := wordAt_any w lo A n c xs h (k : Int) (by omega) (by omega)
 rw [Int.toNat_natCast, hy] at this
 exact this
section
variable {w w' : World} {b : Nat} {ty : TypeId} {cs : Array Value}
def Ob (w : World) (b : Nat) (ty : TypeId) (cs : Array Value) : Prop := w.heap[b]? = some (.cells cs ty (0, 0))
theorem Ob.mk_ (w : World) (ty : TypeId) (cs : Array Value) : Ob (w.alloc (.cells cs ty)) w.heap.size ty cs := by
 show (w.heap.push _)[w.heap.size]? = _
 exact Array.getElem?_push_size
theorem Ob.nw (w : World) (t : TypeId) (cs : Array Value) : ∃ V, w.alloc (.cells cs t) = V ∧ Ob V w.heap.size t cs ∧ Up w V := ⟨_, rfl, Ob.mk_ _ _ _, Up.al rfl⟩
theorem Ob.lt (h : Ob w b ty cs) : b < w.heap.size := (Array.getElem?_eq_some_iff.1 h).1
theorem Ob.up (h : Ob w b ty cs) (hu : Up w w') : Ob w' b ty cs := (Below.block hu b h.lt).trans h
theorem Ob.get (h : Ob w b ty cs) (i : Nat) : w.cell? ⟨b, i, none⟩ = cs[i]? := by
 unfold Ob at h
 simp [World.cell?, h]
theorem Ob.fr (h : Ob w b ty cs) (i : Nat) : w.frozen? ⟨b, i, none⟩ = false := by
 unfold Ob at h
 simp [World.frozen?, h]
theorem Ob.other {b' i : Nat} (h : Ob w b ty cs) (hne : b ≠ b') (v : Value) : Ob (w.setCell ⟨b', i, none⟩ v) b ty cs :=
 (Below.heap_setCell w ⟨b', i, none⟩ v b hne).trans h
theorem Ob.drewN (h : Ob w b ty cs) (k : Nat) : Ob (w.drewN k) b ty cs := h
theorem Ob.put (h : Ob w b ty cs) (i : Nat) (v : Value) : Ob (w.setCell ⟨b, i, none⟩ v) b ty (cs.setIfInBounds i v) := by
 unfold Ob at h ⊢
 rw [setCell_eq_setRow w b i _ ty (0, 0) _ h, setRow_heap w b _ _ ty _ h]
theorem Up.setRow_ (h : Up w w') {b : Nat} (hb : w.heap.size ≤ b) (cs : Array Value) : Up w (w'.setRow b cs) :=
 ⟨h.os, h.tape, h.output, by have := h.size; simpa [World.setRow] using this, fun k hk => (setRow_other w' b k cs (by omega)).trans (h.block k hk)⟩
end
theorem store_ob {P : Program} {ops : Array Oper} {rest : List Oper} {o : Oper} {a : Act} {w : World} {Q : Exit → Act → World → Prop} (hgd : o.guard = none) (ty : TypeId) (x y : Operand) (ho : o.op = .store ty x y)
  (g : Nat) (cs cs' : Array Value) (hx : a.eval x = .pointer (some ⟨g, 0, none⟩)) (hy : a.eval y = .agg cs') (N : Nat) (hi : (P.info? ty).map (·.size) = some N) (hN : cs'.size = N) (hs : cs.size = N) (h1 : cs'.all (·.oneCell') = true)
  (w0 : World) (U : Up w0 w) (hb : w0.heap.size ≤ g) (t : TypeId) (hB : Ob w g t cs)
  (h : ∀ V, Ob V g t cs' → Up w0 V → wpList P ops Q rest (a.put o.dst undef) V) : wpList P ops Q (o :: rest) a w :=
 wpList_store_row hgd ty x y ho g _ hx hy t _ hB (hi.trans (by rw [hN])) (hs.trans hN.symm) h1 (h _ (setRow_heap w g _ _ t _ hB) (U.setRow_ hb _))
structure Kb (b b' : Nat) (w w' : World) : Prop where
 os : w'.os = w.os
 tape : w'.tape = w.tape
 output : w'.output = w.output
 size : w.heap.size ≤ w'.heap.size
 block : ∀ k, k < w.heap.size → k ≠ b → k ≠ b' → w'.heap[k]? = w.heap[k]?
theorem Kb.of_up {b b' : Nat} {w w' : World} (h : Up w w') : Kb b b' w w' := ⟨h.os, h.tape, h.output, Up.size h, fun k hk _ _ => Below.block h k hk⟩
theorem Kb.trans {b b' : Nat} {w w' w'' : World} (h : Kb b b' w w') (g : Kb b b' w' w'') : Kb b b' w w'' :=
 ⟨g.os.trans h.os, g.tape.trans h.tape, g.output.trans h.output, Nat.le_trans h.size g.size, fun k hk h1 h2 => (g.block k (Nat.lt_of_lt_of_le hk h.size) h1 h2).trans (h.block k hk h1 h2)⟩
theorem Kb.up {b b' : Nat} {w0 w w' : World} (h : Kb b b' w w') (U : Up w0 w) (h1 : w0.heap.size ≤ b) (h2 : w0.heap.size ≤ b') : Up w0 w' := by
 have hs := Up.size U
 exact ⟨h.os.trans U.os, h.tape.trans U.tape, h.output.trans U.output, Nat.le_trans hs h.size, fun k hk => (h.block k (Nat.lt_of_lt_of_le hk hs) (by omega) (by omega)).trans (Below.block U k hk)⟩
theorem Kb.setNew {b b' : Nat} {w w' : World} (h : Kb b b' w w') {p : Addr} (hp : w.heap.size ≤ p.block) (v : Value) : Kb b b' w (w'.setCell p v) :=
 ⟨h.os, h.tape, h.output, (show w.heap.size ≤ (w'.setCell p v).heap.size by simp [World.setCell]; exact h.size), fun k hk h1 h2 => (Below.heap_setCell _ _ _ _ (by omega)).trans (h.block k hk h1 h2)⟩
theorem Kb.cell {b b' : Nat} {w w' : World} (h : Kb b b' w w') {p : Addr} (hp : p.block < w.heap.size) (h1 : p.block ≠ b) (h2 : p.block ≠ b') : w'.cell? p = w.cell? p := World.cell?_of_block (w := w) (h.block p.block hp h1 h2)
theorem Kb.frozen {b b' : Nat} {w w' : World} (h : Kb b b' w w') {p : Addr} (hp : p.block < w.heap.size) (h1 : p.block ≠ b) (h2 : p.block ≠ b') : w'.frozen? p = w.frozen? p := World.frozen?_of_block (w := w) (h.block p.block hp h1 h2)
theorem Kb.setIn {b b' : Nat} {w w' : World} (h : Kb b b' w w') {p : Addr} (hp : p.block = b ∨ p.block = b') (v : Value) : Kb b b' w (w'.setCell p v) :=
 ⟨h.os, h.tape, h.output, (show w.heap.size ≤ (w'.setCell p v).heap.size by simp [World.setCell]; exact h.size), fun k hk h1 h2 => (Below.heap_setCell _ _ _ _ (by rcases hp with e | e <;> rw [e] <;> assumption)).trans (h.block k hk h1 h2)⟩
section
variable {w V : World} {g : Nat}
theorem store_ob2 {P : Program} {ops : Array Oper} {rest : List Oper} {o : Oper} {a : Act} {w : World} {Q : Exit → Act → World → Prop} (hgd : o.guard = none) (ty : TypeId) (x y : Operand) (ho : o.op = .store ty x y)
  (g : Nat) (cs cs' : Array Value) (hx : a.eval x = .pointer (some ⟨g, 0, none⟩)) (hy : a.eval y = .agg cs') (N : Nat) (hi : (P.info? ty).map (·.size) = some N) (hN : cs'.size = N) (hs : cs.size = N) (h1 : cs'.all (·.oneCell') = true)
  (w0 : World) (U : Up w0 w) (hb : w0.heap.size ≤ g) (t : TypeId) (hB : Ob w g t cs)
  (h : ∀ V, Ob V g t cs' → Up w0 V → (∀ b', b' ≠ g → V.heap[b']? = w.heap[b']?) → wpList P ops Q rest (a.put o.dst undef) V) : wpList P ops Q (o :: rest) a w :=
 wpList_store_row hgd ty x y ho g _ hx hy t _ hB (hi.trans (by rw [hN])) (hs.trans hN.symm) h1 (h _ (setRow_heap w g _ _ t _ hB) (U.setRow_ hb _) (fun b' hne => setRow_other w g b' _ hne))
theorem Nt.other {lo s : Nat} {v : Value} {a : Nat} (h : Nt w lo s v a) (ho : ∀ b', b' ≠ g → V.heap[b']? = w.heap[b']?) (hg : g < lo) : Nt V lo s v a := by
 obtain ⟨A, n, c, xs, e, h1, h2⟩ := h
 exact ⟨A, n, c, xs, e, h1.keep (fun p _ hp => ⟨World.cell?_of_block (w := w) (ho p.block (by omega)), World.frozen?_of_block (w := w) (ho p.block (by omega))⟩), h2⟩
end
section
variable {w : World} {b : Nat} {ty : TypeId} {a0 a1 a2 a3 a4 a5 a6 a7 a8 : Value}
theorem Ob.g3 (h : Ob w b ty #[a0, a1, a2]) : w.cell? ⟨b, 0, none⟩ = some a0 ∧ w.cell? ⟨b, 1, none⟩ = some a1 ∧ w.cell? ⟨b, 2, none⟩ = some a2 := ⟨h.get 0, h.get 1, h.get 2⟩
theorem Ob.g4 (h : Ob w b ty #[a0, a1, a2, a3]) : w.cell? ⟨b, 0, none⟩ = some a0 ∧ w.cell? ⟨b, 1, none⟩ = some a1 ∧ w.cell? ⟨b, 2, none⟩ = some a2 ∧ w.cell? ⟨b, 3, none⟩ = some a3 := ⟨h.get 0, h.get 1, h.get 2, h.get 3⟩
theorem Ob.c3 (h : Ob w b ty #[a0, a1, a2]) : w.cell? ⟨b, 0, none⟩ = some a0 ∧ w.cell? ⟨b, 1, none⟩ = some a1 ∧ w.cell? ⟨b, 2, none⟩ = some a2 ∧ w.frozen? ⟨b, 0, none⟩ = false ∧ w.frozen? ⟨b, 1, none⟩ = false ∧ w.frozen? ⟨b, 2, none⟩ = false ∧ b < w.heap.size := ⟨h.get 0, h.get 1, h.get 2, h.fr 0, h.fr 1, h.fr 2, h.lt⟩
theorem Ob.c4 (h : Ob w b ty #[a0, a1, a2, a3]) : w.cell? ⟨b, 0, none⟩ = some a0 ∧ w.cell? ⟨b, 1, none⟩ = some a1 ∧ w.cell? ⟨b, 2, none⟩ = some a2 ∧ w.cell? ⟨b, 3, none⟩ = some a3 ∧ w.frozen? ⟨b, 0, none⟩ = false ∧ w.frozen? ⟨b, 1, none⟩ = false ∧ w.frozen? ⟨b, 2, none⟩ = false ∧ w.frozen? ⟨b, 3, none⟩ = false ∧ b < w.heap.size := ⟨h.get 0, h.get 1, h.get 2, h.get 3, h.fr 0, h.fr 1, h.fr 2, h.fr 3, h.lt⟩
theorem Ob.g9 (h : Ob w b ty #[a0, a1, a2, a3, a4, a5, a6, a7, a8]) : w.cell? ⟨b, 0, none⟩ = some a0 ∧ w.cell? ⟨b, 1, none⟩ = some a1 ∧ w.cell? ⟨b, 2, none⟩ = some a2 ∧ w.cell? ⟨b, 3, none⟩ = some a3 ∧ w.cell? ⟨b, 4, none⟩ = some a4 ∧ w.cell? ⟨b, 5, none⟩ = some a5 ∧ w.cell? ⟨b, 6, none⟩ = some a6 ∧ w.cell? ⟨b, 7, none⟩ = some a7 ∧ w.cell? ⟨b, 8, none⟩ = some a8 := ⟨h.get 0, h.get 1, h.get 2, h.get 3, h.get 4, h.get 5, h.get 6, h.get 7, h.get 8⟩
theorem Ob.c9 (h : Ob w b ty #[a0, a1, a2, a3, a4, a5, a6, a7, a8]) : w.cell? ⟨b, 0, none⟩ = some a0 ∧ w.cell? ⟨b, 1, none⟩ = some a1 ∧ w.cell? ⟨b, 2, none⟩ = some a2 ∧ w.cell? ⟨b, 3, none⟩ = some a3 ∧ w.cell? ⟨b, 4, none⟩ = some a4 ∧ w.cell? ⟨b, 5, none⟩ = some a5 ∧ w.cell? ⟨b, 6, none⟩ = some a6 ∧ w.cell? ⟨b, 7, none⟩ = some a7 ∧ w.cell? ⟨b, 8, none⟩ = some a8 ∧ w.frozen? ⟨b, 0, none⟩ = false ∧ w.frozen? ⟨b, 1, none⟩ = false ∧ w.frozen? ⟨b, 2, none⟩ = false ∧ w.frozen? ⟨b, 3, none⟩ = false ∧ w.frozen? ⟨b, 4, none⟩ = false ∧ w.frozen? ⟨b, 5, none⟩ = false ∧ w.frozen? ⟨b, 6, none⟩ = false ∧ w.frozen? ⟨b, 7, none⟩ = false ∧ w.frozen? ⟨b, 8, none⟩ = false ∧ b < w.heap.size := ⟨h.get 0, h.get 1, h.get 2, h.get 3, h.get 4, h.get 5, h.get 6, h.get 7, h.get 8, h.fr 0, h.fr 1, h.fr 2, h.fr 3, h.fr 4, h.fr 5, h.fr 6, h.fr 7, h.fr 8, h.lt⟩
end
end Go.Proofs.YtijpffgocookaaaGreatDoor
