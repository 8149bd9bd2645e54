/-
  Words in memory: what a slice of words reads as, and how long it does.
-/
import Derived.Test.YtjmnobgllnaljaaGreatDoorMath2
import Derived.Test.YtjmnobgllnaljaaGreatDoorProg
import Derived.WalkKit
import Derived.WalkSpells
import Derived.WalkLawsBesides
import Derived.Lib.Hide
import Derived.Deep.Draws
import Derived.Deep.QuietTactic
import Derived.BigQuiet
namespace Go.Proofs.YtjmnobgllnaljaaGreatDoor
open Go.RowKit

theorem ret_int {k : IntKind} {a b : Int} (h : a = b) : Ending.returned (.int k a) = .returned (.int k b) := by rw [h]
theorem ret_bool {a b : Bool} (h : a = b) : Ending.returned (.bool a) = .returned (.bool b) := by rw [h]

/-- A word as a value. -/
abbrev u64 (x : Nat) : Value := .int .u64 (x : Int)

/-- A slice's length: for a loop's measure. -/
def lenOf : Value → Nat | .slice _ k _ => k | _ => 0

/-- The slice '.slice A n c' holds the words xs, in a block from lo on; they may be written. -/
structure Wd (w : World) (lo : Nat) (A : Option Addr) (n c : Nat) (xs : List Nat) : Prop where
  num : xs.length = n
  len : n ≤ c
  small : n ≤ 1099511627776
  wds : M.Wds xs
  at_ : 0 < n → ∃ b o, A = some ⟨b, o, none⟩ ∧ lo ≤ b ∧ ∀ j, j < n → w.cell? ⟨b, o + j, none⟩ = some (u64 (xs.getD j 0)) ∧ w.frozen? ⟨b, o + j, none⟩ = false

/-- Nothing that was there has turned. -/
def Up (w w' : World) : Prop := Below w.heap.size w w'

section
variable {w w' w'' : World} {lo n c : Nat} {A : Option Addr} {xs : List Nat}
theorem Up.refl (w : World) : Up w w := Below.refl _ _
theorem Up.trans (h : Up w w') (k : Up w' w'') : Up w w'' := Below.trans h (Below.mono k h.size)
theorem Up.size (h : Up w w') : w.heap.size ≤ w'.heap.size := Below.size h
theorem Up.drewN (h : Up w w') (k : Nat) : Up w (w'.drewN k) := ⟨h.os, h.tape, h.output, (show w.heap.size ≤ w'.heap.size from Up.size h), h.block⟩
theorem Up.drew (h : Up w w') : Up w w'.drew := Below.drew h
theorem Up.alloc (h : Up w w') (o : Obj) : Up w (w'.alloc o) := Below.alloc h h.size o
theorem Up.setCell (h : Up w w') {p : Addr} (hp : w.heap.size ≤ p.block) (u : Value) : Up w (w'.setCell p u) := Below.setCell h hp u
theorem Up.grown (h : Up w w') {row : Option Nat} (hg : w'.grownBy w'' row) (hr : ∀ k, row = some k → w.heap.size ≤ k) : Up w w'' := Below.grown h hg h.size hr
theorem Wd.keep (h : Wd w lo A n c xs) (hk : ∀ p : Addr, p.block < w.heap.size → lo ≤ p.block → w'.cell? p = w.cell? p ∧ w'.frozen? p = w.frozen? p) : Wd w' lo A n c xs :=
  ⟨h.num, h.len, h.small, h.wds, fun hn => by
    obtain ⟨b, o, e, hb, hc⟩ := h.at_ hn
    refine ⟨b, o, e, hb, fun j hj => ?_⟩
    obtain ⟨h1, h2⟩ := hc j hj
    have hlt := World.block_lt_of_cell? w _ h1
    obtain ⟨k1, k2⟩ := hk ⟨b, o + j, none⟩ hlt hb
    exact ⟨k1.trans h1, k2.trans h2⟩⟩
theorem Wd.up (h : Wd w lo A n c xs) (hb : Up w w') : Wd w' lo A n c xs :=
  h.keep fun _ hp _ => ⟨Below.cell hb hp, Below.frozen hb hp⟩
theorem Wd.lower {lo' : Nat} (h : Wd w lo A n c xs) (hl : lo' ≤ lo) : Wd w lo' A n c xs :=
  ⟨h.num, h.len, h.small, h.wds, fun hn => by
    obtain ⟨b, o, e, hb, hc⟩ := h.at_ hn
    exact ⟨b, o, e, Nat.le_trans hl hb, hc⟩⟩
theorem Wd.drewN (h : Wd w lo A n c xs) (k : Nat) : Wd (w.drewN k) lo A n c xs := h.up ((Up.refl w).drewN k)
theorem Wd.take (h : Wd w lo A n c xs) {m : Nat} (hm : m ≤ n) : Wd w lo A m c (xs.take m) := by
  have hl : (xs.take m).length = m := by rw [List.length_take, h.num, Nat.min_eq_left hm]
  refine ⟨hl, by have := h.len; omega, by have := h.small; omega, h.wds.take m, fun hn => ?_⟩
  obtain ⟨b, o, e, hb, hc⟩ := h.at_ (by omega)
  refine ⟨b, o, e, hb, fun j hj => ?_⟩
  obtain ⟨h1, h2⟩ := hc j (by omega)
  refine ⟨?_, h2⟩
  rw [h1, List.getD_eq_getElem?_getD, List.getD_eq_getElem?_getD, List.getElem?_take_of_lt (by omega)]
theorem Wd.nil (w : World) (lo : Nat) (A : Option Addr) (c : Nat) : Wd w lo A 0 c [] :=
  ⟨rfl, by omega, by omega, M.Wds.nil, fun h => by omega⟩

/-- v is a slice of at most s words that holds the number a, noughts at its end or not. -/
def Nw (w : World) (lo s : Nat) (v : Value) (a : Nat) : Prop := ∃ A n c xs, v = .slice A n c ∧ Wd w lo A n c xs ∧ M.val xs = a ∧ n ≤ s
/-- v is a slice of at most s words that holds the number a, normal. -/
def Nt (w : World) (lo s : Nat) (v : Value) (a : Nat) : Prop := ∃ A n c xs, v = .slice A n c ∧ Wd w lo A n c xs ∧ M.val xs = a ∧ n ≤ s ∧ M.Nrm xs

variable {v : Value} {a s : Nat}
theorem Nt.nw (h : Nt w lo s v a) : Nw w lo s v a := by
  obtain ⟨A, n, c, xs, e, h1, h2, h3, _⟩ := h
  exact ⟨A, n, c, xs, e, h1, h2, h3⟩
theorem Nw.up (h : Nw w lo s v a) (hb : Up w w') : Nw w' lo s v a := by
  obtain ⟨A, n, c, xs, e, h1, h2⟩ := h
  exact ⟨A, n, c, xs, e, h1.up hb, h2⟩
theorem Nt.up (h : Nt w lo s v a) (hb : Up w w') : Nt w' lo s v a := by
  obtain ⟨A, n, c, xs, e, h1, h2⟩ := h
  exact ⟨A, n, c, xs, e, h1.up hb, h2⟩
theorem Nw.lower {lo' : Nat} (h : Nw w lo s v a) (hl : lo' ≤ lo) : Nw w lo' s v a := by
  obtain ⟨A, n, c, xs, e, h1, h2⟩ := h
  exact ⟨A, n, c, xs, e, h1.lower hl, h2⟩
theorem Nt.lower {lo' : Nat} (h : Nt w lo s v a) (hl : lo' ≤ lo) : Nt w lo' s v a := by
  obtain ⟨A, n, c, xs, e, h1, h2⟩ := h
  exact ⟨A, n, c, xs, e, h1.lower hl, h2⟩
theorem Nw.more {s' : Nat} (h : Nw w lo s v a) (hs : s ≤ s') : Nw w lo s' v a := by
  obtain ⟨A, n, c, xs, e, h1, h2, h3⟩ := h
  exact ⟨A, n, c, xs, e, h1, h2, Nat.le_trans h3 hs⟩
theorem Nt.more {s' : Nat} (h : Nt w lo s v a) (hs : s ≤ s') : Nt w lo s' v a := by
  obtain ⟨A, n, c, xs, e, h1, h2, h3, h4⟩ := h
  exact ⟨A, n, c, xs, e, h1, h2, Nat.le_trans h3 hs, h4⟩
/-- A normal number below the power has no more words than that. -/
theorem Nt.fit {k : Nat} (h : Nt w lo s v a) (hk : a < 18446744073709551616 ^ k) : Nt w lo k v a := by
  obtain ⟨A, n, c, xs, e, h1, h2, h3, h4⟩ := h
  refine ⟨A, n, c, xs, e, h1, h2, ?_, h4⟩
  rw [← h1.num]
  exact M.len_of_lt h4 (by rw [h2]; exact hk)
theorem Nt.nil (w : World) (lo s : Nat) : Nt w lo s (.slice none 0 0) 0 := ⟨none, 0, 0, [], rfl, Wd.nil w lo none 0, rfl, Nat.zero_le _, M.Nrm.nil⟩

/-- What a call comes to that only reads: the value v; draws may have been made. -/
def Val (v : Value) (w : World) (e : Ending) (w' : World) : Prop := e = .returned v ∧ ∃ k, w' = w.drewN k
/-- .. and that draws nothing. -/
def Same (v : Value) (w : World) (e : Ending) (w' : World) : Prop := e = .returned v ∧ w = w'
/-- What a call comes to that makes a number: it is normal, in memory of its own; nothing that was there has turned. -/
def Res (s a : Nat) (w : World) (e : Ending) (w' : World) : Prop := ∃ v, e = .returned v ∧ Nt w' w.heap.size s v a ∧ Up w w'
/-- What a call comes to that makes one, or tells that there is none. -/
def Opt (s a : Nat) (is : Bool) (w : World) (e : Ending) (w' : World) : Prop := ∃ v, e = .returned (.tuple #[v, .bool is]) ∧ Nt w' w.heap.size s v a ∧ Up w w'

theorem Same.quiet {P : Program} {f : FuncId} {args : Array Value} {w : World} {n : Nat} {v : Value}
    (h : Calls P f args (w.drewN n) (Same v (w.drewN n))) : Calls P f args (w.drewN n) fun e w'' => e = .returned v ∧ ∃ m, w'' = w.drewN m :=
  h.mono fun _ _ ⟨he, hm⟩ => ⟨he, n, hm.symm⟩
theorem Val.quiet {P : Program} {f : FuncId} {args : Array Value} {w : World} {n : Nat} {v : Value}
    (h : Calls P f args (w.drewN n) (Val v (w.drewN n))) : Calls P f args (w.drewN n) fun e w'' => e = .returned v ∧ ∃ m, w'' = w.drewN m :=
  Calls.quiet_of h
theorem Same.quiet2 {P : Program} {f : FuncId} {args : Array Value} {w : World} {a n : Nat} {v : Value}
    (h : Calls P f args (w.drewN (a + n)) (Same v (w.drewN (a + n)))) : Calls P f args (w.drewN (a + n)) fun e w'' => e = .returned v ∧ ∃ m, w'' = w.drewN (a + m) :=
  h.mono fun _ _ ⟨he, hm⟩ => ⟨he, n, hm.symm⟩
theorem Val.quiet2 {P : Program} {f : FuncId} {args : Array Value} {w : World} {a n : Nat} {v : Value}
    (h : Calls P f args (w.drewN (a + n)) (Val v (w.drewN (a + n)))) : Calls P f args (w.drewN (a + n)) fun e w'' => e = .returned v ∧ ∃ m, w'' = w.drewN (a + m) :=
  h.mono fun _ _ ⟨he, m, hm⟩ => ⟨he, n + m, by rw [hm, World.drewN_drewN, Nat.add_assoc]⟩
end
end Go.Proofs.YtjmnobgllnaljaaGreatDoor
namespace Go.Proofs.YtjmnobgllnaljaaGreatDoor
open Go.RowKit

/-- What trim comes to. -/
def Trimmed (lo : Nat) (A : Option Addr) (n c a : Nat) (w : World) (e : Ending) (w' : World) : Prop :=
  ∃ m ys, e = .returned (.slice A m c) ∧ w = w' ∧ Wd w lo A m c ys ∧ M.Nrm ys ∧ M.val ys = a ∧ m ≤ n

set_option maxHeartbeats 400000 in
theorem trim_any (w : World) (lo : Nat) (A : Option Addr) (n c : Nat) (xs : List Nat) (h : Wd w lo A n c xs) :
    Calls Tryz.prog 35 #[.slice A n c] w (Trimmed lo A n c (M.val xs) w) := by
  have h0 := h
  obtain ⟨hl, h1, h2, h3, h4⟩ := h
  have fin : ∀ m, m ≤ n → (0 < m → xs.getD (m - 1) 0 ≠ 0) → (∀ j, m ≤ j → j < n → xs.getD j 0 = 0) → Wd w lo A m c (xs.take m) ∧ M.Nrm (xs.take m) ∧ M.val (xs.take m) = M.val xs ∧ m ≤ n :=
    fun m hm k1 k2 => ⟨h0.take hm, M.Nrm.take (by omega) k1, M.val_take_noughts (by omega) (fun j k3 k4 => k2 j k3 (by omega)), hm⟩
  have FIN := Lib.hid fin
  clear fin h0 hl h3
  go_enter Tryz.func35, Tryz.ntmps35
  go_wp2
  go_loop [0] (fun s => ∃ k : Nat, k ≤ n ∧ s = .slice A k c ∧ ∀ j, k ≤ j → j < n → xs.getD j 0 = 0) (fun s => lenOf s)
  case atStart => exact ⟨n, Nat.le_refl _, rfl, fun j _ _ => by omega⟩
  case round =>
    obtain ⟨k, hk, rfl, hz⟩ := hrel
    have HZ := Lib.hid hz
    clear hz
    by_cases hk0 : k = 0
    · subst hk0
      go_wp2
      go_ret
      obtain ⟨f1, f2, f3, f4⟩ := FIN.out 0 (by omega) (by omega) (fun j _ hj => HZ.out j (by omega) hj)
      exact ⟨0, _, rfl, rfl, f1, f2, f3, f4⟩
    · obtain ⟨b, o, rfl, hb, hc⟩ := h4 (by omega)
      obtain ⟨x, hx⟩ : ∃ x, xs.getD (k - 1) 0 = x := ⟨_, rfl⟩
      have hc1 := (hc (k - 1) (by omega)).1
      rw [hx] at hc1
      have HX := Lib.hid hx
      clear hx hc
      have hp : 0 < k := by omega
      clear hk0
      go_wp2
      · have hx0 : x = 0 := by
          have : ((x : Int) == 0) = true := by assumption
          simpa using this
        go_round
        case rel =>
          refine ⟨k - 1, by omega, by congr 1, fun j h1 h2 => ?_⟩
          by_cases hj : j = k - 1
          · rw [hj, HX.out, hx0]
          · exact HZ.out j (by omega) h2
        case measure => simp [lenOf]; omega
      · go_ret
        have hx0 : x ≠ 0 := by
          have : ((x : Int) == 0) = false := by assumption
          simpa using this
        obtain ⟨f1, f2, f3, f4⟩ := FIN.out k hk (fun _ => by rw [HX.out]; exact hx0) (fun j h1 h2 => HZ.out j h1 h2)
        exact ⟨k, _, rfl, rfl, f1, f2, f3, f4⟩

set_option maxHeartbeats 400000 in
/-- wordAt: the word at i; 0 behind the last one. -/
theorem wordAt_any (w : World) (lo : Nat) (A : Option Addr) (n c : Nat) (xs : List Nat) (h : Wd w lo A n c xs) (i : Int) (hi : 0 ≤ i) (hi' : i ≤ 1000000000000000000) :
    Calls Tryz.prog 41 #[.slice A n c, .int .i64 i] w (Same (u64 (xs.getD i.toNat 0)) w) := by
  obtain ⟨k, rfl⟩ := Int.eq_ofNat_of_zero_le hi
  rw [Int.toNat_natCast]
  obtain ⟨hl, h1, h2, h3, h4⟩ := h
  by_cases hk : k < n
  · obtain ⟨b, o, rfl, hb, hc⟩ := h4 (by omega)
    have hc1 := (hc k hk).1
    generalize xs.getD k 0 = x at *
    clear hc h4 h3 hl
    go_enter Tryz.func41, Tryz.ntmps41
    go_wp2
    go_ret
    exact ⟨rfl, rfl⟩
  · have hx : xs.getD k 0 = 0 := by simp [List.getD_eq_getElem?_getD, List.getElem?_eq_none (show xs.length ≤ k by omega)]
    rw [hx]
    clear hx h4 h3 hl
    go_enter Tryz.func41, Tryz.ntmps41
    go_wp2
    go_ret
    exact ⟨rfl, rfl⟩

theorem wordAt_nat (w : World) (lo : Nat) (A : Option Addr) (n c : Nat) (xs : List Nat) (h : Wd w lo A n c xs) (k : Nat) (hk : k ≤ 1000000000000000) (y : Nat) (hy : xs.getD k 0 = y) :
    Calls Tryz.prog 41 #[.slice A n c, .int .i64 (k : Int)] w (Same (u64 y) w) := by
  have := wordAt_any w lo A n c xs h (k : Int) (by omega) (by omega)
  rw [Int.toNat_natCast, hy] at this
  exact this
end Go.Proofs.YtjmnobgllnaljaaGreatDoor
