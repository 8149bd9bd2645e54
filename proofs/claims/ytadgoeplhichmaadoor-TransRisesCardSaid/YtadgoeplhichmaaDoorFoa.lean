/-
  Forms: the table, what fits, Canon; the reference's.
-/
import Derived.Test.YtadgoeplhichmaaDoorMem
import Derived.Deep.RegionHeld3
import Derived.Deep.DeepCutAuto
import Derived.Deep.CutBlock
/-
  Forms: what fits.
-/
namespace Go.Proofs.YtadgoeplhichmaaDoor
open Go.RowKit

namespace M
/-- A form: its kind, its width, and so on. -/
structure Fm where
  k : Int
  W : Int
  m : Int
  b : Int
  t : Int
  n : Int
  x : Int
def tb : Nat → Fm
  | 1 => ⟨1, 8, 0, 0, 127, 0, 128⟩
  | 2 => ⟨1, 16, 0, 0, 32767, 0, 32768⟩
  | 3 => ⟨1, 32, 0, 0, 2147483647, 0, 2147483648⟩
  | 4 => ⟨1, 64, 0, 0, 9223372036854775807, 0, 9223372036854775808⟩
  | 5 => ⟨2, 8, 3, 7, 126, 0, 127⟩
  | 6 => ⟨2, 8, 2, 15, 123, 124, 126⟩
  | 7 => ⟨2, 6, 2, 3, 31, 0, 0⟩
  | 8 => ⟨2, 6, 3, 1, 31, 0, 0⟩
  | 9 => ⟨2, 4, 1, 1, 7, 0, 0⟩
  | 10 => ⟨3, 8, 6, 0, 127, 0, 0⟩
  | 11 => ⟨4, 8, 0, 127, 254, 0, 255⟩
  | 12 => ⟨2, 16, 10, 15, 31743, 31744, 32256⟩
  | 13 => ⟨2, 32, 23, 127, 2139095039, 2139095040, 2143289344⟩
  | 14 => ⟨2, 64, 52, 1023, 9218868437227405311, 9218868437227405312, 9221120237041090560⟩
  | _ => ⟨0, 0, 0, 0, 0, 0, 0⟩
def msk (f : Fm) : Int := 2 ^ f.W.toNat - 1
def half (f : Fm) : Int := 2 ^ (f.W.toNat - 1)
def sgn (f : Fm) : Int := if f.k = 4 then 0 else half f
/-- The magnitude is none of a number, nor infinite. -/
def bey (f : Fm) (q : Int) : Bool := decide (f.t < q) && decide (q ≠ f.n)
/-- Fits of a form. -/
def er (i : Nat) (p : Int) : Int := if p ≤ msk (tb i) then 0 else 1
def cn (i : Nat) (p : Int) : Int := if (tb i).k = 2 ∧ bey (tb i) (p % half (tb i)) = true then (tb i).x else p

theorem all14 {p : Nat → Prop} (h1 : p 1) (h2 : p 2) (h3 : p 3) (h4 : p 4) (h5 : p 5) (h6 : p 6) (h7 : p 7) (h8 : p 8) (h9 : p 9) (h10 : p 10) (h11 : p 11) (h12 : p 12) (h13 : p 13) (h14 : p 14)
    (i : Nat) (a : 1 ≤ i) (b : i ≤ 14) : p i := by
  rcases (show i = 1 ∨ i = 2 ∨ i = 3 ∨ i = 4 ∨ i = 5 ∨ i = 6 ∨ i = 7 ∨ i = 8 ∨ i = 9 ∨ i = 10 ∨ i = 11 ∨ i = 12 ∨ i = 13 ∨ i = 14 by omega) with rfl | rfl | rfl | rfl | rfl | rfl | rfl | rfl | rfl | rfl | rfl | rfl | rfl | rfl <;> assumption

/-- What the fields of a form may be. -/
structure Ok (f : Fm) : Prop where
  W : f.W = 4 ∨ f.W = 6 ∨ f.W = 8 ∨ f.W = 16 ∨ f.W = 32 ∨ f.W = 64
  k : f.k = 1 ∨ f.k = 2 ∨ f.k = 3 ∨ f.k = 4
  hm : 0 < half f ∧ msk f = 2 * half f - 1 ∧ half f ≤ 9223372036854775808
  t : 0 < f.t ∧ f.t ≤ msk f
  n : 0 ≤ f.n ∧ f.n ≤ msk f
  x : 0 ≤ f.x ∧ f.x ≤ msk f
  two : f.k = 2 → f.t < half f ∧ f.x < half f ∧ (f.x = 0 → f.t + 1 = half f) ∧ (f.x ≠ 0 → f.t < f.x ∧ f.x ≠ f.n)
theorem ok (i : Nat) (a : 1 ≤ i) (b : i ≤ 14) : Ok (tb i) := by
  refine all14 (p := fun i => Ok (tb i)) ?_ ?_ ?_ ?_ ?_ ?_ ?_ ?_ ?_ ?_ ?_ ?_ ?_ ?_ i a b <;> exact ⟨by decide, by decide, by decide, by decide, by decide, by decide, by decide⟩

theorem and_not_low (n p : Nat) (hp : p < 18446744073709551616) (hn : n ≤ 64) : p &&& (18446744073709551615 - (2 ^ n - 1)) = p - p % 2 ^ n := by
  have e : 18446744073709551615 - (2 ^ n - 1) = (2 ^ (64 - n) - 1) * 2 ^ n := by
    have h : 2 ^ (64 - n) * 2 ^ n = 18446744073709551616 := by rw [← Nat.pow_add, show 64 - n + n = 64 by omega]
    have h2 := Nat.pow_pos (n := n) (show 0 < 2 by decide)
    rw [Nat.sub_mul, h]
    omega
  apply Nat.eq_of_testBit_eq
  intro j
  have hd : p - p % 2 ^ n = (p / 2 ^ n) * 2 ^ n := by have := Nat.div_add_mod p (2 ^ n); rw [Nat.mul_comm (p / 2 ^ n)]; omega
  rw [Nat.testBit_and, e, hd, Nat.testBit_mul_two_pow, Nat.testBit_mul_two_pow, Nat.testBit_two_pow_sub_one, Nat.testBit_div_two_pow]
  by_cases hj : n ≤ j
  · by_cases hk : j - n < 64 - n
    · simp [hj, hk, show j - n + n = j by omega]
    · have : p.testBit j = false := by
        apply Nat.testBit_lt_two_pow
        have : 2 ^ 64 ≤ 2 ^ j := Nat.pow_le_pow_right (by decide) (by omega)
        have h64 : (2 : Nat) ^ 64 = 18446744073709551616 := by decide
        omega
      simp [hj, hk, this, show j - n + n = j by omega]
  · simp [hj]
theorem and_not_bit (n p : Nat) (hp : p < 2 ^ (n + 1)) (hn : n < 64) : p &&& (18446744073709551615 - 2 ^ n) = p % 2 ^ n := by
  apply Nat.eq_of_testBit_eq
  intro j
  have e : (18446744073709551615 - 2 ^ n).testBit j = (decide (j < 64) && !decide (n = j)) := by
    have h2 : (2 : Nat) ^ n < 2 ^ 64 := Nat.pow_lt_pow_right (by decide) hn
    have h : 18446744073709551615 - 2 ^ n = 2 ^ 64 - (2 ^ n + 1) := by
      have h64 : (2 : Nat) ^ 64 = 18446744073709551616 := by decide
      omega
    rw [h, Nat.testBit_two_pow_sub_succ h2, Nat.testBit_two_pow]
  rw [Nat.testBit_and, e, Nat.testBit_mod_two_pow]
  by_cases h : j < n
  · simp [h, show j < 64 by omega, show ¬ n = j by omega]
  · by_cases h2 : n = j
    · simp [h2]
    · have : p.testBit j = false := by
        apply Nat.testBit_lt_two_pow
        have : 2 ^ (n + 1) ≤ 2 ^ j := Nat.pow_le_pow_right (by decide) (by omega)
        omega
      simp [h, this]
end M

/-- A form as a value. -/
abbrev fv (f : M.Fm) : Value := .agg #[.int .i64 f.k, .int .i64 f.W, .int .i64 f.m, .int .i64 f.b, .int .u64 f.t, .int .u64 f.n, .int .u64 f.x]
/-- What a call comes to that makes a word, or a number, or a bool; nothing that was there has turned. -/
def Wz (z : Int) (w : World) (e : Ending) (w' : World) : Prop := e = .returned (.int .u64 z) ∧ Up w w'
def Nz (z : Int) (w : World) (e : Ending) (w' : World) : Prop := e = .returned (.int .i64 z) ∧ Up w w'
def Bz (t : Bool) (w : World) (e : Ending) (w' : World) : Prop := e = .returned (.bool t) ∧ Up w w'
def Wn (z y : Int) (w : World) (e : Ending) (w' : World) : Prop := e = .returned (.tuple #[.int .u64 z, .int .i64 y]) ∧ Up w w'
def Fn (f : M.Fm) (y : Int) (w : World) (e : Ending) (w' : World) : Prop := e = .returned (.tuple #[fv f, .int .i64 y]) ∧ Up w w'
def Fb (f : M.Fm) (t : Bool) (w : World) (e : Ending) (w' : World) : Prop := e = .returned (.tuple #[fv f, .bool t]) ∧ Up w w'
def Fo (f : M.Fm) (w : World) (e : Ending) (w' : World) : Prop := e = .returned (fv f) ∧ Up w w'

set_option maxHeartbeats 1000000 in
theorem mask_any (w : World) (f : M.Fm) (hf : M.Ok f) (M' : Int) (hM : Hid (M.msk f = M')) : Calls Tryd.prog 39 #[fv f] w (Wz M' w) := by
  obtain ⟨k, W, m, b, t, n, x⟩ := f
  have h := hf.W
  clear hf
  simp only at h
  rcases h with rfl | rfl | rfl | rfl | rfl | rfl <;>
  · go_enter Tryd.func39, Tryd.ntmps39
    go_wp2_with fail
    go_ret
    exact ⟨ret_int (by rw [← hM.out]; rfl), (Up.refl _).alloc _⟩
set_option maxHeartbeats 1000000 in
theorem sign_any (w : World) (f : M.Fm) (hf : M.Ok f) (S : Int) (hS : Hid (M.sgn f = S)) : Calls Tryd.prog 25 #[fv f] w (Wz S w) := by
  by_cases hk : f.k = 4
  · have d : decide (f.k = 4) = true := decide_eq_true hk
    obtain ⟨k, W, m, b, t, n, x⟩ := f
    simp only at hk d
    subst hk
    go_enter Tryd.func25, Tryd.ntmps25
    go_wp2_with fail
    go_ret
    exact ⟨ret_int (by rw [← hS.out]; rfl), (Up.refl _).alloc _⟩
  · obtain ⟨M', hM⟩ : ∃ z, M.msk f = z := ⟨_, rfl⟩
    have h := hf.W
    have mask := mask_any (w.alloc (.cells (fv f).cells 45)) f hf M' hM
    have e : Hid (bits .xor .u64 M' (M' / 2) = S) := by
      show _ = _
      rw [← hM, ← hS.out, M.sgn, if_neg hk]
      unfold M.msk M.half
      rcases h with h | h | h | h | h | h <;> rw [h] <;> decide
    clear hM h hS hf
    have MASK := Lib.hid mask
    clear mask
    have d : (f.k == 4) = false := by simpa using hk
    obtain ⟨k, W, m, b, t, n, x⟩ := f
    simp only at hk d
    go_enter Tryd.func25, Tryd.ntmps25
    go_wp2_with fail
    refine MASK.out.mono ?_
    rintro _ w1 ⟨rfl, u1⟩
    have U := ((Up.refl w).alloc (.cells #[.int .i64 k, .int .i64 W, .int .i64 m, .int .i64 b, .int .u64 t, .int .u64 n, .int .u64 x] 45)).trans u1
    clear u1
    go_wp2_with fail
    go_ret
    exact ⟨ret_int e.out, U⟩
/-- Seven cells that hold a form, from the address on. -/
def Cs (w : World) (b o : Nat) (f : M.Fm) : Prop :=
  w.cell? ⟨b, o, none⟩ = some (.int .i64 f.k) ∧ w.cell? ⟨b, o + 1, none⟩ = some (.int .i64 f.W) ∧ w.cell? ⟨b, o + 2, none⟩ = some (.int .i64 f.m) ∧ w.cell? ⟨b, o + 3, none⟩ = some (.int .i64 f.b) ∧ w.cell? ⟨b, o + 4, none⟩ = some (.int .u64 f.t) ∧ w.cell? ⟨b, o + 5, none⟩ = some (.int .u64 f.n) ∧ w.cell? ⟨b, o + 6, none⟩ = some (.int .u64 f.x)
theorem Cs.lt {w : World} {b o : Nat} {f : M.Fm} (h : Cs w b o f) : b < w.heap.size := World.block_lt_of_cell? _ _ h.1
theorem Cs.up {w w' : World} {b o : Nat} {f : M.Fm} (h : Cs w b o f) (hu : Up w w') : Cs w' b o f := by
  have hl := h.lt
  obtain ⟨h0, h1, h2, h3, h4, h5, h6⟩ := h
  exact ⟨by rw [Below.cell hu hl]; exact h0, by rw [Below.cell hu hl]; exact h1, by rw [Below.cell hu hl]; exact h2, by rw [Below.cell hu hl]; exact h3, by rw [Below.cell hu hl]; exact h4, by rw [Below.cell hu hl]; exact h5, by rw [Below.cell hu hl]; exact h6⟩
/-- The variable table holds the table. -/
def TabF (w : World) : Prop := ∀ i, i < 15 → Cs w 0 (i * 7) (M.tb i)
theorem TabF.up {w w' : World} (h : TabF w) (hu : Up w w') : TabF w' := fun i hi => (h i hi).up hu
set_option maxHeartbeats 1000000 in
theorem of_in (w : World) (hF : TabF w) (i : Nat) (f : M.Fm) (hf : Hid (M.tb i = f)) (h1 : 1 ≤ i) (h2 : i ≤ 14) : Calls Tryd.prog 17 #[.int .i64 (i : Int)] w (Fn f 0 w) := by
  have c := hF i (by omega)
  rw [hf.out] at c
  have s0 := c.lt
  obtain ⟨c0, c1, c2, c3, c4, c5, c6⟩ := c
  obtain ⟨k, W, m, b, t, n, x⟩ := f
  simp only at c0 c1 c2 c3 c4 c5 c6
  have d1 : decide ((i : Int) < 1) = false := decide_eq_false (by omega)
  have d2 : decide (15 ≤ (i : Int)) = false := decide_eq_false (by omega)
  clear hf hF
  go_enter Tryd.func17, Tryd.ntmps17
  go_wp2_with fail
  refine bodyPost_ret (v := .tuple #[fv ⟨k, W, m, b, t, n, x⟩, .int .i64 0]) (by simp [results, Tryd.results17, go_sem]) rfl ?_
  exact ⟨rfl, (Up.refl _).alloc _⟩
end Go.Proofs.YtadgoeplhichmaaDoor
namespace Go.Proofs.YtadgoeplhichmaaDoor
open Go.RowKit

/-- A form's own variable. -/
def Bf (w : World) (b : Nat) (ty : TypeId) (f : M.Fm) : Prop :=
  w.heap[b]? = some (.cells #[.int .i64 f.k, .int .i64 f.W, .int .i64 f.m, .int .i64 f.b, .int .u64 f.t, .int .u64 f.n, .int .u64 f.x] ty (0, 0))
theorem Bf.mk_ (w : World) (f : M.Fm) (ty : TypeId) : Bf (w.alloc (.cells #[.int .i64 f.k, .int .i64 f.W, .int .i64 f.m, .int .i64 f.b, .int .u64 f.t, .int .u64 f.n, .int .u64 f.x] ty)) w.heap.size ty f := by
  show (w.heap.push _)[w.heap.size]? = _
  exact Array.getElem?_push_size
theorem Bf.lt {w : World} {b : Nat} {ty : TypeId} {f : M.Fm} (h : Bf w b ty f) : b < w.heap.size := (Array.getElem?_eq_some_iff.1 h).1
theorem Bf.up {w w' : World} {b : Nat} {ty : TypeId} {f : M.Fm} (h : Bf w b ty f) (hu : Up w w') : Bf w' b ty f := (Below.block hu b h.lt).trans h
theorem Bf.cs {w : World} {b : Nat} {ty : TypeId} {f : M.Fm} (h : Bf w b ty f) : Cs w b 0 f := by
  unfold Bf at h
  refine ⟨?_, ?_, ?_, ?_, ?_, ?_, ?_⟩ <;> simp [World.cell?, h]
theorem Bf.fr {w : World} {b : Nat} {ty : TypeId} {f : M.Fm} (h : Bf w b ty f) (i : Nat) : w.frozen? ⟨b, i, none⟩ = false := by
  unfold Bf at h
  simp [World.frozen?, h]
theorem Bf.set {w : World} {b : Nat} {ty : TypeId} {f g : M.Fm} (h : Bf w b ty f) : Bf (w.setRow b #[.int .i64 g.k, .int .i64 g.W, .int .i64 g.m, .int .i64 g.b, .int .u64 g.t, .int .u64 g.n, .int .u64 g.x]) b ty g :=
  setRow_heap w b _ _ ty _ h
theorem Bf.cell {w : World} {b b' i : Nat} {ty : TypeId} {f : M.Fm} (h : Bf w b ty f) (hne : b ≠ b') (v : Value) : Bf (w.setCell ⟨b', i, none⟩ v) b ty f :=
  (Below.heap_setCell w ⟨b', i, none⟩ v b hne).trans h
theorem Bf.drew {w : World} {b : Nat} {ty : TypeId} {f : M.Fm} (h : Bf w b ty f) : Bf w.drew b ty f := h
theorem Up.setRow {w w' : World} (h : Up w w') {b : Nat} (hb : w.heap.size ≤ b) (cs : Array Value) : Up w (w'.setRow b cs) :=
  ⟨h.os, h.tape, h.output, by have := h.size; simpa [World.setRow] using this, fun k hk => (setRow_other w' b k cs (by omega)).trans (h.block k hk)⟩
/-- A whole form is stored. -/
theorem store_F {P : Program} {ops : Array Oper} {rest : List Oper} {o : Oper} {a : Act} {w : World} {Q : Exit → Act → World → Prop} (hgd : o.guard = none) (ty : TypeId) (x y : Operand) (ho : o.op = .store ty x y)
    (g : Nat) (f f' : M.Fm) (hx : a.eval x = .pointer (some ⟨g, 0, none⟩)) (hy : a.eval y = .agg #[.int .i64 f'.k, .int .i64 f'.W, .int .i64 f'.m, .int .i64 f'.b, .int .u64 f'.t, .int .u64 f'.n, .int .u64 f'.x]) (hi : (P.info? ty).map (·.size) = some 7)
    (w0 : World) (U : Up w0 w) (hb : w0.heap.size ≤ g) (t : TypeId) (hB : Bf w g t f)
    (h : ∀ V, Bf V g t f' → Up w0 V → (∀ b' t'' f'', b' ≠ g → Bf w b' t'' f'' → Bf V b' t'' f'') → wpList P ops Q rest (a.put o.dst undef) V) : wpList P ops Q (o :: rest) a w :=
  wpList_store_row hgd ty x y ho g _ hx hy t _ hB hi rfl (by simp [Value.oneCell']) (h _ hB.set (U.setRow hb _) fun b' _ _ hne h' => (setRow_other w g b' _ hne).trans h')

theorem M.fits_bit (i : Nat) (a : 1 ≤ i) (b : i ≤ 14) (p : Int) (h1 : 0 ≤ p) (h2 : p < 18446744073709551616) : (Go.bits BinOp.andNot IntKind.u64 p (M.msk (M.tb i)) != 0) = !decide (p ≤ M.msk (M.tb i)) := by
  have ok := M.ok i a b
  have hW := ok.W
  have hm := ok.hm
  obtain ⟨P, rfl⟩ := Int.eq_ofNat_of_zero_le h1
  obtain ⟨n, hn, hn64⟩ : ∃ n : Nat, (M.tb i).W.toNat = n ∧ n ≤ 64 := ⟨_, rfl, by omega⟩
  have e : M.msk (M.tb i) = ((2 ^ n - 1 : Nat) : Int) := by
    have := Nat.pow_pos (n := n) (show 0 < 2 by decide)
    unfold M.msk
    rw [hn, Int.ofNat_sub this]
    simp
  have h64 : 2 ^ n ≤ 2 ^ 64 := Nat.pow_le_pow_right (by decide) hn64
  have h65 : (2 : Nat) ^ 64 = 18446744073709551616 := by decide
  rw [h65] at h64
  clear h65
  rw [e, u64_andNot _ _ h1 h2 (by omega) (by omega)]
  simp only [Int.toNat_natCast]
  rw [M.and_not_low n P (by omega) hn64]
  have hp := Nat.pow_pos (n := n) (show 0 < 2 by decide)
  by_cases hc : P < 2 ^ n
  · rw [Nat.mod_eq_of_lt hc, Nat.sub_self]
    have : ((P : Int) ≤ ((2 ^ n - 1 : Nat) : Int)) := by omega
    simp [this]
  · have hlt := Nat.mod_lt P hp
    have : ¬ ((P : Int) ≤ ((2 ^ n - 1 : Nat) : Int)) := by omega
    rw [decide_eq_false this, Bool.not_false, bne_iff_ne]
    omega
theorem M.mag_bit (i : Nat) (a : 1 ≤ i) (b : i ≤ 14) (hk : (M.tb i).k ≠ 4) (p : Int) (h1 : 0 ≤ p) (h2 : p ≤ M.msk (M.tb i)) : Go.bits BinOp.andNot IntKind.u64 p (M.sgn (M.tb i)) = p % M.half (M.tb i) := by
  have ok := M.ok i a b
  have hW := ok.W
  have hm := ok.hm
  obtain ⟨P, rfl⟩ := Int.eq_ofNat_of_zero_le h1
  obtain ⟨n, hn, hn64⟩ : ∃ n : Nat, (M.tb i).W.toNat = n + 1 ∧ n < 64 := ⟨(M.tb i).W.toNat - 1, by omega, by omega⟩
  have e : M.half (M.tb i) = ((2 ^ n : Nat) : Int) := by
    unfold M.half
    rw [hn]
    simp
  have e2 : M.sgn (M.tb i) = ((2 ^ n : Nat) : Int) := by rw [M.sgn, if_neg hk, e]
  have h64 : 2 ^ n < 2 ^ 64 := Nat.pow_lt_pow_right (by decide) hn64
  have h65 : (2 : Nat) ^ 64 = 18446744073709551616 := by decide
  rw [h65] at h64
  clear h65
  have hp : P < 2 ^ (n + 1) := by
    have : M.msk (M.tb i) = 2 * ((2 ^ n : Nat) : Int) - 1 := by rw [← e]; exact hm.2.1
    rw [this] at h2
    have := Nat.pow_succ 2 n
    omega
  have hP : (P : Int) < 18446744073709551616 := by
    have : M.msk (M.tb i) ≤ 18446744073709551615 := by have := hm.2.2; have := hm.2.1; omega
    omega
  rw [e2, e, u64_andNot _ _ h1 hP (by omega) (by omega)]
  simp only [Int.toNat_natCast]
  rw [M.and_not_bit n P hp hn64]
  omega
set_option maxHeartbeats 2000000 in
set_option maxRecDepth 100000 in
theorem of_out (w : World) (ii : Int) (h : ii < 1 ∨ 15 ≤ ii) : Calls Tryd.prog 17 #[.int .i64 ii] w (Fn ⟨0, 0, 0, 0, 0, 0, 0⟩ 3 w) := by
  rcases (show ii < 1 ∨ (1 ≤ ii ∧ 15 ≤ ii) by omega) with h1 | ⟨h1, h2⟩
  all_goals
    first | have d1 : decide (ii < 1) = true := decide_eq_true h1 | (have d1 : decide (ii < 1) = false := decide_eq_false (by omega); have d2 : decide (15 ≤ ii) = true := decide_eq_true h2)
    clear h
    have U := Up.refl w
    go_enter Tryd.func17, Tryd.ntmps17
    go_wp2_with fail
    refine bodyPost_ret (v := .tuple #[fv ⟨0, 0, 0, 0, 0, 0, 0⟩, .int .i64 3]) (by simp [results, Tryd.results17, go_sem]) rfl ?_
    exact ⟨rfl, by (repeat (first | exact U | refine Up.setCell ?_ (by first | exact Nat.le_refl _ | omega) _ | refine Up.alloc ?_ _)); try exact U⟩
set_option maxHeartbeats 2000000 in
set_option maxRecDepth 100000 in
theorem bey_any (w : World) (f : M.Fm) (q : Int) (z : Bool) (hz : Hid (M.bey f q = z)) : Calls Tryd.prog 24 #[fv f, .int .u64 q] w (Bz z w) := by
  obtain ⟨k, W, m, b, t, n, x⟩ := f
  rcases (show (t < q ∧ q ≠ n) ∨ (t < q ∧ q = n) ∨ ¬ t < q by omega) with ⟨h1, h2⟩ | ⟨h1, h2⟩ | h1
  · have d1 : decide (t < q) = true := decide_eq_true h1
    have d2 : (q != n) = true := by simpa using h2
    obtain rfl : true = z := by rw [← hz.out]; simp [M.bey, h1, h2]
    clear hz
    have U := Up.refl w
    go_enter Tryd.func24, Tryd.ntmps24
    go_wp2_with fail
    go_ret
    exact ⟨rfl, (Up.refl _).alloc _⟩
  · have d1 : decide (t < q) = true := decide_eq_true h1
    have d2 : (q != n) = false := by simp [h2]
    obtain rfl : false = z := by rw [← hz.out]; simp [M.bey, h2]
    clear hz
    have U := Up.refl w
    go_enter Tryd.func24, Tryd.ntmps24
    go_wp2_with fail
    go_ret
    exact ⟨rfl, (Up.refl _).alloc _⟩
  · have d1 : decide (t < q) = false := decide_eq_false h1
    obtain rfl : false = z := by rw [← hz.out]; simp [M.bey, h1]
    clear hz
    have U := Up.refl w
    go_enter Tryd.func24, Tryd.ntmps24
    go_wp2_with fail
    go_ret
    exact ⟨rfl, (Up.refl _).alloc _⟩
end Go.Proofs.YtadgoeplhichmaaDoor
namespace Go.Proofs.YtadgoeplhichmaaDoor
open Go.RowKit
set_option maxHeartbeats 2000000 in
set_option maxRecDepth 100000 in
theorem fitting_out (w : World) (ii p : Int) (h : ii < 1 ∨ 15 ≤ ii) : Calls Tryd.prog 23 #[.int .i64 ii, .int .u64 p] w (Fn ⟨0, 0, 0, 0, 0, 0, 0⟩ 3 w) := by
  have U := Up.refl w
  go_enter Tryd.func23, Tryd.ntmps23
  go_wp2_with fail
  obtain ⟨V1, hV1⟩ : ∃ V1, w.alloc (.cells #[.int .i64 0, .int .i64 0, .int .i64 0, .int .i64 0, .int .u64 0, .int .u64 0, .int .u64 0] 45) = V1 := ⟨_, rfl⟩
  have uV1 : Up w V1 := by rw [← hV1]; first | exact (Up.refl _).alloc _ | exact ((Up.refl _).alloc _).alloc _ | exact (((Up.refl _).alloc _).alloc _).alloc _ | exact ((((Up.refl _).alloc _).alloc _).alloc _).alloc _ | ((repeat (refine Up.alloc ?_ _)); exact Up.refl _)
  have a : Bf V1 w.heap.size 45 ⟨0, 0, 0, 0, 0, 0, 0⟩ := by rw [← hV1]; exact Bf.mk_ w ⟨0, 0, 0, 0, 0, 0, 0⟩ 45
  rw [hV1]
  clear hV1
  replace U := U.trans uV1
  clear uV1
  refine (of_out _ ii h).mono ?_
  rintro _ w2 ⟨rfl, h2⟩
  replace a := a.up h2
  replace U := U.trans h2
  clear h2
  clear h
  obtain ⟨a0, a1, a2, a3, a4, a5, a6⟩ := Bf.cs a
  have a7 := Bf.lt a
  simp only [Nat.zero_add] at a0 a1 a2 a3 a4 a5 a6 a7
  go_wp2_with (refine store_F rfl 45 (.tmp 4) (.tmp 23) rfl _ _ ⟨0, 0, 0, 0, 0, 0, 0⟩ rfl rfl (by kernel_rfl) w (by first | exact U | exact U.alloc _) (by first | exact Nat.le_refl _ | omega) 45 (by first | exact a | exact a.up ((Up.refl _).alloc _)) ?_; clear U; intro V z U _)
  obtain ⟨z0, z1, z2, z3, z4, z5, z6⟩ := Bf.cs z
  have z7 := Bf.lt z
  simp only [Nat.zero_add] at z0 z1 z2 z3 z4 z5 z6 z7
  refine bodyPost_ret (v := .tuple #[fv ⟨0, 0, 0, 0, 0, 0, 0⟩, .int .i64 3]) (by simp [results, Tryd.results23, go_sem, z0, z1, z2, z3, z4, z5, z6]) rfl ?_
  exact ⟨rfl, by (repeat (first | exact U | refine Up.setCell ?_ (by first | exact Nat.le_refl _ | omega) _ | refine Up.alloc ?_ _)); try exact U⟩
end Go.Proofs.YtadgoeplhichmaaDoor
namespace Go.Proofs.YtadgoeplhichmaaDoor
open Go.RowKit
set_option maxHeartbeats 2000000 in
set_option maxRecDepth 100000 in
theorem fitting_in (w : World) (hF : TabF w) (i : Nat) (h1 : 1 ≤ i) (h2 : i ≤ 14) (p : Int) (p1 : 0 ≤ p) (p2 : p < 18446744073709551616) : Calls Tryd.prog 23 #[.int .i64 (i : Int), .int .u64 p] w (Fn (if p ≤ M.msk (M.tb i) then M.tb i else ⟨0, 0, 0, 0, 0, 0, 0⟩) (M.er i p) w) := by
  have hb := M.fits_bit i h1 h2 p p1 p2
  have ok := M.ok i h1 h2
  obtain ⟨M', hM⟩ : ∃ z, M.msk (M.tb i) = z := ⟨_, rfl⟩
  rw [hM] at hb
  unfold M.er
  rw [hM]
  obtain ⟨f, hf⟩ : ∃ f, M.tb i = f := ⟨_, rfl⟩
  rw [hf] at ok hM ⊢
  have HF := Lib.hid hf
  have HM := Lib.hid hM
  have OK := Lib.hid ok
  clear hf hM ok
  by_cases hc : p ≤ M'
  · rw [if_pos hc, if_pos hc]
    replace hb : (Go.bits BinOp.andNot IntKind.u64 p M' != 0) = false := by rw [hb]; simp [hc]
    have U := Up.refl w
    go_enter Tryd.func23, Tryd.ntmps23
    go_wp2_with fail
    obtain ⟨V1, hV1⟩ : ∃ V1, w.alloc (.cells #[.int .i64 0, .int .i64 0, .int .i64 0, .int .i64 0, .int .u64 0, .int .u64 0, .int .u64 0] 45) = V1 := ⟨_, rfl⟩
    have uV1 : Up w V1 := by rw [← hV1]; first | exact (Up.refl _).alloc _ | exact ((Up.refl _).alloc _).alloc _ | exact (((Up.refl _).alloc _).alloc _).alloc _ | exact ((((Up.refl _).alloc _).alloc _).alloc _).alloc _ | ((repeat (refine Up.alloc ?_ _)); exact Up.refl _)
    have a : Bf V1 w.heap.size 45 ⟨0, 0, 0, 0, 0, 0, 0⟩ := by rw [← hV1]; exact Bf.mk_ w ⟨0, 0, 0, 0, 0, 0, 0⟩ 45
    rw [hV1]
    clear hV1
    replace U := U.trans uV1
    clear uV1
    refine (of_in _ (hF.up U) i f HF h1 h2).mono ?_
    rintro _ w2 ⟨rfl, h2⟩
    replace a := a.up h2
    replace U := U.trans h2
    clear h2
    obtain ⟨a0, a1, a2, a3, a4, a5, a6⟩ := Bf.cs a
    have a7 := Bf.lt a
    simp only [Nat.zero_add] at a0 a1 a2 a3 a4 a5 a6 a7
    go_wp2_with fail
    clear a0 a1 a2 a3 a4 a5 a6 a7
    obtain ⟨V3, hV3⟩ : ∃ V3, w2.alloc (.cells #[.int .i64 f.k, .int .i64 f.W, .int .i64 f.m, .int .i64 f.b, .int .u64 f.t, .int .u64 f.n, .int .u64 f.x] 45) = V3 := ⟨_, rfl⟩
    have uV3 : Up w2 V3 := by rw [← hV3]; first | exact (Up.refl _).alloc _ | exact ((Up.refl _).alloc _).alloc _ | exact (((Up.refl _).alloc _).alloc _).alloc _ | exact ((((Up.refl _).alloc _).alloc _).alloc _).alloc _ | ((repeat (refine Up.alloc ?_ _)); exact Up.refl _)
    have c : Bf V3 w2.heap.size 45 f := by rw [← hV3]; exact Bf.mk_ w2 f 45
    rw [hV3]
    clear hV3
    replace a := a.up uV3
    replace U := U.trans uV3
    clear uV3
    refine (mask_any _ f OK.out M' HM).mono ?_
    rintro _ w4 ⟨rfl, h4⟩
    replace a := a.up h4
    replace c := c.up h4
    replace U := U.trans h4
    clear h4
    clear hc OK HM HF h1 h2 hF p1 p2
    obtain ⟨c0, c1, c2, c3, c4, c5, c6⟩ := Bf.cs c
    have c7 := Bf.lt c
    simp only [Nat.zero_add] at c0 c1 c2 c3 c4 c5 c6 c7
    go_wp2_with (refine store_F rfl 45 (.tmp 4) (.tmp 23) rfl _ _ f rfl rfl (by kernel_rfl) w (by first | exact U | exact U.alloc _) (by first | exact Nat.le_refl _ | omega) 45 (by first | exact a | exact a.up ((Up.refl _).alloc _)) ?_; clear U; intro V z U _)
    obtain ⟨z0, z1, z2, z3, z4, z5, z6⟩ := Bf.cs z
    have z7 := Bf.lt z
    simp only [Nat.zero_add] at z0 z1 z2 z3 z4 z5 z6 z7
    refine bodyPost_ret (v := .tuple #[fv f, .int .i64 0]) (by simp [results, Tryd.results23, go_sem, z0, z1, z2, z3, z4, z5, z6]) rfl ?_
    exact ⟨rfl, by (repeat (first | exact U | refine Up.setCell ?_ (by first | exact Nat.le_refl _ | omega) _ | refine Up.alloc ?_ _)); try exact U⟩
  · rw [if_neg hc, if_neg hc]
    replace hb : (Go.bits BinOp.andNot IntKind.u64 p M' != 0) = true := by rw [hb]; simp [hc]
    have U := Up.refl w
    go_enter Tryd.func23, Tryd.ntmps23
    go_wp2_with fail
    obtain ⟨V1, hV1⟩ : ∃ V1, w.alloc (.cells #[.int .i64 0, .int .i64 0, .int .i64 0, .int .i64 0, .int .u64 0, .int .u64 0, .int .u64 0] 45) = V1 := ⟨_, rfl⟩
    have uV1 : Up w V1 := by rw [← hV1]; first | exact (Up.refl _).alloc _ | exact ((Up.refl _).alloc _).alloc _ | exact (((Up.refl _).alloc _).alloc _).alloc _ | exact ((((Up.refl _).alloc _).alloc _).alloc _).alloc _ | ((repeat (refine Up.alloc ?_ _)); exact Up.refl _)
    have a : Bf V1 w.heap.size 45 ⟨0, 0, 0, 0, 0, 0, 0⟩ := by rw [← hV1]; exact Bf.mk_ w ⟨0, 0, 0, 0, 0, 0, 0⟩ 45
    rw [hV1]
    clear hV1
    replace U := U.trans uV1
    clear uV1
    refine (of_in _ (hF.up U) i f HF h1 h2).mono ?_
    rintro _ w2 ⟨rfl, h2⟩
    replace a := a.up h2
    replace U := U.trans h2
    clear h2
    obtain ⟨a0, a1, a2, a3, a4, a5, a6⟩ := Bf.cs a
    have a7 := Bf.lt a
    simp only [Nat.zero_add] at a0 a1 a2 a3 a4 a5 a6 a7
    go_wp2_with fail
    clear a0 a1 a2 a3 a4 a5 a6 a7
    obtain ⟨V3, hV3⟩ : ∃ V3, w2.alloc (.cells #[.int .i64 f.k, .int .i64 f.W, .int .i64 f.m, .int .i64 f.b, .int .u64 f.t, .int .u64 f.n, .int .u64 f.x] 45) = V3 := ⟨_, rfl⟩
    have uV3 : Up w2 V3 := by rw [← hV3]; first | exact (Up.refl _).alloc _ | exact ((Up.refl _).alloc _).alloc _ | exact (((Up.refl _).alloc _).alloc _).alloc _ | exact ((((Up.refl _).alloc _).alloc _).alloc _).alloc _ | ((repeat (refine Up.alloc ?_ _)); exact Up.refl _)
    have c : Bf V3 w2.heap.size 45 f := by rw [← hV3]; exact Bf.mk_ w2 f 45
    rw [hV3]
    clear hV3
    replace a := a.up uV3
    replace U := U.trans uV3
    clear uV3
    refine (mask_any _ f OK.out M' HM).mono ?_
    rintro _ w4 ⟨rfl, h4⟩
    replace a := a.up h4
    replace c := c.up h4
    replace U := U.trans h4
    clear h4
    clear hc OK HM HF h1 h2 hF p1 p2
    obtain ⟨c0, c1, c2, c3, c4, c5, c6⟩ := Bf.cs c
    have c7 := Bf.lt c
    simp only [Nat.zero_add] at c0 c1 c2 c3 c4 c5 c6 c7
    go_wp2_with (refine store_F rfl 45 (.tmp 4) (.tmp 22) rfl _ _ ⟨0, 0, 0, 0, 0, 0, 0⟩ rfl rfl (by kernel_rfl) w (by first | exact U | exact U.alloc _) (by first | exact Nat.le_refl _ | omega) 45 (by first | exact a | exact a.up ((Up.refl _).alloc _)) ?_; clear U; intro V z U _)
    obtain ⟨z0, z1, z2, z3, z4, z5, z6⟩ := Bf.cs z
    have z7 := Bf.lt z
    simp only [Nat.zero_add] at z0 z1 z2 z3 z4 z5 z6 z7
    refine bodyPost_ret (v := .tuple #[fv ⟨0, 0, 0, 0, 0, 0, 0⟩, .int .i64 1]) (by simp [results, Tryd.results23, go_sem, z0, z1, z2, z3, z4, z5, z6]) rfl ?_
    exact ⟨rfl, by (repeat (first | exact U | refine Up.setCell ?_ (by first | exact Nat.le_refl _ | omega) _ | refine Up.alloc ?_ _)); try exact U⟩
end Go.Proofs.YtadgoeplhichmaaDoor
/-
  Forms: Fits, Canon.
-/
namespace Go.Proofs.YtadgoeplhichmaaDoor
open Go.RowKit

theorem cell_up_ {w w' : World} (h : Up w w') {p : Addr} {v : Value} (hc : w.cell? p = some v) : w'.cell? p = some v := by
  rw [Below.cell h (World.block_lt_of_cell? _ _ hc)]; exact hc
set_option maxHeartbeats 2000000 in
set_option maxRecDepth 100000 in
theorem fits_out (w : World) (ii p : Int) (h : ii < 1 ∨ 15 ≤ ii) : Calls Tryd.prog 40 #[.int .i64 ii, .int .u64 p] w (Nz 3 w) := by
  have U := Up.refl w
  go_enter Tryd.func40, Tryd.ntmps40
  go_wp2_with fail
  refine (fitting_out _ ii p h).mono ?_
  rintro _ w1 ⟨rfl, h1⟩
  replace U := U.trans h1
  clear h1
  clear h
  go_wp2_with fail
  go_ret
  exact ⟨rfl, U.alloc _⟩
set_option maxHeartbeats 2000000 in
set_option maxRecDepth 100000 in
theorem fits_in (w : World) (hF : TabF w) (i : Nat) (h1 : 1 ≤ i) (h2 : i ≤ 14) (p : Int) (p1 : 0 ≤ p) (p2 : p < 18446744073709551616) : Calls Tryd.prog 40 #[.int .i64 (i : Int), .int .u64 p] w (Nz (M.er i p) w) := by
  obtain ⟨e, he⟩ : ∃ e, M.er i p = e := ⟨_, rfl⟩
  obtain ⟨f, hf⟩ : ∃ f : M.Fm, (if p ≤ M.msk (M.tb i) then M.tb i else ⟨0, 0, 0, 0, 0, 0, 0⟩) = f := ⟨_, rfl⟩
  have C := fun W (hF : TabF W) => fitting_in W hF i h1 h2 p p1 p2
  rw [hf, he] at C
  rw [he]
  have CC := Lib.hid C
  clear hf he C p1 p2 h1 h2
  have U := Up.refl w
  go_enter Tryd.func40, Tryd.ntmps40
  go_wp2_with fail
  refine (CC.out _ (hF.up U)).mono ?_
  rintro _ w1 ⟨rfl, h1⟩
  replace U := U.trans h1
  clear h1
  go_wp2_with fail
  go_ret
  exact ⟨rfl, U.alloc _⟩
set_option maxHeartbeats 2000000 in
set_option maxRecDepth 100000 in
theorem canon_out (w : World) (ii p : Int) (h : ii < 1 ∨ 15 ≤ ii) : Calls Tryd.prog 13 #[.int .i64 ii, .int .u64 p] w (Wn 0 3 w) := by
  have U := Up.refl w
  go_enter Tryd.func13, Tryd.ntmps13
  go_wp2_with fail
  refine (fitting_out _ ii p h).mono ?_
  rintro _ w1 ⟨rfl, h1⟩
  replace U := U.trans h1
  clear h1
  clear h
  go_wp2_with fail
  go_ret2
  exact ⟨rfl, U.alloc _⟩
set_option maxHeartbeats 2000000 in
set_option maxRecDepth 100000 in
theorem canon_big (w : World) (hF : TabF w) (i : Nat) (h1 : 1 ≤ i) (h2 : i ≤ 14) (p : Int) (p1 : 0 ≤ p) (p2 : p < 18446744073709551616) (hp : ¬ p ≤ M.msk (M.tb i)) : Calls Tryd.prog 13 #[.int .i64 (i : Int), .int .u64 p] w (Wn 0 1 w) := by
  have C := fun W (hF : TabF W) => fitting_in W hF i h1 h2 p p1 p2
  rw [if_neg hp, M.er, if_neg hp] at C
  have CC := Lib.hid C
  clear C hp p1 p2 h1 h2
  have U := Up.refl w
  go_enter Tryd.func13, Tryd.ntmps13
  go_wp2_with fail
  refine (CC.out _ (hF.up U)).mono ?_
  rintro _ w1 ⟨rfl, h1⟩
  replace U := U.trans h1
  clear h1
  go_wp2_with fail
  go_ret2
  exact ⟨rfl, U.alloc _⟩
set_option maxHeartbeats 2000000 in
set_option maxRecDepth 100000 in
theorem canon_in (w : World) (hF : TabF w) (i : Nat) (h1 : 1 ≤ i) (h2 : i ≤ 14) (p : Int) (p1 : 0 ≤ p) (p2 : p < 18446744073709551616) (hp : p ≤ M.msk (M.tb i)) (c : Int) (hc : Hid (M.cn i p = c)) : Calls Tryd.prog 13 #[.int .i64 (i : Int), .int .u64 p] w (Wn c 0 w) := by
  have C := fun W (hF : TabF W) => fitting_in W hF i h1 h2 p p1 p2
  rw [if_pos hp, M.er, if_pos hp] at C
  have CC := Lib.hid C
  have mg := M.mag_bit i h1 h2
  have ok := M.ok i h1 h2
  have hcn := hc.out
  unfold M.cn at hcn
  clear C hc
  obtain ⟨f, hf⟩ : ∃ f, M.tb i = f := ⟨_, rfl⟩
  rw [hf] at CC ok hcn mg hp
  clear hf
  have OK := Lib.hid ok
  obtain ⟨S, hS⟩ : ∃ S, M.sgn f = S := ⟨_, rfl⟩
  obtain ⟨q, hq⟩ : ∃ q, p % M.half f = q := ⟨_, rfl⟩
  obtain ⟨z, hz⟩ : ∃ z, M.bey f q = z := ⟨_, rfl⟩
  rw [hq, hz] at hcn
  by_cases hk : f.k = 2
  ·
    have e : Go.bits BinOp.andNot IntKind.u64 p S = q := by rw [← hS, ← hq]; exact mg (by omega) p p1 hp
    have d : (f.k == 2) = true := by simp [hk]
    have HS := Lib.hid hS
    have HZ := Lib.hid hz
    have fin : Hid ((if z = true then f.x else p) = c) := by show _ = _; rw [← hcn]; simp [hk]
    clear hS hz hq mg hcn hk ok p1 p2 hp
    have U := Up.refl w
    go_enter Tryd.func13, Tryd.ntmps13
    go_wp2_with fail
    refine (CC.out _ (hF.up U)).mono ?_
    rintro _ w1 ⟨rfl, h1⟩
    replace U := U.trans h1
    clear h1
    clear CC
    go_wp2_with fail
    obtain ⟨V2, hV2⟩ : ∃ V2, w1.alloc (.cells #[.int .i64 f.k, .int .i64 f.W, .int .i64 f.m, .int .i64 f.b, .int .u64 f.t, .int .u64 f.n, .int .u64 f.x] 45) = V2 := ⟨_, rfl⟩
    have uV2 : Up w1 V2 := by rw [← hV2]; first | exact (Up.refl _).alloc _ | exact ((Up.refl _).alloc _).alloc _ | exact (((Up.refl _).alloc _).alloc _).alloc _ | exact ((((Up.refl _).alloc _).alloc _).alloc _).alloc _ | ((repeat (refine Up.alloc ?_ _)); exact Up.refl _)
    have c : Bf V2 w1.heap.size 45 f := by rw [← hV2]; exact Bf.mk_ w1 f 45
    rw [hV2]
    clear hV2
    replace U := U.trans uV2
    clear uV2
    have CS := Lib.hid (fun W (_ : Up V2 W) => sign_any W f OK.out S HS)
    have CB := Lib.hid (fun W (_ : Up V2 W) => bey_any W f q z HZ)
    obtain ⟨c0, c1, c2, c3, c4, c5, c6⟩ := Bf.cs c
    have c7 := Bf.lt c
    simp only [Nat.zero_add] at c0 c1 c2 c3 c4 c5 c6 c7
    go_region_held3 (fun w' => w'.cell? ⟨w1.heap.size, 0, none⟩ = some (.int .i64 f.k) ∧ w'.cell? ⟨w1.heap.size, 1, none⟩ = some (.int .i64 f.W) ∧ w'.cell? ⟨w1.heap.size, 2, none⟩ = some (.int .i64 f.m) ∧ w'.cell? ⟨w1.heap.size, 3, none⟩ = some (.int .i64 f.b) ∧ w'.cell? ⟨w1.heap.size, 4, none⟩ = some (.int .u64 f.t) ∧ w'.cell? ⟨w1.heap.size, 5, none⟩ = some (.int .u64 f.n) ∧ w'.cell? ⟨w1.heap.size, 6, none⟩ = some (.int .u64 f.x)) (go_keep) (first
        | (go_at_call 25; (with_reducible refine (CS.out _ ?_).mono ?_); (first | with_reducible assumption | exact (Up.refl _).drewN 1); rintro _ w3 ⟨rfl, h3⟩; have uw3 : Up V2 w3 := Up.trans (by first | with_reducible assumption | exact (Up.refl V2).drewN 1) h3; have cc00 := cell_up_ uw3 c0; have cc01 := cell_up_ uw3 c1; have cc02 := cell_up_ uw3 c2; have cc03 := cell_up_ uw3 c3; have cc04 := cell_up_ uw3 c4; have cc05 := cell_up_ uw3 c5; have cc06 := cell_up_ uw3 c6)
        | (go_at_call 24; (with_reducible refine (CB.out _ ?_).mono ?_); (first | with_reducible assumption | exact (Up.refl _).drewN 1); rintro _ w4 ⟨rfl, h4⟩; have uw4 : Up V2 w4 := Up.trans (by first | with_reducible assumption | exact (Up.refl V2).drewN 1) h4; have cc10 := cell_up_ uw4 c0; have cc11 := cell_up_ uw4 c1; have cc12 := cell_up_ uw4 c2; have cc13 := cell_up_ uw4 c3; have cc14 := cell_up_ uw4 c4; have cc15 := cell_up_ uw4 c5; have cc16 := cell_up_ uw4 c6))
    clear cc00
    clear cc01
    clear cc02
    clear cc03
    clear cc04
    clear cc05
    clear cc06
    clear cc10
    clear cc11
    clear cc12
    clear cc13
    clear cc14
    clear cc15
    clear cc16
    clear h3
    clear h4
    clear c0 c1 c2 c3 c4 c5 c6 c7
    replace c := c.up uw4
    replace U := U.trans uw4
    clear uw3
    clear uw4
    cases z
    ·
      have fin2 := fin.out
      rw [if_neg (by decide)] at fin2
      subst fin2
      obtain ⟨c0, c1, c2, c3, c4, c5, c6⟩ := Bf.cs c
      have c7 := Bf.lt c
      simp only [Nat.zero_add] at c0 c1 c2 c3 c4 c5 c6 c7
      go_wp2_with fail
      clear c0 c1 c2 c3 c4 c5 c6 c7
      go_ret2
      exact ⟨rfl, U⟩
    ·
      have fin2 := fin.out
      rw [if_pos rfl] at fin2
      subst fin2
      obtain ⟨c0, c1, c2, c3, c4, c5, c6⟩ := Bf.cs c
      have c7 := Bf.lt c
      simp only [Nat.zero_add] at c0 c1 c2 c3 c4 c5 c6 c7
      go_wp2_with fail
      clear c0 c1 c2 c3 c4 c5 c6 c7
      go_ret2
      exact ⟨rfl, U⟩
  ·
    have d : (f.k == 2) = false := by simp [hk]
    rw [if_neg (by simp [hk])] at hcn
    subst hcn
    clear hS hz hq mg hk ok p1 p2 hp
    have U := Up.refl w
    go_enter Tryd.func13, Tryd.ntmps13
    go_wp2_with fail
    refine (CC.out _ (hF.up U)).mono ?_
    rintro _ w5 ⟨rfl, h5⟩
    replace U := U.trans h5
    clear h5
    clear CC
    go_wp2_with fail
    obtain ⟨V6, hV6⟩ : ∃ V6, w5.alloc (.cells #[.int .i64 f.k, .int .i64 f.W, .int .i64 f.m, .int .i64 f.b, .int .u64 f.t, .int .u64 f.n, .int .u64 f.x] 45) = V6 := ⟨_, rfl⟩
    have uV6 : Up w5 V6 := by rw [← hV6]; first | exact (Up.refl _).alloc _ | exact ((Up.refl _).alloc _).alloc _ | exact (((Up.refl _).alloc _).alloc _).alloc _ | exact ((((Up.refl _).alloc _).alloc _).alloc _).alloc _ | ((repeat (refine Up.alloc ?_ _)); exact Up.refl _)
    have c : Bf V6 w5.heap.size 45 f := by rw [← hV6]; exact Bf.mk_ w5 f 45
    rw [hV6]
    clear hV6
    replace U := U.trans uV6
    clear uV6
    obtain ⟨c0, c1, c2, c3, c4, c5, c6⟩ := Bf.cs c
    have c7 := Bf.lt c
    simp only [Nat.zero_add] at c0 c1 c2 c3 c4 c5 c6 c7
    refine wp_region_held_drew (S := fun w' => w'.cell? ⟨w5.heap.size, 0, none⟩ = some (.int .i64 f.k) ∧ w'.cell? ⟨w5.heap.size, 1, none⟩ = some (.int .i64 f.W) ∧ w'.cell? ⟨w5.heap.size, 2, none⟩ = some (.int .i64 f.m) ∧ w'.cell? ⟨w5.heap.size, 3, none⟩ = some (.int .i64 f.b) ∧ w'.cell? ⟨w5.heap.size, 4, none⟩ = some (.int .u64 f.t) ∧ w'.cell? ⟨w5.heap.size, 5, none⟩ = some (.int .u64 f.n) ∧ w'.cell? ⟨w5.heap.size, 6, none⟩ = some (.int .u64 f.x)) (by kernel_rfl) ?_ (fun hHeld => ?_)
    · try dsimp only
      go_keep
    refine wpAnyH_take (i := 0) (v := ?_) rfl (by kernel_rfl) (by kernel_rfl) (by kernel_rfl) (fun _ _ _ h => h) (Or.inl ⟨by rfl, ?_⟩) (by assumption) ?_
    rotate_left
    · intro w hSw
      (try dsimp only at hSw)
      go_simp
      all_goals with_reducible rfl
    try simp only [Act.put, List.setIfInBounds_toArray, List.set_cons_zero, List.set_cons_succ, List.getElem_toArray, List.getElem_cons_zero]
    refine wpAnyH_take (i := 1) (v := ?_) rfl (by kernel_rfl) (by kernel_rfl) (by kernel_rfl) (fun _ _ _ h => h) (Or.inl ⟨by rfl, ?_⟩) (by assumption) ?_
    rotate_left
    · intro w hSw
      (try dsimp only at hSw)
      go_simp
      all_goals with_reducible rfl
    try simp only [Act.put, List.setIfInBounds_toArray, List.set_cons_zero, List.set_cons_succ, List.getElem_toArray, List.getElem_cons_zero, List.getElem_cons_succ]
    refine wpAnyH_take (i := 2) (v := ?_) rfl (by kernel_rfl) (by kernel_rfl) (by kernel_rfl) (fun _ _ _ h => h) (Or.inl ⟨by rfl, ?_⟩) (by assumption) ?_
    rotate_left
    · intro w hSw
      (try dsimp only at hSw)
      go_simp
      all_goals with_reducible rfl
    try simp only [Act.put, List.setIfInBounds_toArray, List.set_cons_zero, List.set_cons_succ, List.getElem_toArray, List.getElem_cons_zero, List.getElem_cons_succ]
    refine wpAnyH_take (i := 3) (v := ?_) rfl (by kernel_rfl) (by kernel_rfl) (by kernel_rfl) (fun _ _ _ h => h) (Or.inl ⟨by rfl, ?_⟩) (by assumption) ?_
    rotate_left
    · intro w hSw
      (try dsimp only at hSw)
      go_simp
      all_goals with_reducible rfl
    try simp only [Act.put, List.setIfInBounds_toArray, List.set_cons_zero, List.set_cons_succ, List.getElem_toArray, List.getElem_cons_zero, List.getElem_cons_succ]
    refine wpAnyH_take (i := 4) (v := undef) rfl (by kernel_rfl) (by kernel_rfl) (by kernel_rfl) (fun _ _ _ h => h) (Or.inr ⟨by rfl, rfl⟩) (by assumption) ?_
    try simp only [Act.put, List.setIfInBounds_toArray, List.set_cons_zero, List.set_cons_succ, List.getElem_toArray, List.getElem_cons_zero, List.getElem_cons_succ]
    refine wpAnyH_take (i := 5) (v := undef) rfl (by kernel_rfl) (by kernel_rfl) (by kernel_rfl) (fun _ _ _ h => h) (Or.inr ⟨by rfl, rfl⟩) (by assumption) ?_
    try simp only [Act.put, List.setIfInBounds_toArray, List.set_cons_zero, List.set_cons_succ, List.getElem_toArray, List.getElem_cons_zero, List.getElem_cons_succ]
    refine wpAnyH_take (i := 6) (v := undef) rfl (by kernel_rfl) (by kernel_rfl) (by kernel_rfl) (fun _ _ _ h => h) (Or.inr ⟨by rfl, rfl⟩) (by assumption) ?_
    try simp only [Act.put, List.setIfInBounds_toArray, List.set_cons_zero, List.set_cons_succ, List.getElem_toArray, List.getElem_cons_zero, List.getElem_cons_succ]
    refine wpAnyH_take (i := 7) (v := undef) rfl (by kernel_rfl) (by kernel_rfl) (by kernel_rfl) (fun _ _ _ h => h) (Or.inr ⟨by rfl, rfl⟩) (by assumption) ?_
    try simp only [Act.put, List.setIfInBounds_toArray, List.set_cons_zero, List.set_cons_succ, List.getElem_toArray, List.getElem_cons_zero, List.getElem_cons_succ]
    refine wpAnyH_take (i := 8) (v := undef) rfl (by kernel_rfl) (by kernel_rfl) (by kernel_rfl) (fun _ _ _ h => h) (Or.inr ⟨by rfl, rfl⟩) (by assumption) ?_
    try simp only [Act.put, List.setIfInBounds_toArray, List.set_cons_zero, List.set_cons_succ, List.getElem_toArray, List.getElem_cons_zero, List.getElem_cons_succ]
    refine wpAnyH_take (i := 9) (v := undef) rfl (by kernel_rfl) (by kernel_rfl) (by kernel_rfl) (fun _ _ _ h => h) (Or.inr ⟨by rfl, rfl⟩) (by assumption) ?_
    try simp only [Act.put, List.setIfInBounds_toArray, List.set_cons_zero, List.set_cons_succ, List.getElem_toArray, List.getElem_cons_zero, List.getElem_cons_succ]
    refine wpAnyH_take (i := 10) (v := ?_) rfl (by kernel_rfl) (by kernel_rfl) (by kernel_rfl) (fun _ _ _ h => h) (Or.inl ⟨by rfl, ?_⟩) (by assumption) ?_
    rotate_left
    · intro w hSw
      (try dsimp only at hSw)
      go_simp
      all_goals with_reducible rfl
    try simp only [Act.put, List.setIfInBounds_toArray, List.set_cons_zero, List.set_cons_succ, List.getElem_toArray, List.getElem_cons_zero, List.getElem_cons_succ]
    refine wpAnyH_done (by kernel_rfl) ?_ _
    clear hHeld
    clear c0 c1 c2 c3 c4 c5 c6 c7
    obtain ⟨c0, c1, c2, c3, c4, c5, c6⟩ := Bf.cs c
    have c7 := Bf.lt c
    simp only [Nat.zero_add] at c0 c1 c2 c3 c4 c5 c6 c7
    go_wp2_with fail
    clear c0 c1 c2 c3 c4 c5 c6 c7
    go_ret2
    exact ⟨rfl, by first | exact U | exact U.drewN _ | exact U.drew⟩
end Go.Proofs.YtadgoeplhichmaaDoor
/-
  The reference of layer 4: Signed forms.
-/
namespace Go.Proofs.YtadgoeplhichmaaDoor
open Go.RowKit

theorem Bf.put4 {w : World} {b : Nat} {ty : TypeId} {f : M.Fm} (h : Bf w b ty f) (v : Int) : Bf (w.setCell ⟨b, 4, none⟩ (.int .u64 v)) b ty ⟨f.k, f.W, f.m, f.b, v, f.n, f.x⟩ := by
  unfold Bf at h ⊢
  rw [setCell_eq_setRow w b 4 _ ty (0, 0) _ h, setRow_heap w b _ _ ty _ h]
  rfl
theorem Bf.put6 {w : World} {b : Nat} {ty : TypeId} {f : M.Fm} (h : Bf w b ty f) (v : Int) : Bf (w.setCell ⟨b, 6, none⟩ (.int .u64 v)) b ty ⟨f.k, f.W, f.m, f.b, f.t, f.n, v⟩ := by
  unfold Bf at h ⊢
  rw [setCell_eq_setRow w b 6 _ ty (0, 0) _ h, setRow_heap w b _ _ ty _ h]
  rfl
theorem wp_gen {P : Program} {C : Code} {Q : Exit → Act → World → Prop} {a : Act} {w : World} (h : ∀ V, V = w → C.wp P Q a V) : C.wp P Q a w := h w rfl

end Go.Proofs.YtadgoeplhichmaaDoor
namespace Go.Proofs.YtadgoeplhichmaaDoor
open Go.RowKit
end Go.Proofs.YtadgoeplhichmaaDoor
/-
  The reference of layer 4: Signed forms.
-/
namespace Go.Proofs.YtadgoeplhichmaaDoor
open Go.RowKit
end Go.Proofs.YtadgoeplhichmaaDoor
/-
  The reference of layer 4: Of, the forms one by one.
-/
namespace Go.Proofs.YtadgoeplhichmaaDoor
open Go.RowKit
end Go.Proofs.YtadgoeplhichmaaDoor
/-
  The reference of layer 4: Of.
-/
namespace Go.Proofs.YtadgoeplhichmaaDoor
open Go.RowKit
end Go.Proofs.YtadgoeplhichmaaDoor
/-
  The reference of layer 4: Mask, Sign, Fits, Canon.
-/
namespace Go.Proofs.YtadgoeplhichmaaDoor
open Go.RowKit
end Go.Proofs.YtadgoeplhichmaaDoor
