import Derived.Test.YtijpffgocookaaaGreatDoorQWObm
import Derived.Deep.RegionHeld3
import Derived.Deep.DeepCutAuto
import Derived.Deep.CutBlock
set_option maxHeartbeats 32000000
set_option linter.unusedVariables false
set_option linter.unusedSimpArgs false
namespace Go.Proofs.YtijpffgocookaaaGreatDoor
open Go.RowKit
namespace M
structure Fm where
 k : Int
 W : Int
 m : Int
 b : Int
 t : Int
 n : Int
 x : Int
def tb : Nat → Fm
 | 1 => ⟨1, 8, 0, 0, 127, 0, 128⟩
 | 2 => ⟨1, 16, 0, 0, 32767, 0, 32768⟩
 | 3 => ⟨1, 32, 0, 0, 2147483647, 0, 2147483648⟩
 | 4 => ⟨1, 64, 0, 0, 9223372036854775807, 0, 9223372036854775808⟩
 | 5 => ⟨2, 8, 3, 7, 126, 0, 127⟩
 | 6 => ⟨2, 8, 2, 15, 123, 124, 126⟩
 | 7 => ⟨2, 6, 2, 3, 31, 0, 0⟩
 | 8 => ⟨2, 6, 3, 1, 31, 0, 0⟩
 | 9 => ⟨2, 4, 1, 1, 7, 0, 0⟩
 | 10 => ⟨3, 8, 6, 0, 127, 0, 0⟩
 | 11 => ⟨4, 8, 0, 127, 254, 0, 255⟩
 | 12 => ⟨2, 16, 10, 15, 31743, 31744, 32256⟩
 | 13 => ⟨2, 32, 23, 127, 2139095039, 2139095040, 2143289344⟩
 | 14 => ⟨2, 64, 52, 1023, 9218868437227405311, 9218868437227405312, 9221120237041090560⟩
 | _ => ⟨0, 0, 0, 0, 0, 0, 0⟩
def msk (f : Fm) : Int := 2 ^ f.W.toNat - 1
def half (f : Fm) : Int := 2 ^ (f.W.toNat - 1)
def sgn (f : Fm) : Int := if f.k = 4 then 0 else half f
def er (i : Nat) (p : Int) : Int := if p ≤ msk (tb i) then 0 else 1
theorem all14 {p : Nat → Prop} (h1 : p 1) (h2 : p 2) (h3 : p 3) (h4 : p 4) (h5 : p 5) (h6 : p 6) (h7 : p 7) (h8 : p 8) (h9 : p 9) (h10 : p 10) (h11 : p 11) (h12 : p 12) (h13 : p 13) (h14 : p 14)
  (i : Nat) (a : 1 ≤ i) (b : i ≤ 14) : p i := by
 rcases (show i = 1 ∨ i = 2 ∨ i = 3 ∨ i = 4 ∨ i = 5 ∨ i = 6 ∨ i = 7 ∨ i = 8 ∨ i = 9 ∨ i = 10 ∨ i = 11 ∨ i = 12 ∨ i = 13 ∨ i = 14 by omega) with rfl | rfl | rfl | rfl | rfl | rfl | rfl | rfl | rfl | rfl | rfl | rfl | rfl | rfl <;> assumption
structure Ok (f : Fm) : Prop where
 W : f.W = 4 ∨ f.W = 6 ∨ f.W = 8 ∨ f.W = 16 ∨ f.W = 32 ∨ f.W = 64
 k : f.k = 1 ∨ f.k = 2 ∨ f.k = 3 ∨ f.k = 4
 hm : 0 < half f ∧ msk f = 2 * half f - 1 ∧ half f ≤ 9223372036854775808
 t : 0 < f.t ∧ f.t ≤ msk f
 n : 0 ≤ f.n ∧ f.n ≤ msk f
 x : 0 ≤ f.x ∧ f.x ≤ msk f
 two : f.k = 2 → f.t < half f ∧ f.x < half f ∧ (f.x = 0 → f.t + 1 = half f) ∧ (f.x ≠ 0 → f.t < f.x ∧ f.x ≠ f.n)
theorem ok (i : Nat) (a : 1 ≤ i) (b : i ≤ 14) : Ok (tb i) := by
 refine all14 (p := fun i => Ok (tb i)) ?_ ?_ ?_ ?_ ?_ ?_ ?_ ?_ ?_ ?_ ?_ ?_ ?_ ?_ i a b <;> exact ⟨by decide, by decide, by decide, by decide, by decide, by decide, by decide⟩
theorem and_not_low (n p : Nat) (hp : p < 18446744073709551616) (hn : n ≤ 64) : p &&& (18446744073709551615 - (2 ^ n - 1)) = p - p % 2 ^ n := by
 have e : 18446744073709551615 - (2 ^ n - 1) = (2 ^ (64 - n) - 1) * 2 ^ n := by
  have h : 2 ^ (64 - n) * 2 ^ n = 18446744073709551616 := by rw [← Nat.pow_add, show 64 - n + n = 64 by omega]
  have h2 := Nat.pow_pos (n := n) (show 0 < 2 by decide)
  rw [Nat.sub_mul, h]
  omega
 apply Nat.eq_of_testBit_eq
 intro j
 have hd : p - p % 2 ^ n = (p / 2 ^ n) * 2 ^ n := by have := Nat.div_add_mod p (2 ^ n); rw [Nat.mul_comm (p / 2 ^ n)]; omega
 rw [Nat.testBit_and, e, hd, Nat.testBit_mul_two_pow, Nat.testBit_mul_two_pow, Nat.testBit_two_pow_sub_one, Nat.testBit_div_two_pow]
 by_cases hj : n ≤ j
 ·by_cases hk : j - n < 64 - n
  ·simp [hj, hk, show j - n + n = j by omega]
  ·have : p.testBit j = false := by
    apply Nat.testBit_lt_two_pow
    have : 2 ^ 64 ≤ 2 ^ j := Nat.pow_le_pow_right (by decide) (by omega)
    have h64 : (2 : Nat) ^ 64 = 18446744073709551616 := by decide
    omega
   simp [hj, hk, this, show j - n + n = j by omega]
 ·simp [hj]
theorem and_not_bit (n p : Nat) (hp : p < 2 ^ (n + 1)) (hn : n < 64) : p &&& (18446744073709551615 - 2 ^ n) = p % 2 ^ n := by
 apply Nat.eq_of_testBit_eq
 intro j
 have e : (18446744073709551615 - 2 ^ n).testBit j = (decide (j < 64) && !decide (n = j)) := by
  have h2 : (2 : Nat) ^ n < 2 ^ 64 := Nat.pow_lt_pow_right (by decide) hn
  have h : 18446744073709551615 - 2 ^ n = 2 ^ 64 - (2 ^ n + 1) := by
   have h64 : (2 : Nat) ^ 64 = 18446744073709551616 := by decide
   omega
  rw [h, Nat.testBit_two_pow_sub_succ h2, Nat.testBit_two_pow]
 rw [Nat.testBit_and, e, Nat.testBit_mod_two_pow]
 by_cases h : j < n
 ·simp [h, show j < 64 by omega, show ¬ n = j by omega]
 ·by_cases h2 : n = j
  ·simp [h2]
  ·have : p.testBit j = false := by
    apply Nat.testBit_lt_two_pow
    have : 2 ^ (n + 1) ≤ 2 ^ j := Nat.pow_le_pow_right (by decide) (by omega)
    omega
   simp [h, this]
end M
abbrev fv (f : M.Fm) : Value := .agg #[.int .i64 f.k, .int .i64 f.W, .int .i64 f.m, .int .i64 f.b, .int .u64 f.t, .int .u64 f.n, .int .u64 f.x]
def Wz (z : Int) (w : World) (e : Ending) (w' : World) : Prop := e = .returned (.int .u64 z) ∧ Up w w'
def Nz (z : Int) (w : World) (e : Ending) (w' : World) : Prop := e = .returned (.int .i64 z) ∧ Up w w'
def Bz (t : Bool) (w : World) (e : Ending) (w' : World) : Prop := e = .returned (.bool t) ∧ Up w w'
def Wn (z y : Int) (w : World) (e : Ending) (w' : World) : Prop := e = .returned (.tuple #[.int .u64 z, .int .i64 y]) ∧ Up w w'
def Fn (f : M.Fm) (y : Int) (w : World) (e : Ending) (w' : World) : Prop := e = .returned (.tuple #[fv f, .int .i64 y]) ∧ Up w w'
def Fb (f : M.Fm) (t : Bool) (w : World) (e : Ending) (w' : World) : Prop := e = .returned (.tuple #[fv f, .bool t]) ∧ Up w w'
def Fo (f : M.Fm) (w : World) (e : Ending) (w' : World) : Prop := e = .returned (fv f) ∧ Up w w'
theorem mask_any (w : World) (f : M.Fm) (hf : M.Ok f) (M' : Int) (hM : Hid (M.msk f = M')) : Calls Tryz.prog 152 #[fv f] w (Wz M' w) := by
 obtain ⟨k, W, m, b, t, n, x⟩ := f
 have h := hf.W
 clear hf
 simp only at h
 rcases h with rfl | rfl | rfl | rfl | rfl | rfl <;>
 ·go_enter Tryz.func152, Tryz.ntmps152
  go_wp2_with fail
  go_ret
  exact ⟨ret_int (by rw [← hM.out]; rfl), (Up.refl _).alloc _⟩
theorem sign_any (w : World) (f : M.Fm) (hf : M.Ok f) (S : Int) (hS : Hid (M.sgn f = S)) : Calls Tryz.prog 109 #[fv f] w (Wz S w) := by
 by_cases hk : f.k = 4
 ·have d : decide (f.k = 4) = true := decide_eq_true hk
  obtain ⟨k, W, m, b, t, n, x⟩ := f
  simp only at hk d
  subst hk
  go_enter Tryz.func109, Tryz.ntmps109
  go_wp2_with fail
  go_ret
  exact ⟨ret_int (by rw [← hS.out]; rfl), (Up.refl _).alloc _⟩
 ·obtain ⟨M', hM⟩ : ∃ z, M.msk f = z := ⟨_, rfl⟩
  have h := hf.W
  have mask := mask_any (w.alloc (.cells (fv f).cells 74)) f hf M' hM
  have e : Hid (bits .xor .u64 M' (M' / 2) = S) := by
   show _ = _
   rw [← hM, ← hS.out, M.sgn, if_neg hk]
   unfold M.msk M.half
   rcases h with h | h | h | h | h | h <;> rw [h] <;> decide
  clear hM h hS hf
  have MASK := Lib.hid mask
  clear mask
  have d : (f.k == 4) = false := by simpa using hk
  obtain ⟨k, W, m, b, t, n, x⟩ := f
  simp only at hk d
  go_enter Tryz.func109, Tryz.ntmps109
  go_wp2_with fail
  refine MASK.out.mono ?_
  rintro _ w1 ⟨rfl, u1⟩
  have U := ((Up.refl w).alloc (.cells #[.int .i64 k, .int .i64 W, .int .i64 m, .int .i64 b, .int .u64 t, .int .u64 n, .int .u64 x] 74)).trans u1
  clear u1
  go_wp2_with fail
  go_ret
  exact ⟨ret_int e.out, U⟩
def Cs (w : World) (b o : Nat) (f : M.Fm) : Prop :=
 w.cell? ⟨b, o, none⟩ = some (.int .i64 f.k) ∧ w.cell? ⟨b, o + 1, none⟩ = some (.int .i64 f.W) ∧ w.cell? ⟨b, o + 2, none⟩ = some (.int .i64 f.m) ∧ w.cell? ⟨b, o + 3, none⟩ = some (.int .i64 f.b) ∧ w.cell? ⟨b, o + 4, none⟩ = some (.int .u64 f.t) ∧ w.cell? ⟨b, o + 5, none⟩ = some (.int .u64 f.n) ∧ w.cell? ⟨b, o + 6, none⟩ = some (.int .u64 f.x)
theorem Cs.lt {w : World} {b o : Nat} {f : M.Fm} (h : Cs w b o f) : b < w.heap.size := World.block_lt_of_cell? _ _ h.1
theorem Cs.up {w w' : World} {b o : Nat} {f : M.Fm} (h : Cs w b o f) (hu : Up w w') : Cs w' b o f := by
 have hl := h.lt
 obtain ⟨h0, h1, h2, h3, h4, h5, h6⟩ := h
 exact ⟨by rw [Below.cell hu hl]; exact h0, by rw [Below.cell hu hl]; exact h1, by rw [Below.cell hu hl]; exact h2, by rw [Below.cell hu hl]; exact h3, by rw [Below.cell hu hl]; exact h4, by rw [Below.cell hu hl]; exact h5, by rw [Below.cell hu hl]; exact h6⟩
def TabF (w : World) : Prop := ∀ i, i < 15 → Cs w 0 (i * 7) (M.tb i)
theorem TabF.up {w w' : World} (h : TabF w) (hu : Up w w') : TabF w' := fun i hi => (h i hi).up hu
theorem of_in (w : World) (hF : TabF w) (i : Nat) (f : M.Fm) (hf : Hid (M.tb i = f)) (h1 : 1 ≤ i) (h2 : i ≤ 14) : Calls Tryz.prog 44 #[.int .i64 (i : Int)] w (Fn f 0 w) := by
 have c := hF i (by omega)
 rw [hf.out] at c
 have s0 := c.lt
 obtain ⟨c0, c1, c2, c3, c4, c5, c6⟩ := c
 obtain ⟨k, W, m, b, t, n, x⟩ := f
 simp only at c0 c1 c2 c3 c4 c5 c6
 have d1 : decide ((i : Int) < 1) = false := decide_eq_false (by omega)
 have d2 : decide (15 ≤ (i : Int)) = false := decide_eq_false (by omega)
 clear hf hF
 go_enter Tryz.func44, Tryz.ntmps44
 go_wp2_with fail
 refine bodyPost_ret (v := .tuple #[fv ⟨k, W, m, b, t, n, x⟩, .int .i64 0]) (by simp [results, Tryz.results44, go_sem]) rfl ?_
 exact ⟨rfl, (Up.refl _).alloc _⟩
def Bf (w : World) (b : Nat) (ty : TypeId) (f : M.Fm) : Prop :=
 w.heap[b]? = some (.cells #[.int .i64 f.k, .int .i64 f.W, .int .i64 f.m, .int .i64 f.b, .int .u64 f.t, .int .u64 f.n, .int .u64 f.x] ty (0, 0))
theorem Bf.mk_ (w : World) (f : M.Fm) (ty : TypeId) : Bf (w.alloc (.cells #[.int .i64 f.k, .int .i64 f.W, .int .i64 f.m, .int .i64 f.b, .int .u64 f.t, .int .u64 f.n, .int .u64 f.x] ty)) w.heap.size ty f := by
 show (w.heap.push _)[w.heap.size]? = _
 exact Array.getElem?_push_size
theorem Bf.nw (w : World) (f : M.Fm) (t : TypeId) : ∃ V, w.alloc (.cells #[.int .i64 f.k, .int .i64 f.W, .int .i64 f.m, .int .i64 f.b, .int .u64 f.t, .int .u64 f.n, .int .u64 f.x] t) = V ∧ Bf V w.heap.size t f ∧ Up w V := ⟨_, rfl, Bf.mk_ _ _ _, Up.al rfl⟩
theorem Bf.lt {w : World} {b : Nat} {ty : TypeId} {f : M.Fm} (h : Bf w b ty f) : b < w.heap.size := (Array.getElem?_eq_some_iff.1 h).1
theorem Bf.up {w w' : World} {b : Nat} {ty : TypeId} {f : M.Fm} (h : Bf w b ty f) (hu : Up w w') : Bf w' b ty f := (Below.block hu b h.lt).trans h
theorem Bf.cs {w : World} {b : Nat} {ty : TypeId} {f : M.Fm} (h : Bf w b ty f) : Cs w b 0 f := by
 unfold Bf at h
 refine ⟨?_, ?_, ?_, ?_, ?_, ?_, ?_⟩ <;> simp [World.cell?, h]
theorem Bf.fr {w : World} {b : Nat} {ty : TypeId} {f : M.Fm} (h : Bf w b ty f) (i : Nat) : w.frozen? ⟨b, i, none⟩ = false := by
 unfold Bf at h
 simp [World.frozen?, h]
theorem Bf.set {w : World} {b : Nat} {ty : TypeId} {f g : M.Fm} (h : Bf w b ty f) : Bf (w.setRow b #[.int .i64 g.k, .int .i64 g.W, .int .i64 g.m, .int .i64 g.b, .int .u64 g.t, .int .u64 g.n, .int .u64 g.x]) b ty g :=
 setRow_heap w b _ _ ty _ h
theorem Bf.cell {w : World} {b b' i : Nat} {ty : TypeId} {f : M.Fm} (h : Bf w b ty f) (hne : b ≠ b') (v : Value) : Bf (w.setCell ⟨b', i, none⟩ v) b ty f :=
 (Below.heap_setCell w ⟨b', i, none⟩ v b hne).trans h
theorem Bf.drew {w : World} {b : Nat} {ty : TypeId} {f : M.Fm} (h : Bf w b ty f) : Bf w.drew b ty f := h
theorem Up.setRow {w w' : World} (h : Up w w') {b : Nat} (hb : w.heap.size ≤ b) (cs : Array Value) : Up w (w'.setRow b cs) :=
 ⟨h.os, h.tape, h.output, by have := h.size; simpa [World.setRow] using this, fun k hk => (setRow_other w' b k cs (by omega)).trans (h.block k hk)⟩
theorem store_F {P : Program} {ops : Array Oper} {rest : List Oper} {o : Oper} {a : Act} {w : World} {Q : Exit → Act → World → Prop} (hgd : o.guard = none) (ty : TypeId) (x y : Operand) (ho : o.op = .store ty x y)
  (g : Nat) (f f' : M.Fm) (hx : a.eval x = .pointer (some ⟨g, 0, none⟩)) (hy : a.eval y = .agg #[.int .i64 f'.k, .int .i64 f'.W, .int .i64 f'.m, .int .i64 f'.b, .int .u64 f'.t, .int .u64 f'.n, .int .u64 f'.x]) (hi : (P.info? ty).map (·.size) = some 7)
  (w0 : World) (U : Up w0 w) (hb : w0.heap.size ≤ g) (t : TypeId) (hB : Bf w g t f)
  (h : ∀ V, Bf V g t f' → Up w0 V → (∀ b' t'' f'', b' ≠ g → Bf w b' t'' f'' → Bf V b' t'' f'') → wpList P ops Q rest (a.put o.dst undef) V) : wpList P ops Q (o :: rest) a w :=
 wpList_store_row hgd ty x y ho g _ hx hy t _ hB hi rfl (by simp [Value.oneCell']) (h _ hB.set (U.setRow hb _) fun b' _ _ hne h' => (setRow_other w g b' _ hne).trans h')
theorem M.fits_bit (i : Nat) (a : 1 ≤ i) (b : i ≤ 14) (p : Int) (h1 : 0 ≤ p) (h2 : p < 18446744073709551616) : (Go.bits BinOp.andNot IntKind.u64 p (M.msk (M.tb i)) != 0) = !decide (p ≤ M.msk (M.tb i)) := by
 have ok := M.ok i a b
 have hW := ok.W
 have hm := ok.hm
 obtain ⟨P, rfl⟩ := Int.eq_ofNat_of_zero_le h1
 obtain ⟨n, hn, hn64⟩ : ∃ n : Nat, (M.tb i).W.toNat = n ∧ n ≤ 64 := ⟨_, rfl, by omega⟩
 have e : M.msk (M.tb i) = ((2 ^ n - 1 : Nat) : Int) := by
  have := Nat.pow_pos (n := n) (show 0 < 2 by decide)
  unfold M.msk
  rw [hn, Int.ofNat_sub this]
  simp
 have h64 : 2 ^ n ≤ 2 ^ 64 := Nat.pow_le_pow_right (by decide) hn64
 have h65 : (2 : Nat) ^ 64 = 18446744073709551616 := by decide
 rw [h65] at h64
 clear h65
 rw [e, u64_andNot _ _ h1 h2 (by omega) (by omega)]
 simp only [Int.toNat_natCast]
 rw [M.and_not_low n P (by omega) hn64]
 have hp := Nat.pow_pos (n := n) (show 0 < 2 by decide)
 by_cases hc : P < 2 ^ n
 ·rw [Nat.mod_eq_of_lt hc, Nat.sub_self]
  have : ((P : Int) ≤ ((2 ^ n - 1 : Nat) : Int)) := by omega
  simp [this]
 ·have hlt := Nat.mod_lt P hp
  have : ¬ ((P : Int) ≤ ((2 ^ n - 1 : Nat) : Int)) := by omega
  rw [decide_eq_false this, Bool.not_false, bne_iff_ne]
  omega
set_option maxRecDepth 100000 in
theorem of_out (w : World) (ii : Int) (h : ii < 1 ∨ 15 ≤ ii) : Calls Tryz.prog 44 #[.int .i64 ii] w (Fn ⟨0, 0, 0, 0, 0, 0, 0⟩ 3 w) := by
 rcases (show ii < 1 ∨ (1 ≤ ii ∧ 15 ≤ ii) by omega) with h1 | ⟨h1, h2⟩
 all_goals
  first | have d1 : decide (ii < 1) = true := decide_eq_true h1 | (have d1 : decide (ii < 1) = false := decide_eq_false (by omega); have d2 : decide (15 ≤ ii) = true := decide_eq_true h2)
  clear h
  have U := Up.refl w
  go_enter Tryz.func44, Tryz.ntmps44
  go_wp2_with fail
  refine bodyPost_ret (v := .tuple #[fv ⟨0, 0, 0, 0, 0, 0, 0⟩, .int .i64 3]) (by simp [results, Tryz.results44, go_sem]) rfl ?_
  exact ⟨rfl, by (repeat (first | exact U | refine Up.setCell ?_ (by first | exact Nat.le_refl _ | omega) _ | refine Up.alloc ?_ _)); try exact U⟩
set_option maxRecDepth 100000 in
theorem fitting_out (w : World) (ii p : Int) (h : ii < 1 ∨ 15 ≤ ii) : Calls Tryz.prog 133 #[.int .i64 ii, .int .u64 p] w (Fn ⟨0, 0, 0, 0, 0, 0, 0⟩ 3 w) := by
 have U := Up.refl w
 go_enter Tryz.func133, Tryz.ntmps133
 go_wp2_with fail
 obtain ⟨V1, hV1⟩ : ∃ V1, w.alloc (.cells #[.int .i64 0, .int .i64 0, .int .i64 0, .int .i64 0, .int .u64 0, .int .u64 0, .int .u64 0] 74) = V1 := ⟨_, rfl⟩
 have uV1 : Up w V1 := by rw [← hV1]; repeat' first | exact Up.refl _ | apply Up.alloc
 have a : Bf V1 w.heap.size 74 ⟨0, 0, 0, 0, 0, 0, 0⟩ := by rw [← hV1]; exact Bf.mk_ w ⟨0, 0, 0, 0, 0, 0, 0⟩ 74
 rw [hV1]
 clear hV1
 replace U := U.trans uV1
 clear uV1
 refine (of_out _ ii h).mono ?_
 rintro _ w2 ⟨rfl, h2⟩
 replace a := a.up h2
 replace U := U.trans h2
 clear h2
 clear h
 obtain ⟨a0, a1, a2, a3, a4, a5, a6⟩ := Bf.cs a
 have a7 := Bf.lt a
 simp only [Nat.zero_add] at a0 a1 a2 a3 a4 a5 a6 a7
 go_wp2_with (refine store_F rfl 74 (.tmp 4) (.tmp 23) rfl _ _ ⟨0, 0, 0, 0, 0, 0, 0⟩ rfl rfl (by kernel_rfl) w (by first | exact U | exact U.alloc _) (by first | exact Nat.le_refl _ | omega) 74 (by first | exact a | exact a.up ((Up.refl _).alloc _)) ?_; clear U; intro V z U _)
 obtain ⟨z0, z1, z2, z3, z4, z5, z6⟩ := Bf.cs z
 have z7 := Bf.lt z
 simp only [Nat.zero_add] at z0 z1 z2 z3 z4 z5 z6 z7
 refine bodyPost_ret (v := .tuple #[fv ⟨0, 0, 0, 0, 0, 0, 0⟩, .int .i64 3]) (by simp [results, Tryz.results133, go_sem, z0, z1, z2, z3, z4, z5, z6]) rfl ?_
 exact ⟨rfl, by (repeat (first | exact U | refine Up.setCell ?_ (by first | exact Nat.le_refl _ | omega) _ | refine Up.alloc ?_ _)); try exact U⟩
set_option maxRecDepth 100000 in
theorem fitting_in (w : World) (hF : TabF w) (i : Nat) (h1 : 1 ≤ i) (h2 : i ≤ 14) (p : Int) (p1 : 0 ≤ p) (p2 : p < 18446744073709551616) : Calls Tryz.prog 133 #[.int .i64 (i : Int), .int .u64 p] w (Fn (if p ≤ M.msk (M.tb i) then M.tb i else ⟨0, 0, 0, 0, 0, 0, 0⟩) (M.er i p) w) := by
 have hb := M.fits_bit i h1 h2 p p1 p2
 have ok := M.ok i h1 h2
 obtain ⟨M', hM⟩ : ∃ z, M.msk (M.tb i) = z := ⟨_, rfl⟩
 rw [hM] at hb
 unfold M.er
 rw [hM]
 obtain ⟨f, hf⟩ : ∃ f, M.tb i = f := ⟨_, rfl⟩
 rw [hf] at ok hM ⊢
 have HF := Lib.hid hf
 have HM := Lib.hid hM
 have OK := Lib.hid ok
 clear hf hM ok
 by_cases hc : p ≤ M'
 ·rw [if_pos hc, if_pos hc]
  replace hb : (Go.bits BinOp.andNot IntKind.u64 p M' != 0) = false := by rw [hb]; simp [hc]
  have U := Up.refl w
  go_enter Tryz.func133, Tryz.ntmps133
  go_wp2_with fail
  obtain ⟨V1, hV1⟩ : ∃ V1, w.alloc (.cells #[.int .i64 0, .int .i64 0, .int .i64 0, .int .i64 0, .int .u64 0, .int .u64 0, .int .u64 0] 74) = V1 := ⟨_, rfl⟩
  have uV1 : Up w V1 := by rw [← hV1]; repeat' first | exact Up.refl _ | apply Up.alloc
  have a : Bf V1 w.heap.size 74 ⟨0, 0, 0, 0, 0, 0, 0⟩ := by rw [← hV1]; exact Bf.mk_ w ⟨0, 0, 0, 0, 0, 0, 0⟩ 74
  rw [hV1]
  clear hV1
  replace U := U.trans uV1
  clear uV1
  refine (of_in _ (hF.up U) i f HF h1 h2).mono ?_
  rintro _ w2 ⟨rfl, h2⟩
  replace a := a.up h2
  replace U := U.trans h2
  clear h2
  obtain ⟨a0, a1, a2, a3, a4, a5, a6⟩ := Bf.cs a
  have a7 := Bf.lt a
  simp only [Nat.zero_add] at a0 a1 a2 a3 a4 a5 a6 a7
  go_wp2_with fail
  clear a0 a1 a2 a3 a4 a5 a6 a7
  obtain ⟨V3, hV3, c, uV3⟩ := Bf.nw w2 f 74
  rw [hV3]
  clear hV3
  replace a := a.up uV3
  replace U := U.trans uV3
  clear uV3
  refine (mask_any _ f OK.out M' HM).mono ?_
  rintro _ w4 ⟨rfl, h4⟩
  replace a := a.up h4
  replace c := c.up h4
  replace U := U.trans h4
  clear h4
  clear hc OK HM HF h1 h2 hF p1 p2
  obtain ⟨c0, c1, c2, c3, c4, c5, c6⟩ := Bf.cs c
  have c7 := Bf.lt c
  simp only [Nat.zero_add] at c0 c1 c2 c3 c4 c5 c6 c7
  go_wp2_with (refine store_F rfl 74 (.tmp 4) (.tmp 23) rfl _ _ f rfl rfl (by kernel_rfl) w (by first | exact U | exact U.alloc _) (by first | exact Nat.le_refl _ | omega) 74 (by first | exact a | exact a.up ((Up.refl _).alloc _)) ?_; clear U; intro V z U _)
  obtain ⟨z0, z1, z2, z3, z4, z5, z6⟩ := Bf.cs z
  have z7 := Bf.lt z
  simp only [Nat.zero_add] at z0 z1 z2 z3 z4 z5 z6 z7
  refine bodyPost_ret (v := .tuple #[fv f, .int .i64 0]) (by simp [results, Tryz.results133, go_sem, z0, z1, z2, z3, z4, z5, z6]) rfl ?_
  exact ⟨rfl, by (repeat (first | exact U | refine Up.setCell ?_ (by first | exact Nat.le_refl _ | omega) _ | refine Up.alloc ?_ _)); try exact U⟩
 ·rw [if_neg hc, if_neg hc]
  replace hb : (Go.bits BinOp.andNot IntKind.u64 p M' != 0) = true := by rw [hb]; simp [hc]
  have U := Up.refl w
  go_enter Tryz.func133, Tryz.ntmps133
  go_wp2_with fail
  obtain ⟨V1, hV1⟩ : ∃ V1, w.alloc (.cells #[.int .i64 0, .int .i64 0, .int .i64 0, .int .i64 0, .int .u64 0, .int .u64 0, .int .u64 0] 74) = V1 := ⟨_, rfl⟩
  have uV1 : Up w V1 := by rw [← hV1]; repeat' first | exact Up.refl _ | apply Up.alloc
  have a : Bf V1 w.heap.size 74 ⟨0, 0, 0, 0, 0, 0, 0⟩ := by rw [← hV1]; exact Bf.mk_ w ⟨0, 0, 0, 0, 0, 0, 0⟩ 74
  rw [hV1]
  clear hV1
  replace U := U.trans uV1
  clear uV1
  refine (of_in _ (hF.up U) i f HF h1 h2).mono ?_
  rintro _ w2 ⟨rfl, h2⟩
  replace a := a.up h2
  replace U := U.trans h2
  clear h2
  obtain ⟨a0, a1, a2, a3, a4, a5, a6⟩ := Bf.cs a
  have a7 := Bf.lt a
  simp only [Nat.zero_add] at a0 a1 a2 a3 a4 a5 a6 a7
  go_wp2_with fail
  clear a0 a1 a2 a3 a4 a5 a6 a7
  obtain ⟨V3, hV3, c, uV3⟩ := Bf.nw w2 f 74
  rw [hV3]
  clear hV3
  replace a := a.up uV3
  replace U := U.trans uV3
  clear uV3
  refine (mask_any _ f OK.out M' HM).mono ?_
  rintro _ w4 ⟨rfl, h4⟩
  replace a := a.up h4
  replace c := c.up h4
  replace U := U.trans h4
  clear h4
  clear hc OK HM HF h1 h2 hF p1 p2
  obtain ⟨c0, c1, c2, c3, c4, c5, c6⟩ := Bf.cs c
  have c7 := Bf.lt c
  simp only [Nat.zero_add] at c0 c1 c2 c3 c4 c5 c6 c7
  go_wp2_with (refine store_F rfl 74 (.tmp 4) (.tmp 22) rfl _ _ ⟨0, 0, 0, 0, 0, 0, 0⟩ rfl rfl (by kernel_rfl) w (by first | exact U | exact U.alloc _) (by first | exact Nat.le_refl _ | omega) 74 (by first | exact a | exact a.up ((Up.refl _).alloc _)) ?_; clear U; intro V z U _)
  obtain ⟨z0, z1, z2, z3, z4, z5, z6⟩ := Bf.cs z
  have z7 := Bf.lt z
  simp only [Nat.zero_add] at z0 z1 z2 z3 z4 z5 z6 z7
  refine bodyPost_ret (v := .tuple #[fv ⟨0, 0, 0, 0, 0, 0, 0⟩, .int .i64 1]) (by simp [results, Tryz.results133, go_sem, z0, z1, z2, z3, z4, z5, z6]) rfl ?_
  exact ⟨rfl, by (repeat (first | exact U | refine Up.setCell ?_ (by first | exact Nat.le_refl _ | omega) _ | refine Up.alloc ?_ _)); try exact U⟩
theorem cell_up_ {w w' : World} (h : Up w w') {p : Addr} {v : Value} (hc : w.cell? p = some v) : w'.cell? p = some v := by
 rw [Below.cell h (World.block_lt_of_cell? _ _ hc)]; exact hc
set_option maxRecDepth 100000 in
theorem fits_out (w : World) (ii p : Int) (h : ii < 1 ∨ 15 ≤ ii) : Calls Tryz.prog 104 #[.int .i64 ii, .int .u64 p] w (Nz 3 w) := by
 have U := Up.refl w
 go_enter Tryz.func104, Tryz.ntmps104
 go_wp2_with fail
 refine (fitting_out _ ii p h).mono ?_
 rintro _ w1 ⟨rfl, h1⟩
 replace U := U.trans h1
 clear h1
 clear h
 go_wp2_with fail
 go_ret
 exact ⟨rfl, U.alloc _⟩
set_option maxRecDepth 100000 in
theorem fits_in (w : World) (hF : TabF w) (i : Nat) (h1 : 1 ≤ i) (h2 : i ≤ 14) (p : Int) (p1 : 0 ≤ p) (p2 : p < 18446744073709551616) : Calls Tryz.prog 104 #[.int .i64 (i : Int), .int .u64 p] w (Nz (M.er i p) w) := by
 obtain ⟨e, he⟩ : ∃ e, M.er i p = e := ⟨_, rfl⟩
 obtain ⟨f, hf⟩ : ∃ f : M.Fm, (if p ≤ M.msk (M.tb i) then M.tb i else ⟨0, 0, 0, 0, 0, 0, 0⟩) = f := ⟨_, rfl⟩
 have C := fun W (hF : TabF W) => fitting_in W hF i h1 h2 p p1 p2
 rw [hf, he] at C
 rw [he]
 have CC := Lib.hid C
 clear hf he C p1 p2 h1 h2
 have U := Up.refl w
 go_enter Tryz.func104, Tryz.ntmps104
 go_wp2_with fail
 refine (CC.out _ (hF.up U)).mono ?_
 rintro _ w1 ⟨rfl, h1⟩
 replace U := U.trans h1
 clear h1
 go_wp2_with fail
 go_ret
 exact ⟨rfl, U.alloc _⟩
theorem Bf.put4 {w : World} {b : Nat} {ty : TypeId} {f : M.Fm} (h : Bf w b ty f) (v : Int) : Bf (w.setCell ⟨b, 4, none⟩ (.int .u64 v)) b ty ⟨f.k, f.W, f.m, f.b, v, f.n, f.x⟩ := by
 unfold Bf at h ⊢
 rw [setCell_eq_setRow w b 4 _ ty (0, 0) _ h, setRow_heap w b _ _ ty _ h]
 rfl
theorem Bf.put6 {w : World} {b : Nat} {ty : TypeId} {f : M.Fm} (h : Bf w b ty f) (v : Int) : Bf (w.setCell ⟨b, 6, none⟩ (.int .u64 v)) b ty ⟨f.k, f.W, f.m, f.b, f.t, f.n, v⟩ := by
 unfold Bf at h ⊢
 rw [setCell_eq_setRow w b 6 _ ty (0, 0) _ h, setRow_heap w b _ _ ty _ h]
 rfl
theorem wp_gen {P : Program} {C : Code} {Q : Exit → Act → World → Prop} {a : Act} {w : World} (h : ∀ V, V = w → C.wp P Q a V) : C.wp P Q a w := h w rfl
theorem ones_any (w : World) (n : Nat) (hn : n ≤ 64) (z : Int) (hz : Hid (2 ^ n - 1 = z)) : Calls Tryz.prog 76 #[.int .i64 (n : Int)] w (Same (.int .u64 z) w) := by
 go_enter Tryz.func76, Tryz.ntmps76
 go_wp2_with fail
 go_loop [3, 4] (fun xv iv => ∃ (x k : Nat), xv = u64 x ∧ iv = .int .i64 (k : Int) ∧ k ≤ n ∧ x < 18446744073709551616 ∧ Hid (x + 1 = 2 ^ k)) (fun _ iv => n - (intOf iv).toNat)
 case atStart => exact ⟨0, 0, rfl, rfl, Nat.zero_le _, by decide, rfl⟩
 case round =>
  obtain ⟨x, k, rfl, rfl, hk, hx, HX⟩ := hrel
  by_cases h : k < n
  ·have d : decide ((k : Int) < (n : Int)) = true := decide_eq_true (by omega)
   have hb : 2 * x + 1 < 18446744073709551616 := by
    have h1 : 2 ^ (k + 1) ≤ 2 ^ 64 := Nat.pow_le_pow_right (by decide) (by omega)
    have h2 := HX.out
    have h3 : (2 : Nat) ^ 64 = 18446744073709551616 := by decide
    rw [Nat.pow_succ] at h1
    omega
   have HX2 : Hid (2 * x + 1 + 1 = 2 ^ (k + 1)) := by
    have h2 := HX.out
    show _ = _
    rw [Nat.pow_succ]
    omega
   clear hz HX
   go_wp2_with fail
   go_round
   case rel => exact ⟨2 * x + 1, k + 1, by go_num, by go_num, h, hb, HX2⟩
   case measure => simp [intOf]; omega
  ·have d : decide ((k : Int) < (n : Int)) = false := decide_eq_false (by omega)
   have HF : Hid ((x : Int) = z) := by
    have h1 := HX.out
    obtain rfl : k = n := by omega
    show _ = _
    rw [← hz.out]
    have : ((x + 1 : Nat) : Int) = ((2 ^ k : Nat) : Int) := by rw [h1]
    rw [Int.natCast_pow] at this
    simp only [Int.natCast_add, Int.natCast_one] at this
    have e2 : ((2 : Nat) : Int) = 2 := rfl
    rw [e2] at this
    omega
   clear hz HX
   go_wp2_with fail
   go_ret
   exact ⟨ret_int HF.out, rfl⟩
set_option maxRecDepth 100000 in
theorem rsigned5 (w : World)  : Calls Tryz.prog 77 #[.int .i64 8, .int .i64 3, .int .i64 7, .int .i64 1] w (Fo ⟨2, 8, 3, 7, 126, 0, 127⟩ w) := by
 have U := Up.refl w
 go_enter Tryz.func77, Tryz.ntmps77
 go_wp2_with fail
 refine (ones_any _ 7 (by decide) 127 (by show _ = _; decide)).mono ?_
 rintro _ _ ⟨rfl, rfl⟩
 go_wp2_with fail
 go_wp2_with fail
 refine bodyPost_ret (v := fv ⟨2, 8, 3, 7, 126, 0, 127⟩) (by simp [results, Tryz.results77, go_sem]) rfl ?_
 exact ⟨rfl, by (repeat (first | exact U | refine Up.setCell ?_ (by first | exact Nat.le_refl _ | omega) _ | refine Up.alloc ?_ _)); try exact U⟩
set_option maxRecDepth 100000 in
theorem rsigned6 (w : World)  : Calls Tryz.prog 77 #[.int .i64 8, .int .i64 2, .int .i64 15, .int .i64 2] w (Fo ⟨2, 8, 2, 15, 123, 124, 126⟩ w) := by
 have U := Up.refl w
 go_enter Tryz.func77, Tryz.ntmps77
 go_wp2_with fail
 refine (ones_any _ 7 (by decide) 127 (by show _ = _; decide)).mono ?_
 rintro _ _ ⟨rfl, rfl⟩
 go_wp2_with fail
 refine (ones_any _ 7 (by decide) 127 (by show _ = _; decide)).mono ?_
 rintro _ _ ⟨rfl, rfl⟩
 go_wp2_with fail
 refine (ones_any _ 2 (by decide) 3 (by show _ = _; decide)).mono ?_
 rintro _ _ ⟨rfl, rfl⟩
 go_wp2_with fail
 obtain ⟨V, hV⟩ : ∃ V, (w.alloc (.cells #[.int .i64 0, .int .i64 0, .int .i64 0, .int .i64 0, .int .u64 0, .int .u64 0, .int .u64 0] 79)).alloc (.cells #[.int .i64 2, .int .i64 8, .int .i64 2, .int .i64 15, .int .u64 127, .int .u64 124, .int .u64 0] 79) = V := ⟨_, rfl⟩
 have a : Bf V w.heap.size 79 ⟨0, 0, 0, 0, 0, 0, 0⟩ := by rw [← hV]; exact (Bf.mk_ w ⟨0, 0, 0, 0, 0, 0, 0⟩ 79).up ((Up.refl _).alloc _)
 have c : Bf V (w.heap.size + 1) 79 ⟨2, 8, 2, 15, 127, 124, 0⟩ := by rw [← hV]; have := Bf.mk_ (w.alloc (.cells #[.int .i64 0, .int .i64 0, .int .i64 0, .int .i64 0, .int .u64 0, .int .u64 0, .int .u64 0] 79)) ⟨2, 8, 2, 15, 127, 124, 0⟩ 79; rwa [show (w.alloc (.cells #[.int .i64 0, .int .i64 0, .int .i64 0, .int .i64 0, .int .u64 0, .int .u64 0, .int .u64 0] 79)).heap.size = w.heap.size + 1 from Array.size_push _] at this
 replace U : Up w V := by rw [← hV]; exact ((Up.refl w).alloc _).alloc _
 rw [hV]
 clear hV
 have CO := Lib.hid (fun w' => show Calls Tryz.prog 76 #[.int .i64 2] w' (Same (.int .u64 3) w') from ones_any w' 2 (by decide) 3 (by show _ = _; decide))
 obtain ⟨c0, c1, c2, c3, c4, c5, c6⟩ := Bf.cs c
 have c7 := Bf.lt c
 simp only [Nat.zero_add] at c0 c1 c2 c3 c4 c5 c6 c7
 have E65 : (⟨w.heap.size + 1, 6, none⟩ : Addr) ≠ ⟨w.heap.size + 1, 5, none⟩ := by intro e; injection e with _ e _; exact absurd e (by decide)
 have cf4 := c.fr 4
 have cf5 := c.fr 5
 have cf6 := c.fr 6
 go_region_held3 (fun w' => w'.cell? ⟨w.heap.size + 1, 5, none⟩ = some (.int .u64 124)) (first | exact (World.cell?_setCell_other _ _ _ _ E65).trans c5 | go_keep) ((go_at_call 76; (with_reducible refine (CO.out _).mono ?_); rintro _ _ ⟨rfl, rfl⟩))
 go_upto_region 9 with (fail)
 refine wp_gen ?_
 intro V2 hV2
 have x2 : Bf V2 w.heap.size 79 ⟨0, 0, 0, 0, 0, 0, 0⟩ := by rw [hV2]; exact Bf.cell (Bf.drew (Bf.cell a (by omega) _)) (by omega) _
 have y2 : Bf V2 (w.heap.size + 1) 79 ⟨2, 8, 2, 15, 123, 124, 126⟩ := by rw [hV2]; exact Bf.put4 (Bf.drew (Bf.put6 c _)) _
 replace U : Up w V2 := by rw [hV2]; exact ((U.setCell (p := ⟨w.heap.size + 1, 6, none⟩) (Nat.le_succ _) _).drew.setCell (p := ⟨w.heap.size + 1, 4, none⟩) (Nat.le_succ _) _)
 clear c0 c1 c2 c3 c4 c5 c6 c7
 clear hV2 a c E65 cf4 cf5 cf6 CO
 obtain ⟨y20, y21, y22, y23, y24, y25, y26⟩ := Bf.cs y2
 have y27 := Bf.lt y2
 simp only [Nat.zero_add] at y20 y21 y22 y23 y24 y25 y26 y27
 go_wp2_with (refine store_F rfl 79 (.tmp 8) (.tmp 47) rfl _ _ ⟨2, 8, 2, 15, 123, 124, 126⟩ rfl rfl (by kernel_rfl) w (by first | exact U | exact U.alloc _) (by first | exact Nat.le_refl _ | omega) 79 (by first | exact x2 | exact x2.up ((Up.refl _).alloc _)) ?_; clear U; intro V z U _)
 obtain ⟨z0, z1, z2, z3, z4, z5, z6⟩ := Bf.cs z
 have z7 := Bf.lt z
 simp only [Nat.zero_add] at z0 z1 z2 z3 z4 z5 z6 z7
 refine bodyPost_ret (v := fv ⟨2, 8, 2, 15, 123, 124, 126⟩) (by simp [results, Tryz.results77, go_sem, z0, z1, z2, z3, z4, z5, z6]) rfl ?_
 exact ⟨rfl, by (repeat (first | exact U | refine Up.setCell ?_ (by first | exact Nat.le_refl _ | omega) _ | refine Up.alloc ?_ _)); try exact U⟩
set_option maxRecDepth 100000 in
theorem rsigned7 (w : World)  : Calls Tryz.prog 77 #[.int .i64 6, .int .i64 2, .int .i64 3, .int .i64 0] w (Fo ⟨2, 6, 2, 3, 31, 0, 0⟩ w) := by
 have U := Up.refl w
 go_enter Tryz.func77, Tryz.ntmps77
 go_wp2_with fail
 refine (ones_any _ 5 (by decide) 31 (by show _ = _; decide)).mono ?_
 rintro _ _ ⟨rfl, rfl⟩
 go_wp2_with fail
 go_wp2_with fail
 refine bodyPost_ret (v := fv ⟨2, 6, 2, 3, 31, 0, 0⟩) (by simp [results, Tryz.results77, go_sem]) rfl ?_
 exact ⟨rfl, by (repeat (first | exact U | refine Up.setCell ?_ (by first | exact Nat.le_refl _ | omega) _ | refine Up.alloc ?_ _)); try exact U⟩
set_option maxRecDepth 100000 in
theorem rsigned8 (w : World)  : Calls Tryz.prog 77 #[.int .i64 6, .int .i64 3, .int .i64 1, .int .i64 0] w (Fo ⟨2, 6, 3, 1, 31, 0, 0⟩ w) := by
 have U := Up.refl w
 go_enter Tryz.func77, Tryz.ntmps77
 go_wp2_with fail
 refine (ones_any _ 5 (by decide) 31 (by show _ = _; decide)).mono ?_
 rintro _ _ ⟨rfl, rfl⟩
 go_wp2_with fail
 go_wp2_with fail
 refine bodyPost_ret (v := fv ⟨2, 6, 3, 1, 31, 0, 0⟩) (by simp [results, Tryz.results77, go_sem]) rfl ?_
 exact ⟨rfl, by (repeat (first | exact U | refine Up.setCell ?_ (by first | exact Nat.le_refl _ | omega) _ | refine Up.alloc ?_ _)); try exact U⟩
set_option maxRecDepth 100000 in
theorem rsigned9 (w : World)  : Calls Tryz.prog 77 #[.int .i64 4, .int .i64 1, .int .i64 1, .int .i64 0] w (Fo ⟨2, 4, 1, 1, 7, 0, 0⟩ w) := by
 have U := Up.refl w
 go_enter Tryz.func77, Tryz.ntmps77
 go_wp2_with fail
 refine (ones_any _ 3 (by decide) 7 (by show _ = _; decide)).mono ?_
 rintro _ _ ⟨rfl, rfl⟩
 go_wp2_with fail
 go_wp2_with fail
 refine bodyPost_ret (v := fv ⟨2, 4, 1, 1, 7, 0, 0⟩) (by simp [results, Tryz.results77, go_sem]) rfl ?_
 exact ⟨rfl, by (repeat (first | exact U | refine Up.setCell ?_ (by first | exact Nat.le_refl _ | omega) _ | refine Up.alloc ?_ _)); try exact U⟩
set_option maxRecDepth 100000 in
theorem rsigned12 (w : World)  : Calls Tryz.prog 77 #[.int .i64 16, .int .i64 10, .int .i64 15, .int .i64 2] w (Fo ⟨2, 16, 10, 15, 31743, 31744, 32256⟩ w) := by
 have U := Up.refl w
 go_enter Tryz.func77, Tryz.ntmps77
 go_wp2_with fail
 refine (ones_any _ 15 (by decide) 32767 (by show _ = _; decide)).mono ?_
 rintro _ _ ⟨rfl, rfl⟩
 go_wp2_with fail
 refine (ones_any _ 15 (by decide) 32767 (by show _ = _; decide)).mono ?_
 rintro _ _ ⟨rfl, rfl⟩
 go_wp2_with fail
 refine (ones_any _ 10 (by decide) 1023 (by show _ = _; decide)).mono ?_
 rintro _ _ ⟨rfl, rfl⟩
 go_wp2_with fail
 obtain ⟨V, hV⟩ : ∃ V, (w.alloc (.cells #[.int .i64 0, .int .i64 0, .int .i64 0, .int .i64 0, .int .u64 0, .int .u64 0, .int .u64 0] 79)).alloc (.cells #[.int .i64 2, .int .i64 16, .int .i64 10, .int .i64 15, .int .u64 32767, .int .u64 31744, .int .u64 0] 79) = V := ⟨_, rfl⟩
 have a : Bf V w.heap.size 79 ⟨0, 0, 0, 0, 0, 0, 0⟩ := by rw [← hV]; exact (Bf.mk_ w ⟨0, 0, 0, 0, 0, 0, 0⟩ 79).up ((Up.refl _).alloc _)
 have c : Bf V (w.heap.size + 1) 79 ⟨2, 16, 10, 15, 32767, 31744, 0⟩ := by rw [← hV]; have := Bf.mk_ (w.alloc (.cells #[.int .i64 0, .int .i64 0, .int .i64 0, .int .i64 0, .int .u64 0, .int .u64 0, .int .u64 0] 79)) ⟨2, 16, 10, 15, 32767, 31744, 0⟩ 79; rwa [show (w.alloc (.cells #[.int .i64 0, .int .i64 0, .int .i64 0, .int .i64 0, .int .u64 0, .int .u64 0, .int .u64 0] 79)).heap.size = w.heap.size + 1 from Array.size_push _] at this
 replace U : Up w V := by rw [← hV]; exact ((Up.refl w).alloc _).alloc _
 rw [hV]
 clear hV
 have CO := Lib.hid (fun w' => show Calls Tryz.prog 76 #[.int .i64 10] w' (Same (.int .u64 1023) w') from ones_any w' 10 (by decide) 1023 (by show _ = _; decide))
 obtain ⟨c0, c1, c2, c3, c4, c5, c6⟩ := Bf.cs c
 have c7 := Bf.lt c
 simp only [Nat.zero_add] at c0 c1 c2 c3 c4 c5 c6 c7
 have E65 : (⟨w.heap.size + 1, 6, none⟩ : Addr) ≠ ⟨w.heap.size + 1, 5, none⟩ := by intro e; injection e with _ e _; exact absurd e (by decide)
 have cf4 := c.fr 4
 have cf5 := c.fr 5
 have cf6 := c.fr 6
 go_region_held3 (fun w' => w'.cell? ⟨w.heap.size + 1, 5, none⟩ = some (.int .u64 31744)) (first | exact (World.cell?_setCell_other _ _ _ _ E65).trans c5 | go_keep) ((go_at_call 76; (with_reducible refine (CO.out _).mono ?_); rintro _ _ ⟨rfl, rfl⟩))
 go_upto_region 9 with (fail)
 refine wp_gen ?_
 intro V2 hV2
 have x2 : Bf V2 w.heap.size 79 ⟨0, 0, 0, 0, 0, 0, 0⟩ := by rw [hV2]; exact Bf.cell (Bf.drew (Bf.cell a (by omega) _)) (by omega) _
 have y2 : Bf V2 (w.heap.size + 1) 79 ⟨2, 16, 10, 15, 31743, 31744, 32256⟩ := by rw [hV2]; exact Bf.put4 (Bf.drew (Bf.put6 c _)) _
 replace U : Up w V2 := by rw [hV2]; exact ((U.setCell (p := ⟨w.heap.size + 1, 6, none⟩) (Nat.le_succ _) _).drew.setCell (p := ⟨w.heap.size + 1, 4, none⟩) (Nat.le_succ _) _)
 clear c0 c1 c2 c3 c4 c5 c6 c7
 clear hV2 a c E65 cf4 cf5 cf6 CO
 obtain ⟨y20, y21, y22, y23, y24, y25, y26⟩ := Bf.cs y2
 have y27 := Bf.lt y2
 simp only [Nat.zero_add] at y20 y21 y22 y23 y24 y25 y26 y27
 go_wp2_with (refine store_F rfl 79 (.tmp 8) (.tmp 47) rfl _ _ ⟨2, 16, 10, 15, 31743, 31744, 32256⟩ rfl rfl (by kernel_rfl) w (by first | exact U | exact U.alloc _) (by first | exact Nat.le_refl _ | omega) 79 (by first | exact x2 | exact x2.up ((Up.refl _).alloc _)) ?_; clear U; intro V z U _)
 obtain ⟨z0, z1, z2, z3, z4, z5, z6⟩ := Bf.cs z
 have z7 := Bf.lt z
 simp only [Nat.zero_add] at z0 z1 z2 z3 z4 z5 z6 z7
 refine bodyPost_ret (v := fv ⟨2, 16, 10, 15, 31743, 31744, 32256⟩) (by simp [results, Tryz.results77, go_sem, z0, z1, z2, z3, z4, z5, z6]) rfl ?_
 exact ⟨rfl, by (repeat (first | exact U | refine Up.setCell ?_ (by first | exact Nat.le_refl _ | omega) _ | refine Up.alloc ?_ _)); try exact U⟩
set_option maxRecDepth 100000 in
theorem rsigned13 (w : World)  : Calls Tryz.prog 77 #[.int .i64 32, .int .i64 23, .int .i64 127, .int .i64 2] w (Fo ⟨2, 32, 23, 127, 2139095039, 2139095040, 2143289344⟩ w) := by
 have U := Up.refl w
 go_enter Tryz.func77, Tryz.ntmps77
 go_wp2_with fail
 refine (ones_any _ 31 (by decide) 2147483647 (by show _ = _; decide)).mono ?_
 rintro _ _ ⟨rfl, rfl⟩
 go_wp2_with fail
 refine (ones_any _ 31 (by decide) 2147483647 (by show _ = _; decide)).mono ?_
 rintro _ _ ⟨rfl, rfl⟩
 go_wp2_with fail
 refine (ones_any _ 23 (by decide) 8388607 (by show _ = _; decide)).mono ?_
 rintro _ _ ⟨rfl, rfl⟩
 go_wp2_with fail
 obtain ⟨V, hV⟩ : ∃ V, (w.alloc (.cells #[.int .i64 0, .int .i64 0, .int .i64 0, .int .i64 0, .int .u64 0, .int .u64 0, .int .u64 0] 79)).alloc (.cells #[.int .i64 2, .int .i64 32, .int .i64 23, .int .i64 127, .int .u64 2147483647, .int .u64 2139095040, .int .u64 0] 79) = V := ⟨_, rfl⟩
 have a : Bf V w.heap.size 79 ⟨0, 0, 0, 0, 0, 0, 0⟩ := by rw [← hV]; exact (Bf.mk_ w ⟨0, 0, 0, 0, 0, 0, 0⟩ 79).up ((Up.refl _).alloc _)
 have c : Bf V (w.heap.size + 1) 79 ⟨2, 32, 23, 127, 2147483647, 2139095040, 0⟩ := by rw [← hV]; have := Bf.mk_ (w.alloc (.cells #[.int .i64 0, .int .i64 0, .int .i64 0, .int .i64 0, .int .u64 0, .int .u64 0, .int .u64 0] 79)) ⟨2, 32, 23, 127, 2147483647, 2139095040, 0⟩ 79; rwa [show (w.alloc (.cells #[.int .i64 0, .int .i64 0, .int .i64 0, .int .i64 0, .int .u64 0, .int .u64 0, .int .u64 0] 79)).heap.size = w.heap.size + 1 from Array.size_push _] at this
 replace U : Up w V := by rw [← hV]; exact ((Up.refl w).alloc _).alloc _
 rw [hV]
 clear hV
 have CO := Lib.hid (fun w' => show Calls Tryz.prog 76 #[.int .i64 23] w' (Same (.int .u64 8388607) w') from ones_any w' 23 (by decide) 8388607 (by show _ = _; decide))
 obtain ⟨c0, c1, c2, c3, c4, c5, c6⟩ := Bf.cs c
 have c7 := Bf.lt c
 simp only [Nat.zero_add] at c0 c1 c2 c3 c4 c5 c6 c7
 have E65 : (⟨w.heap.size + 1, 6, none⟩ : Addr) ≠ ⟨w.heap.size + 1, 5, none⟩ := by intro e; injection e with _ e _; exact absurd e (by decide)
 have cf4 := c.fr 4
 have cf5 := c.fr 5
 have cf6 := c.fr 6
 go_region_held3 (fun w' => w'.cell? ⟨w.heap.size + 1, 5, none⟩ = some (.int .u64 2139095040)) (first | exact (World.cell?_setCell_other _ _ _ _ E65).trans c5 | go_keep) ((go_at_call 76; (with_reducible refine (CO.out _).mono ?_); rintro _ _ ⟨rfl, rfl⟩))
 go_upto_region 9 with (fail)
 refine wp_gen ?_
 intro V2 hV2
 have x2 : Bf V2 w.heap.size 79 ⟨0, 0, 0, 0, 0, 0, 0⟩ := by rw [hV2]; exact Bf.cell (Bf.drew (Bf.cell a (by omega) _)) (by omega) _
 have y2 : Bf V2 (w.heap.size + 1) 79 ⟨2, 32, 23, 127, 2139095039, 2139095040, 2143289344⟩ := by rw [hV2]; exact Bf.put4 (Bf.drew (Bf.put6 c _)) _
 replace U : Up w V2 := by rw [hV2]; exact ((U.setCell (p := ⟨w.heap.size + 1, 6, none⟩) (Nat.le_succ _) _).drew.setCell (p := ⟨w.heap.size + 1, 4, none⟩) (Nat.le_succ _) _)
 clear c0 c1 c2 c3 c4 c5 c6 c7
 clear hV2 a c E65 cf4 cf5 cf6 CO
 obtain ⟨y20, y21, y22, y23, y24, y25, y26⟩ := Bf.cs y2
 have y27 := Bf.lt y2
 simp only [Nat.zero_add] at y20 y21 y22 y23 y24 y25 y26 y27
 go_wp2_with (refine store_F rfl 79 (.tmp 8) (.tmp 47) rfl _ _ ⟨2, 32, 23, 127, 2139095039, 2139095040, 2143289344⟩ rfl rfl (by kernel_rfl) w (by first | exact U | exact U.alloc _) (by first | exact Nat.le_refl _ | omega) 79 (by first | exact x2 | exact x2.up ((Up.refl _).alloc _)) ?_; clear U; intro V z U _)
 obtain ⟨z0, z1, z2, z3, z4, z5, z6⟩ := Bf.cs z
 have z7 := Bf.lt z
 simp only [Nat.zero_add] at z0 z1 z2 z3 z4 z5 z6 z7
 refine bodyPost_ret (v := fv ⟨2, 32, 23, 127, 2139095039, 2139095040, 2143289344⟩) (by simp [results, Tryz.results77, go_sem, z0, z1, z2, z3, z4, z5, z6]) rfl ?_
 exact ⟨rfl, by (repeat (first | exact U | refine Up.setCell ?_ (by first | exact Nat.le_refl _ | omega) _ | refine Up.alloc ?_ _)); try exact U⟩
set_option maxRecDepth 100000 in
theorem rsigned14 (w : World)  : Calls Tryz.prog 77 #[.int .i64 64, .int .i64 52, .int .i64 1023, .int .i64 2] w (Fo ⟨2, 64, 52, 1023, 9218868437227405311, 9218868437227405312, 9221120237041090560⟩ w) := by
 have U := Up.refl w
 go_enter Tryz.func77, Tryz.ntmps77
 go_wp2_with fail
 refine (ones_any _ 63 (by decide) 9223372036854775807 (by show _ = _; decide)).mono ?_
 rintro _ _ ⟨rfl, rfl⟩
 go_wp2_with fail
 refine (ones_any _ 63 (by decide) 9223372036854775807 (by show _ = _; decide)).mono ?_
 rintro _ _ ⟨rfl, rfl⟩
 go_wp2_with fail
 refine (ones_any _ 52 (by decide) 4503599627370495 (by show _ = _; decide)).mono ?_
 rintro _ _ ⟨rfl, rfl⟩
 go_wp2_with fail
 obtain ⟨V, hV⟩ : ∃ V, (w.alloc (.cells #[.int .i64 0, .int .i64 0, .int .i64 0, .int .i64 0, .int .u64 0, .int .u64 0, .int .u64 0] 79)).alloc (.cells #[.int .i64 2, .int .i64 64, .int .i64 52, .int .i64 1023, .int .u64 9223372036854775807, .int .u64 9218868437227405312, .int .u64 0] 79) = V := ⟨_, rfl⟩
 have a : Bf V w.heap.size 79 ⟨0, 0, 0, 0, 0, 0, 0⟩ := by rw [← hV]; exact (Bf.mk_ w ⟨0, 0, 0, 0, 0, 0, 0⟩ 79).up ((Up.refl _).alloc _)
 have c : Bf V (w.heap.size + 1) 79 ⟨2, 64, 52, 1023, 9223372036854775807, 9218868437227405312, 0⟩ := by rw [← hV]; have := Bf.mk_ (w.alloc (.cells #[.int .i64 0, .int .i64 0, .int .i64 0, .int .i64 0, .int .u64 0, .int .u64 0, .int .u64 0] 79)) ⟨2, 64, 52, 1023, 9223372036854775807, 9218868437227405312, 0⟩ 79; rwa [show (w.alloc (.cells #[.int .i64 0, .int .i64 0, .int .i64 0, .int .i64 0, .int .u64 0, .int .u64 0, .int .u64 0] 79)).heap.size = w.heap.size + 1 from Array.size_push _] at this
 replace U : Up w V := by rw [← hV]; exact ((Up.refl w).alloc _).alloc _
 rw [hV]
 clear hV
 have CO := Lib.hid (fun w' => show Calls Tryz.prog 76 #[.int .i64 52] w' (Same (.int .u64 4503599627370495) w') from ones_any w' 52 (by decide) 4503599627370495 (by show _ = _; decide))
 obtain ⟨c0, c1, c2, c3, c4, c5, c6⟩ := Bf.cs c
 have c7 := Bf.lt c
 simp only [Nat.zero_add] at c0 c1 c2 c3 c4 c5 c6 c7
 have E65 : (⟨w.heap.size + 1, 6, none⟩ : Addr) ≠ ⟨w.heap.size + 1, 5, none⟩ := by intro e; injection e with _ e _; exact absurd e (by decide)
 have cf4 := c.fr 4
 have cf5 := c.fr 5
 have cf6 := c.fr 6
 go_region_held3 (fun w' => w'.cell? ⟨w.heap.size + 1, 5, none⟩ = some (.int .u64 9218868437227405312)) (first | exact (World.cell?_setCell_other _ _ _ _ E65).trans c5 | go_keep) ((go_at_call 76; (with_reducible refine (CO.out _).mono ?_); rintro _ _ ⟨rfl, rfl⟩))
 go_upto_region 9 with (fail)
 refine wp_gen ?_
 intro V2 hV2
 have x2 : Bf V2 w.heap.size 79 ⟨0, 0, 0, 0, 0, 0, 0⟩ := by rw [hV2]; exact Bf.cell (Bf.drew (Bf.cell a (by omega) _)) (by omega) _
 have y2 : Bf V2 (w.heap.size + 1) 79 ⟨2, 64, 52, 1023, 9218868437227405311, 9218868437227405312, 9221120237041090560⟩ := by rw [hV2]; exact Bf.put4 (Bf.drew (Bf.put6 c _)) _
 replace U : Up w V2 := by rw [hV2]; exact ((U.setCell (p := ⟨w.heap.size + 1, 6, none⟩) (Nat.le_succ _) _).drew.setCell (p := ⟨w.heap.size + 1, 4, none⟩) (Nat.le_succ _) _)
 clear c0 c1 c2 c3 c4 c5 c6 c7
 clear hV2 a c E65 cf4 cf5 cf6 CO
 obtain ⟨y20, y21, y22, y23, y24, y25, y26⟩ := Bf.cs y2
 have y27 := Bf.lt y2
 simp only [Nat.zero_add] at y20 y21 y22 y23 y24 y25 y26 y27
 go_wp2_with (refine store_F rfl 79 (.tmp 8) (.tmp 47) rfl _ _ ⟨2, 64, 52, 1023, 9218868437227405311, 9218868437227405312, 9221120237041090560⟩ rfl rfl (by kernel_rfl) w (by first | exact U | exact U.alloc _) (by first | exact Nat.le_refl _ | omega) 79 (by first | exact x2 | exact x2.up ((Up.refl _).alloc _)) ?_; clear U; intro V z U _)
 obtain ⟨z0, z1, z2, z3, z4, z5, z6⟩ := Bf.cs z
 have z7 := Bf.lt z
 simp only [Nat.zero_add] at z0 z1 z2 z3 z4 z5 z6 z7
 refine bodyPost_ret (v := fv ⟨2, 64, 52, 1023, 9218868437227405311, 9218868437227405312, 9221120237041090560⟩) (by simp [results, Tryz.results77, go_sem, z0, z1, z2, z3, z4, z5, z6]) rfl ?_
 exact ⟨rfl, by (repeat (first | exact U | refine Up.setCell ?_ (by first | exact Nat.le_refl _ | omega) _ | refine Up.alloc ?_ _)); try exact U⟩
set_option maxRecDepth 100000 in
theorem rof1 (w : World)  : Calls Tryz.prog 45 #[.int .i64 1] w (Fb ⟨1, 8, 0, 0, 127, 0, 128⟩ true w) := by
 have U := Up.refl w
 go_enter Tryz.func45, Tryz.ntmps45
 go_wp2_with fail
 go_loop [4, 5] (fun nv iv => ∃ n k : Nat, nv = .int .i64 (n : Int) ∧ iv = .int .i64 (k : Int) ∧ k ≤ 1 ∧ ((k = 1 ∧ n = 8) ∨ (k = 2 ∧ n = 16) ∨ (k = 3 ∧ n = 32) ∨ (k = 4 ∧ n = 64))) (fun _ iv => 1 - (intOf iv).toNat)
 case atStart => exact ⟨8, 1, rfl, rfl, by decide, .inl ⟨rfl, rfl⟩⟩
 case round =>
  obtain ⟨n, k, rfl, rfl, hk, hkn⟩ := hrel
  rcases hkn with ⟨rfl, rfl⟩ | ⟨rfl, rfl⟩ | ⟨rfl, rfl⟩ | ⟨rfl, rfl⟩
  ·
   clear hk
   go_wp2_with fail
   refine (ones_any _ 7 (by decide) 127 (by show _ = _; decide)).mono ?_
   rintro _ _ ⟨rfl, rfl⟩
   go_wp2_with fail
   refine (ones_any _ 7 (by decide) 127 (by show _ = _; decide)).mono ?_
   rintro _ _ ⟨rfl, rfl⟩
   go_wp2_with fail
   refine bodyPost_ret (v := .tuple #[fv ⟨1, 8, 0, 0, 127, 0, 128⟩, .bool true]) (by simp [results, Tryz.results45, go_sem]) rfl ?_
   exact ⟨rfl, by (repeat (first | exact U | refine Up.setCell ?_ (by first | exact Nat.le_refl _ | omega) _ | refine Up.alloc ?_ _)); try exact U⟩
  ·
   omega
  ·
   omega
  ·
   omega
set_option maxRecDepth 100000 in
theorem rof2 (w : World)  : Calls Tryz.prog 45 #[.int .i64 2] w (Fb ⟨1, 16, 0, 0, 32767, 0, 32768⟩ true w) := by
 have U := Up.refl w
 go_enter Tryz.func45, Tryz.ntmps45
 go_wp2_with fail
 go_loop [4, 5] (fun nv iv => ∃ n k : Nat, nv = .int .i64 (n : Int) ∧ iv = .int .i64 (k : Int) ∧ k ≤ 2 ∧ ((k = 1 ∧ n = 8) ∨ (k = 2 ∧ n = 16) ∨ (k = 3 ∧ n = 32) ∨ (k = 4 ∧ n = 64))) (fun _ iv => 2 - (intOf iv).toNat)
 case atStart => exact ⟨8, 1, rfl, rfl, by decide, .inl ⟨rfl, rfl⟩⟩
 case round =>
  obtain ⟨n, k, rfl, rfl, hk, hkn⟩ := hrel
  rcases hkn with ⟨rfl, rfl⟩ | ⟨rfl, rfl⟩ | ⟨rfl, rfl⟩ | ⟨rfl, rfl⟩
  ·
   go_wp2_with fail
   go_round
   case rel => exact ⟨16, 2, rfl, rfl, by decide, by decide⟩
   case measure => simp [intOf]
  ·
   clear hk
   go_wp2_with fail
   refine (ones_any _ 15 (by decide) 32767 (by show _ = _; decide)).mono ?_
   rintro _ _ ⟨rfl, rfl⟩
   go_wp2_with fail
   refine (ones_any _ 15 (by decide) 32767 (by show _ = _; decide)).mono ?_
   rintro _ _ ⟨rfl, rfl⟩
   go_wp2_with fail
   refine bodyPost_ret (v := .tuple #[fv ⟨1, 16, 0, 0, 32767, 0, 32768⟩, .bool true]) (by simp [results, Tryz.results45, go_sem]) rfl ?_
   exact ⟨rfl, by (repeat (first | exact U | refine Up.setCell ?_ (by first | exact Nat.le_refl _ | omega) _ | refine Up.alloc ?_ _)); try exact U⟩
  ·
   omega
  ·
   omega
set_option maxRecDepth 100000 in
theorem rof3 (w : World)  : Calls Tryz.prog 45 #[.int .i64 3] w (Fb ⟨1, 32, 0, 0, 2147483647, 0, 2147483648⟩ true w) := by
 have U := Up.refl w
 go_enter Tryz.func45, Tryz.ntmps45
 go_wp2_with fail
 go_loop [4, 5] (fun nv iv => ∃ n k : Nat, nv = .int .i64 (n : Int) ∧ iv = .int .i64 (k : Int) ∧ k ≤ 3 ∧ ((k = 1 ∧ n = 8) ∨ (k = 2 ∧ n = 16) ∨ (k = 3 ∧ n = 32) ∨ (k = 4 ∧ n = 64))) (fun _ iv => 3 - (intOf iv).toNat)
 case atStart => exact ⟨8, 1, rfl, rfl, by decide, .inl ⟨rfl, rfl⟩⟩
 case round =>
  obtain ⟨n, k, rfl, rfl, hk, hkn⟩ := hrel
  rcases hkn with ⟨rfl, rfl⟩ | ⟨rfl, rfl⟩ | ⟨rfl, rfl⟩ | ⟨rfl, rfl⟩
  ·
   go_wp2_with fail
   go_round
   case rel => exact ⟨16, 2, rfl, rfl, by decide, by decide⟩
   case measure => simp [intOf]
  ·
   go_wp2_with fail
   go_round
   case rel => exact ⟨32, 3, rfl, rfl, by decide, by decide⟩
   case measure => simp [intOf]
  ·
   clear hk
   go_wp2_with fail
   refine (ones_any _ 31 (by decide) 2147483647 (by show _ = _; decide)).mono ?_
   rintro _ _ ⟨rfl, rfl⟩
   go_wp2_with fail
   refine (ones_any _ 31 (by decide) 2147483647 (by show _ = _; decide)).mono ?_
   rintro _ _ ⟨rfl, rfl⟩
   go_wp2_with fail
   refine bodyPost_ret (v := .tuple #[fv ⟨1, 32, 0, 0, 2147483647, 0, 2147483648⟩, .bool true]) (by simp [results, Tryz.results45, go_sem]) rfl ?_
   exact ⟨rfl, by (repeat (first | exact U | refine Up.setCell ?_ (by first | exact Nat.le_refl _ | omega) _ | refine Up.alloc ?_ _)); try exact U⟩
  ·
   omega
set_option maxRecDepth 100000 in
theorem rof4 (w : World)  : Calls Tryz.prog 45 #[.int .i64 4] w (Fb ⟨1, 64, 0, 0, 9223372036854775807, 0, 9223372036854775808⟩ true w) := by
 have U := Up.refl w
 go_enter Tryz.func45, Tryz.ntmps45
 go_wp2_with fail
 go_loop [4, 5] (fun nv iv => ∃ n k : Nat, nv = .int .i64 (n : Int) ∧ iv = .int .i64 (k : Int) ∧ k ≤ 4 ∧ ((k = 1 ∧ n = 8) ∨ (k = 2 ∧ n = 16) ∨ (k = 3 ∧ n = 32) ∨ (k = 4 ∧ n = 64))) (fun _ iv => 4 - (intOf iv).toNat)
 case atStart => exact ⟨8, 1, rfl, rfl, by decide, .inl ⟨rfl, rfl⟩⟩
 case round =>
  obtain ⟨n, k, rfl, rfl, hk, hkn⟩ := hrel
  rcases hkn with ⟨rfl, rfl⟩ | ⟨rfl, rfl⟩ | ⟨rfl, rfl⟩ | ⟨rfl, rfl⟩
  ·
   go_wp2_with fail
   go_round
   case rel => exact ⟨16, 2, rfl, rfl, by decide, by decide⟩
   case measure => simp [intOf]
  ·
   go_wp2_with fail
   go_round
   case rel => exact ⟨32, 3, rfl, rfl, by decide, by decide⟩
   case measure => simp [intOf]
  ·
   go_wp2_with fail
   go_round
   case rel => exact ⟨64, 4, rfl, rfl, by decide, by decide⟩
   case measure => simp [intOf]
  ·
   clear hk
   go_wp2_with fail
   refine (ones_any _ 63 (by decide) 9223372036854775807 (by show _ = _; decide)).mono ?_
   rintro _ _ ⟨rfl, rfl⟩
   go_wp2_with fail
   refine (ones_any _ 63 (by decide) 9223372036854775807 (by show _ = _; decide)).mono ?_
   rintro _ _ ⟨rfl, rfl⟩
   go_wp2_with fail
   refine bodyPost_ret (v := .tuple #[fv ⟨1, 64, 0, 0, 9223372036854775807, 0, 9223372036854775808⟩, .bool true]) (by simp [results, Tryz.results45, go_sem]) rfl ?_
   exact ⟨rfl, by (repeat (first | exact U | refine Up.setCell ?_ (by first | exact Nat.le_refl _ | omega) _ | refine Up.alloc ?_ _)); try exact U⟩
set_option maxRecDepth 100000 in
theorem rof10 (w : World)  : Calls Tryz.prog 45 #[.int .i64 10] w (Fb ⟨3, 8, 6, 0, 127, 0, 0⟩ true w) := by
 have U := Up.refl w
 go_enter Tryz.func45, Tryz.ntmps45
 go_wp2_with fail
 refine bodyPost_ret (v := .tuple #[fv ⟨3, 8, 6, 0, 127, 0, 0⟩, .bool true]) (by simp [results, Tryz.results45, go_sem]) rfl ?_
 exact ⟨rfl, by (repeat (first | exact U | refine Up.setCell ?_ (by first | exact Nat.le_refl _ | omega) _ | refine Up.alloc ?_ _)); try exact U⟩
set_option maxRecDepth 100000 in
theorem rof11 (w : World)  : Calls Tryz.prog 45 #[.int .i64 11] w (Fb ⟨4, 8, 0, 127, 254, 0, 255⟩ true w) := by
 have U := Up.refl w
 go_enter Tryz.func45, Tryz.ntmps45
 go_wp2_with fail
 refine bodyPost_ret (v := .tuple #[fv ⟨4, 8, 0, 127, 254, 0, 255⟩, .bool true]) (by simp [results, Tryz.results45, go_sem]) rfl ?_
 exact ⟨rfl, by (repeat (first | exact U | refine Up.setCell ?_ (by first | exact Nat.le_refl _ | omega) _ | refine Up.alloc ?_ _)); try exact U⟩
set_option maxRecDepth 100000 in
theorem rof5 (w : World)  : Calls Tryz.prog 45 #[.int .i64 5] w (Fb ⟨2, 8, 3, 7, 126, 0, 127⟩ true w) := by
 have U := Up.refl w
 go_enter Tryz.func45, Tryz.ntmps45
 go_wp2_with fail
 obtain ⟨V1, hV1⟩ : ∃ V1, w.alloc (.cells #[.int .i64 0, .int .i64 0, .int .i64 0, .int .i64 0, .int .u64 0, .int .u64 0, .int .u64 0] 79) = V1 := ⟨_, rfl⟩
 have uV1 : Up w V1 := by rw [← hV1]; repeat' first | exact Up.refl _ | apply Up.alloc
 have a : Bf V1 w.heap.size 79 ⟨0, 0, 0, 0, 0, 0, 0⟩ := by rw [← hV1]; exact Bf.mk_ w ⟨0, 0, 0, 0, 0, 0, 0⟩ 79
 rw [hV1]
 clear hV1
 replace U := U.trans uV1
 clear uV1
 refine (rsigned5 _).mono ?_
 rintro _ w2 ⟨rfl, h2⟩
 replace a := a.up h2
 replace U := U.trans h2
 clear h2
 obtain ⟨a0, a1, a2, a3, a4, a5, a6⟩ := Bf.cs a
 have a7 := Bf.lt a
 simp only [Nat.zero_add] at a0 a1 a2 a3 a4 a5 a6 a7
 go_wp2_with (refine store_F rfl 79 (.tmp 2) (.tmp 30) rfl _ _ ⟨2, 8, 3, 7, 126, 0, 127⟩ rfl rfl (by kernel_rfl) w (by first | exact U | exact U.alloc _) (by first | exact Nat.le_refl _ | omega) 79 (by first | exact a | exact a.up ((Up.refl _).alloc _)) ?_; clear U; intro V z U _)
 obtain ⟨z0, z1, z2, z3, z4, z5, z6⟩ := Bf.cs z
 have z7 := Bf.lt z
 simp only [Nat.zero_add] at z0 z1 z2 z3 z4 z5 z6 z7
 refine bodyPost_ret (v := .tuple #[fv ⟨2, 8, 3, 7, 126, 0, 127⟩, .bool true]) (by simp [results, Tryz.results45, go_sem, z0, z1, z2, z3, z4, z5, z6]) rfl ?_
 exact ⟨rfl, by (repeat (first | exact U | refine Up.setCell ?_ (by first | exact Nat.le_refl _ | omega) _ | refine Up.alloc ?_ _)); try exact U⟩
set_option maxRecDepth 100000 in
theorem rof6 (w : World)  : Calls Tryz.prog 45 #[.int .i64 6] w (Fb ⟨2, 8, 2, 15, 123, 124, 126⟩ true w) := by
 have U := Up.refl w
 go_enter Tryz.func45, Tryz.ntmps45
 go_wp2_with fail
 obtain ⟨V1, hV1⟩ : ∃ V1, w.alloc (.cells #[.int .i64 0, .int .i64 0, .int .i64 0, .int .i64 0, .int .u64 0, .int .u64 0, .int .u64 0] 79) = V1 := ⟨_, rfl⟩
 have uV1 : Up w V1 := by rw [← hV1]; repeat' first | exact Up.refl _ | apply Up.alloc
 have a : Bf V1 w.heap.size 79 ⟨0, 0, 0, 0, 0, 0, 0⟩ := by rw [← hV1]; exact Bf.mk_ w ⟨0, 0, 0, 0, 0, 0, 0⟩ 79
 rw [hV1]
 clear hV1
 replace U := U.trans uV1
 clear uV1
 refine (rsigned6 _).mono ?_
 rintro _ w2 ⟨rfl, h2⟩
 replace a := a.up h2
 replace U := U.trans h2
 clear h2
 obtain ⟨a0, a1, a2, a3, a4, a5, a6⟩ := Bf.cs a
 have a7 := Bf.lt a
 simp only [Nat.zero_add] at a0 a1 a2 a3 a4 a5 a6 a7
 go_wp2_with (refine store_F rfl 79 (.tmp 2) (.tmp 33) rfl _ _ ⟨2, 8, 2, 15, 123, 124, 126⟩ rfl rfl (by kernel_rfl) w (by first | exact U | exact U.alloc _) (by first | exact Nat.le_refl _ | omega) 79 (by first | exact a | exact a.up ((Up.refl _).alloc _)) ?_; clear U; intro V z U _)
 obtain ⟨z0, z1, z2, z3, z4, z5, z6⟩ := Bf.cs z
 have z7 := Bf.lt z
 simp only [Nat.zero_add] at z0 z1 z2 z3 z4 z5 z6 z7
 refine bodyPost_ret (v := .tuple #[fv ⟨2, 8, 2, 15, 123, 124, 126⟩, .bool true]) (by simp [results, Tryz.results45, go_sem, z0, z1, z2, z3, z4, z5, z6]) rfl ?_
 exact ⟨rfl, by (repeat (first | exact U | refine Up.setCell ?_ (by first | exact Nat.le_refl _ | omega) _ | refine Up.alloc ?_ _)); try exact U⟩
set_option maxRecDepth 100000 in
theorem rof7 (w : World)  : Calls Tryz.prog 45 #[.int .i64 7] w (Fb ⟨2, 6, 2, 3, 31, 0, 0⟩ true w) := by
 have U := Up.refl w
 go_enter Tryz.func45, Tryz.ntmps45
 go_wp2_with fail
 obtain ⟨V1, hV1⟩ : ∃ V1, w.alloc (.cells #[.int .i64 0, .int .i64 0, .int .i64 0, .int .i64 0, .int .u64 0, .int .u64 0, .int .u64 0] 79) = V1 := ⟨_, rfl⟩
 have uV1 : Up w V1 := by rw [← hV1]; repeat' first | exact Up.refl _ | apply Up.alloc
 have a : Bf V1 w.heap.size 79 ⟨0, 0, 0, 0, 0, 0, 0⟩ := by rw [← hV1]; exact Bf.mk_ w ⟨0, 0, 0, 0, 0, 0, 0⟩ 79
 rw [hV1]
 clear hV1
 replace U := U.trans uV1
 clear uV1
 refine (rsigned7 _).mono ?_
 rintro _ w2 ⟨rfl, h2⟩
 replace a := a.up h2
 replace U := U.trans h2
 clear h2
 obtain ⟨a0, a1, a2, a3, a4, a5, a6⟩ := Bf.cs a
 have a7 := Bf.lt a
 simp only [Nat.zero_add] at a0 a1 a2 a3 a4 a5 a6 a7
 go_wp2_with (refine store_F rfl 79 (.tmp 2) (.tmp 36) rfl _ _ ⟨2, 6, 2, 3, 31, 0, 0⟩ rfl rfl (by kernel_rfl) w (by first | exact U | exact U.alloc _) (by first | exact Nat.le_refl _ | omega) 79 (by first | exact a | exact a.up ((Up.refl _).alloc _)) ?_; clear U; intro V z U _)
 obtain ⟨z0, z1, z2, z3, z4, z5, z6⟩ := Bf.cs z
 have z7 := Bf.lt z
 simp only [Nat.zero_add] at z0 z1 z2 z3 z4 z5 z6 z7
 refine bodyPost_ret (v := .tuple #[fv ⟨2, 6, 2, 3, 31, 0, 0⟩, .bool true]) (by simp [results, Tryz.results45, go_sem, z0, z1, z2, z3, z4, z5, z6]) rfl ?_
 exact ⟨rfl, by (repeat (first | exact U | refine Up.setCell ?_ (by first | exact Nat.le_refl _ | omega) _ | refine Up.alloc ?_ _)); try exact U⟩
set_option maxRecDepth 100000 in
theorem rof8 (w : World)  : Calls Tryz.prog 45 #[.int .i64 8] w (Fb ⟨2, 6, 3, 1, 31, 0, 0⟩ true w) := by
 have U := Up.refl w
 go_enter Tryz.func45, Tryz.ntmps45
 go_wp2_with fail
 obtain ⟨V1, hV1⟩ : ∃ V1, w.alloc (.cells #[.int .i64 0, .int .i64 0, .int .i64 0, .int .i64 0, .int .u64 0, .int .u64 0, .int .u64 0] 79) = V1 := ⟨_, rfl⟩
 have uV1 : Up w V1 := by rw [← hV1]; repeat' first | exact Up.refl _ | apply Up.alloc
 have a : Bf V1 w.heap.size 79 ⟨0, 0, 0, 0, 0, 0, 0⟩ := by rw [← hV1]; exact Bf.mk_ w ⟨0, 0, 0, 0, 0, 0, 0⟩ 79
 rw [hV1]
 clear hV1
 replace U := U.trans uV1
 clear uV1
 refine (rsigned8 _).mono ?_
 rintro _ w2 ⟨rfl, h2⟩
 replace a := a.up h2
 replace U := U.trans h2
 clear h2
 obtain ⟨a0, a1, a2, a3, a4, a5, a6⟩ := Bf.cs a
 have a7 := Bf.lt a
 simp only [Nat.zero_add] at a0 a1 a2 a3 a4 a5 a6 a7
 go_wp2_with (refine store_F rfl 79 (.tmp 2) (.tmp 39) rfl _ _ ⟨2, 6, 3, 1, 31, 0, 0⟩ rfl rfl (by kernel_rfl) w (by first | exact U | exact U.alloc _) (by first | exact Nat.le_refl _ | omega) 79 (by first | exact a | exact a.up ((Up.refl _).alloc _)) ?_; clear U; intro V z U _)
 obtain ⟨z0, z1, z2, z3, z4, z5, z6⟩ := Bf.cs z
 have z7 := Bf.lt z
 simp only [Nat.zero_add] at z0 z1 z2 z3 z4 z5 z6 z7
 refine bodyPost_ret (v := .tuple #[fv ⟨2, 6, 3, 1, 31, 0, 0⟩, .bool true]) (by simp [results, Tryz.results45, go_sem, z0, z1, z2, z3, z4, z5, z6]) rfl ?_
 exact ⟨rfl, by (repeat (first | exact U | refine Up.setCell ?_ (by first | exact Nat.le_refl _ | omega) _ | refine Up.alloc ?_ _)); try exact U⟩
set_option maxRecDepth 100000 in
theorem rof9 (w : World)  : Calls Tryz.prog 45 #[.int .i64 9] w (Fb ⟨2, 4, 1, 1, 7, 0, 0⟩ true w) := by
 have U := Up.refl w
 go_enter Tryz.func45, Tryz.ntmps45
 go_wp2_with fail
 obtain ⟨V1, hV1⟩ : ∃ V1, w.alloc (.cells #[.int .i64 0, .int .i64 0, .int .i64 0, .int .i64 0, .int .u64 0, .int .u64 0, .int .u64 0] 79) = V1 := ⟨_, rfl⟩
 have uV1 : Up w V1 := by rw [← hV1]; repeat' first | exact Up.refl _ | apply Up.alloc
 have a : Bf V1 w.heap.size 79 ⟨0, 0, 0, 0, 0, 0, 0⟩ := by rw [← hV1]; exact Bf.mk_ w ⟨0, 0, 0, 0, 0, 0, 0⟩ 79
 rw [hV1]
 clear hV1
 replace U := U.trans uV1
 clear uV1
 refine (rsigned9 _).mono ?_
 rintro _ w2 ⟨rfl, h2⟩
 replace a := a.up h2
 replace U := U.trans h2
 clear h2
 obtain ⟨a0, a1, a2, a3, a4, a5, a6⟩ := Bf.cs a
 have a7 := Bf.lt a
 simp only [Nat.zero_add] at a0 a1 a2 a3 a4 a5 a6 a7
 go_wp2_with (refine store_F rfl 79 (.tmp 2) (.tmp 42) rfl _ _ ⟨2, 4, 1, 1, 7, 0, 0⟩ rfl rfl (by kernel_rfl) w (by first | exact U | exact U.alloc _) (by first | exact Nat.le_refl _ | omega) 79 (by first | exact a | exact a.up ((Up.refl _).alloc _)) ?_; clear U; intro V z U _)
 obtain ⟨z0, z1, z2, z3, z4, z5, z6⟩ := Bf.cs z
 have z7 := Bf.lt z
 simp only [Nat.zero_add] at z0 z1 z2 z3 z4 z5 z6 z7
 refine bodyPost_ret (v := .tuple #[fv ⟨2, 4, 1, 1, 7, 0, 0⟩, .bool true]) (by simp [results, Tryz.results45, go_sem, z0, z1, z2, z3, z4, z5, z6]) rfl ?_
 exact ⟨rfl, by (repeat (first | exact U | refine Up.setCell ?_ (by first | exact Nat.le_refl _ | omega) _ | refine Up.alloc ?_ _)); try exact U⟩
set_option maxRecDepth 100000 in
theorem rof12 (w : World)  : Calls Tryz.prog 45 #[.int .i64 12] w (Fb ⟨2, 16, 10, 15, 31743, 31744, 32256⟩ true w) := by
 have U := Up.refl w
 go_enter Tryz.func45, Tryz.ntmps45
 go_wp2_with fail
 obtain ⟨V1, hV1⟩ : ∃ V1, w.alloc (.cells #[.int .i64 0, .int .i64 0, .int .i64 0, .int .i64 0, .int .u64 0, .int .u64 0, .int .u64 0] 79) = V1 := ⟨_, rfl⟩
 have uV1 : Up w V1 := by rw [← hV1]; repeat' first | exact Up.refl _ | apply Up.alloc
 have a : Bf V1 w.heap.size 79 ⟨0, 0, 0, 0, 0, 0, 0⟩ := by rw [← hV1]; exact Bf.mk_ w ⟨0, 0, 0, 0, 0, 0, 0⟩ 79
 rw [hV1]
 clear hV1
 replace U := U.trans uV1
 clear uV1
 refine (rsigned12 _).mono ?_
 rintro _ w2 ⟨rfl, h2⟩
 replace a := a.up h2
 replace U := U.trans h2
 clear h2
 obtain ⟨a0, a1, a2, a3, a4, a5, a6⟩ := Bf.cs a
 have a7 := Bf.lt a
 simp only [Nat.zero_add] at a0 a1 a2 a3 a4 a5 a6 a7
 go_wp2_with (refine store_F rfl 79 (.tmp 2) (.tmp 51) rfl _ _ ⟨2, 16, 10, 15, 31743, 31744, 32256⟩ rfl rfl (by kernel_rfl) w (by first | exact U | exact U.alloc _) (by first | exact Nat.le_refl _ | omega) 79 (by first | exact a | exact a.up ((Up.refl _).alloc _)) ?_; clear U; intro V z U _)
 obtain ⟨z0, z1, z2, z3, z4, z5, z6⟩ := Bf.cs z
 have z7 := Bf.lt z
 simp only [Nat.zero_add] at z0 z1 z2 z3 z4 z5 z6 z7
 refine bodyPost_ret (v := .tuple #[fv ⟨2, 16, 10, 15, 31743, 31744, 32256⟩, .bool true]) (by simp [results, Tryz.results45, go_sem, z0, z1, z2, z3, z4, z5, z6]) rfl ?_
 exact ⟨rfl, by (repeat (first | exact U | refine Up.setCell ?_ (by first | exact Nat.le_refl _ | omega) _ | refine Up.alloc ?_ _)); try exact U⟩
set_option maxRecDepth 100000 in
theorem rof13 (w : World)  : Calls Tryz.prog 45 #[.int .i64 13] w (Fb ⟨2, 32, 23, 127, 2139095039, 2139095040, 2143289344⟩ true w) := by
 have U := Up.refl w
 go_enter Tryz.func45, Tryz.ntmps45
 go_wp2_with fail
 obtain ⟨V1, hV1⟩ : ∃ V1, w.alloc (.cells #[.int .i64 0, .int .i64 0, .int .i64 0, .int .i64 0, .int .u64 0, .int .u64 0, .int .u64 0] 79) = V1 := ⟨_, rfl⟩
 have uV1 : Up w V1 := by rw [← hV1]; repeat' first | exact Up.refl _ | apply Up.alloc
 have a : Bf V1 w.heap.size 79 ⟨0, 0, 0, 0, 0, 0, 0⟩ := by rw [← hV1]; exact Bf.mk_ w ⟨0, 0, 0, 0, 0, 0, 0⟩ 79
 rw [hV1]
 clear hV1
 replace U := U.trans uV1
 clear uV1
 refine (rsigned13 _).mono ?_
 rintro _ w2 ⟨rfl, h2⟩
 replace a := a.up h2
 replace U := U.trans h2
 clear h2
 obtain ⟨a0, a1, a2, a3, a4, a5, a6⟩ := Bf.cs a
 have a7 := Bf.lt a
 simp only [Nat.zero_add] at a0 a1 a2 a3 a4 a5 a6 a7
 go_wp2_with (refine store_F rfl 79 (.tmp 2) (.tmp 54) rfl _ _ ⟨2, 32, 23, 127, 2139095039, 2139095040, 2143289344⟩ rfl rfl (by kernel_rfl) w (by first | exact U | exact U.alloc _) (by first | exact Nat.le_refl _ | omega) 79 (by first | exact a | exact a.up ((Up.refl _).alloc _)) ?_; clear U; intro V z U _)
 obtain ⟨z0, z1, z2, z3, z4, z5, z6⟩ := Bf.cs z
 have z7 := Bf.lt z
 simp only [Nat.zero_add] at z0 z1 z2 z3 z4 z5 z6 z7
 refine bodyPost_ret (v := .tuple #[fv ⟨2, 32, 23, 127, 2139095039, 2139095040, 2143289344⟩, .bool true]) (by simp [results, Tryz.results45, go_sem, z0, z1, z2, z3, z4, z5, z6]) rfl ?_
 exact ⟨rfl, by (repeat (first | exact U | refine Up.setCell ?_ (by first | exact Nat.le_refl _ | omega) _ | refine Up.alloc ?_ _)); try exact U⟩
set_option maxRecDepth 100000 in
theorem rof14 (w : World)  : Calls Tryz.prog 45 #[.int .i64 14] w (Fb ⟨2, 64, 52, 1023, 9218868437227405311, 9218868437227405312, 9221120237041090560⟩ true w) := by
 have U := Up.refl w
 go_enter Tryz.func45, Tryz.ntmps45
 go_wp2_with fail
 obtain ⟨V1, hV1⟩ : ∃ V1, w.alloc (.cells #[.int .i64 0, .int .i64 0, .int .i64 0, .int .i64 0, .int .u64 0, .int .u64 0, .int .u64 0] 79) = V1 := ⟨_, rfl⟩
 have uV1 : Up w V1 := by rw [← hV1]; repeat' first | exact Up.refl _ | apply Up.alloc
 have a : Bf V1 w.heap.size 79 ⟨0, 0, 0, 0, 0, 0, 0⟩ := by rw [← hV1]; exact Bf.mk_ w ⟨0, 0, 0, 0, 0, 0, 0⟩ 79
 rw [hV1]
 clear hV1
 replace U := U.trans uV1
 clear uV1
 refine (rsigned14 _).mono ?_
 rintro _ w2 ⟨rfl, h2⟩
 replace a := a.up h2
 replace U := U.trans h2
 clear h2
 obtain ⟨a0, a1, a2, a3, a4, a5, a6⟩ := Bf.cs a
 have a7 := Bf.lt a
 simp only [Nat.zero_add] at a0 a1 a2 a3 a4 a5 a6 a7
 go_wp2_with (refine store_F rfl 79 (.tmp 2) (.tmp 57) rfl _ _ ⟨2, 64, 52, 1023, 9218868437227405311, 9218868437227405312, 9221120237041090560⟩ rfl rfl (by kernel_rfl) w (by first | exact U | exact U.alloc _) (by first | exact Nat.le_refl _ | omega) 79 (by first | exact a | exact a.up ((Up.refl _).alloc _)) ?_; clear U; intro V z U _)
 obtain ⟨z0, z1, z2, z3, z4, z5, z6⟩ := Bf.cs z
 have z7 := Bf.lt z
 simp only [Nat.zero_add] at z0 z1 z2 z3 z4 z5 z6 z7
 refine bodyPost_ret (v := .tuple #[fv ⟨2, 64, 52, 1023, 9218868437227405311, 9218868437227405312, 9221120237041090560⟩, .bool true]) (by simp [results, Tryz.results45, go_sem, z0, z1, z2, z3, z4, z5, z6]) rfl ?_
 exact ⟨rfl, by (repeat (first | exact U | refine Up.setCell ?_ (by first | exact Nat.le_refl _ | omega) _ | refine Up.alloc ?_ _)); try exact U⟩
set_option maxRecDepth 100000 in
theorem rof_out (w : World) (ii : Int) (h : ii < 1 ∨ 15 ≤ ii) : Calls Tryz.prog 45 #[.int .i64 ii] w (Fb ⟨0, 0, 0, 0, 0, 0, 0⟩ false w) := by
 have d1 : (ii == 1) = false := by rw [beq_eq_false_iff_ne]; omega
 have d2 : (ii == 2) = false := by rw [beq_eq_false_iff_ne]; omega
 have d3 : (ii == 3) = false := by rw [beq_eq_false_iff_ne]; omega
 have d4 : (ii == 4) = false := by rw [beq_eq_false_iff_ne]; omega
 have d5 : (ii == 5) = false := by rw [beq_eq_false_iff_ne]; omega
 have d6 : (ii == 6) = false := by rw [beq_eq_false_iff_ne]; omega
 have d7 : (ii == 7) = false := by rw [beq_eq_false_iff_ne]; omega
 have d8 : (ii == 8) = false := by rw [beq_eq_false_iff_ne]; omega
 have d9 : (ii == 9) = false := by rw [beq_eq_false_iff_ne]; omega
 have d10 : (ii == 10) = false := by rw [beq_eq_false_iff_ne]; omega
 have d11 : (ii == 11) = false := by rw [beq_eq_false_iff_ne]; omega
 have d12 : (ii == 12) = false := by rw [beq_eq_false_iff_ne]; omega
 have d13 : (ii == 13) = false := by rw [beq_eq_false_iff_ne]; omega
 have d14 : (ii == 14) = false := by rw [beq_eq_false_iff_ne]; omega
 clear h
 have U := Up.refl w
 go_enter Tryz.func45, Tryz.ntmps45
 go_wp2_with fail
 refine bodyPost_ret (v := .tuple #[fv ⟨0, 0, 0, 0, 0, 0, 0⟩, .bool false]) (by simp [results, Tryz.results45, go_sem]) rfl ?_
 exact ⟨rfl, by (repeat (first | exact U | refine Up.setCell ?_ (by first | exact Nat.le_refl _ | omega) _ | refine Up.alloc ?_ _)); try exact U⟩
theorem rof_in (w : World) (i : Nat) (f : M.Fm) (hf : Hid (M.tb i = f)) (h1 : 1 ≤ i) (h2 : i ≤ 14) : Calls Tryz.prog 45 #[.int .i64 (i : Int)] w (Fb f true w) := by
 rw [← hf.out]
 exact M.all14 (p := fun i => Calls Tryz.prog 45 #[.int .i64 (i : Int)] w (Fb (M.tb i) true w)) (rof1 w) (rof2 w) (rof3 w) (rof4 w) (rof5 w) (rof6 w) (rof7 w) (rof8 w) (rof9 w) (rof10 w) (rof11 w) (rof12 w) (rof13 w) (rof14 w) i h1 h2
set_option maxRecDepth 100000 in
theorem rmask_any (w : World) (f : M.Fm) (hf : M.Ok f) (M' : Int) (hM : Hid (M.msk f = M')) : Calls Tryz.prog 46 #[fv f] w (Wz M' w) := by
 obtain ⟨k, W, m, b, t, n, x⟩ := f
 have hW := hf.W
 clear hf
 simp only at hW
 obtain ⟨q, rfl, hq⟩ : ∃ q : Nat, W = (q : Int) ∧ q ≤ 64 := ⟨W.toNat, by omega, by omega⟩
 have hz : Hid (2 ^ q - 1 = M') := by rw [← hM.out]; rfl
 clear hW hM
 have U := Up.refl w
 go_enter Tryz.func46, Tryz.ntmps46
 go_wp2_with fail
 refine (ones_any _ q hq M' hz).mono ?_
 rintro _ _ ⟨rfl, rfl⟩
 go_wp2_with fail
 go_ret
 exact ⟨rfl, U.alloc _⟩
set_option maxRecDepth 100000 in
theorem rsign_any (w : World) (f : M.Fm) (hf : M.Ok f) (S : Int) (hS : Hid (M.sgn f = S)) : Calls Tryz.prog 103 #[fv f] w (Wz S w) := by
 have hW := hf.W
 have hm := hf.hm
 by_cases hk : f.k = 4
 ·obtain ⟨k, W, m, b, t, n, x⟩ := f
  simp only at hk
  subst hk
  clear hf hW hm
  have U := Up.refl w
  go_enter Tryz.func103, Tryz.ntmps103
  go_wp2_with fail
  go_ret
  exact ⟨ret_int (by rw [← hS.out]; rfl), U.alloc _⟩
 ·have d : (f.k == 4) = false := by simpa using hk
  have e := hS.out
  unfold M.sgn at e
  rw [if_neg hk] at e
  clear hS hf
  obtain ⟨H, hH⟩ : ∃ H, M.half f = H := ⟨_, rfl⟩
  obtain ⟨M', hM⟩ : ∃ z, M.msk f = z := ⟨_, rfl⟩
  rw [hM, hH] at hm
  rw [hH] at e
  subst e
  obtain ⟨k, W, m, b, t, n, x⟩ := f
  simp only at hW hk d
  obtain ⟨q, rfl, hq, hq1⟩ : ∃ q : Nat, W = (q : Int) ∧ q ≤ 64 ∧ 1 ≤ q := ⟨W.toNat, by omega, by omega, by omega⟩
  have hz : Hid (2 ^ q - 1 = M') := by rw [← hM]; rfl
  have hz2 : Hid (2 ^ (q - 1) - 1 = H - 1) := by rw [← hH]; rfl
  have C1 := Lib.hid (fun w' => show Calls Tryz.prog 76 #[.int .i64 (q : Int)] w' (Same (.int .u64 M') w') from ones_any w' q hq M' hz)
  have C2 := Lib.hid (fun w' => show Calls Tryz.prog 76 #[.int .i64 ((q : Int) - 1)] w' (Same (.int .u64 (H - 1)) w') from by
   rw [show ((q : Int) - 1) = ((q - 1 : Nat) : Int) by omega]
   exact ones_any w' (q - 1) (by omega) (H - 1) hz2)
  have e2 : M' - (H - 1) = H := by omega
  have b1 : 0 ≤ M' := by omega
  have b2 : M' < 18446744073709551616 := by omega
  have b3 : 0 ≤ H := by omega
  have b4 : H < 18446744073709551616 := by omega
  have ew : IntKind.i64.wrap ((q : Int) - 1) = (q : Int) - 1 := by simp [IntKind.wrap, IntKind.bits, IntKind.signed]; omega
  have ew2 : IntKind.u64.wrap H = H := by simp [IntKind.wrap, IntKind.bits, IntKind.signed]; omega
  clear hM hH hz hz2 hW hk hm
  have U := Up.refl w
  go_enter Tryz.func103, Tryz.ntmps103
  go_wp2_with fail
  obtain ⟨V1, hV1⟩ : ∃ V1, w.alloc (.cells #[.int .i64 k, .int .i64 (q : Int), .int .i64 m, .int .i64 b, .int .u64 t, .int .u64 n, .int .u64 x] 79) = V1 := ⟨_, rfl⟩
  have uV1 : Up w V1 := by rw [← hV1]; repeat' first | exact Up.refl _ | apply Up.alloc
  have a : Bf V1 w.heap.size 79 ⟨k, (q : Int), m, b, t, n, x⟩ := by rw [← hV1]; exact Bf.mk_ w ⟨k, (q : Int), m, b, t, n, x⟩ 79
  rw [hV1]
  clear hV1
  replace U := U.trans uV1
  clear uV1
  obtain ⟨a0, a1, a2, a3, a4, a5, a6⟩ := Bf.cs a
  have a7 := Bf.lt a
  simp only [Nat.zero_add] at a0 a1 a2 a3 a4 a5 a6 a7
  go_region_held3 (fun w' => w'.cell? ⟨w.heap.size, 1, none⟩ = some (.int .i64 (q : Int))) (go_keep) (first
    | (go_at_call_of 76 (Value.int .i64 (q : Int)); (with_reducible refine (C1.out _).mono ?_); rintro _ _ ⟨rfl, rfl⟩)
    | (go_at_call 76; (with_reducible refine (C2.out _).mono ?_); rintro _ _ ⟨rfl, rfl⟩))
  go_wp2_with fail
  go_ret
  exact ⟨ret_int (by first | exact ew2 | exact e2 | rfl), by first | exact U | exact U.drewN _⟩
set_option maxRecDepth 100000 in
theorem rfits_out (w : World) (ii p : Int) (h : ii < 1 ∨ 15 ≤ ii) : Calls Tryz.prog 15 #[.int .i64 ii, .int .u64 p] w (Nz 3 w) := by
 have U := Up.refl w
 go_enter Tryz.func15, Tryz.ntmps15
 go_wp2_with fail
 refine (rof_out _ ii h).mono ?_
 rintro _ w1 ⟨rfl, h1⟩
 replace U := U.trans h1
 clear h1
 clear h
 go_wp2_with fail
 go_ret
 exact ⟨rfl, U.alloc _⟩
set_option maxRecDepth 100000 in
theorem rfits_in (w : World) (i : Nat) (h1 : 1 ≤ i) (h2 : i ≤ 14) (p : Int) (e : Int) (he : Hid (M.er i p = e)) : Calls Tryz.prog 15 #[.int .i64 (i : Int), .int .u64 p] w (Nz e w) := by
 have ok := M.ok i h1 h2
 have he' := he.out
 unfold M.er at he'
 clear he
 obtain ⟨f, hf⟩ : ∃ f, M.tb i = f := ⟨_, rfl⟩
 rw [hf] at ok he'
 have HF := Lib.hid hf
 obtain ⟨M', hM⟩ : ∃ z, M.msk f = z := ⟨_, rfl⟩
 rw [hM] at he'
 have HM := Lib.hid hM
 have OK := Lib.hid ok
 clear hf hM ok
 rcases (show p ≤ M' ∨ M' < p by omega) with hc | hc
 ·
  rw [if_pos hc] at he'
  have d : decide (M' < p) = false := decide_eq_false (by omega)
  subst he'
  clear hc
  have U := Up.refl w
  go_enter Tryz.func15, Tryz.ntmps15
  go_wp2_with fail
  refine (rof_in _ i f HF h1 h2).mono ?_
  rintro _ w1 ⟨rfl, h1⟩
  replace U := U.trans h1
  clear h1
  clear HF h1 h2
  go_wp2_with fail
  obtain ⟨V2, hV2, c, uV2⟩ := Bf.nw w1 f 79
  rw [hV2]
  clear hV2
  replace U := U.trans uV2
  clear uV2
  obtain ⟨c0, c1, c2, c3, c4, c5, c6⟩ := Bf.cs c
  have c7 := Bf.lt c
  simp only [Nat.zero_add] at c0 c1 c2 c3 c4 c5 c6 c7
  go_wp2_with fail
  clear c0 c1 c2 c3 c4 c5 c6 c7
  refine (rmask_any _ f OK.out M' HM).mono ?_
  rintro _ w3 ⟨rfl, h3⟩
  replace c := c.up h3
  replace U := U.trans h3
  clear h3
  go_wp2_with fail
  go_ret
  exact ⟨rfl, U⟩
 ·
  rw [if_neg (by omega)] at he'
  have d : decide (M' < p) = true := decide_eq_true hc
  subst he'
  clear hc
  have U := Up.refl w
  go_enter Tryz.func15, Tryz.ntmps15
  go_wp2_with fail
  refine (rof_in _ i f HF h1 h2).mono ?_
  rintro _ w4 ⟨rfl, h4⟩
  replace U := U.trans h4
  clear h4
  clear HF h1 h2
  go_wp2_with fail
  obtain ⟨V5, hV5, c, uV5⟩ := Bf.nw w4 f 79
  rw [hV5]
  clear hV5
  replace U := U.trans uV5
  clear uV5
  obtain ⟨c0, c1, c2, c3, c4, c5, c6⟩ := Bf.cs c
  have c7 := Bf.lt c
  simp only [Nat.zero_add] at c0 c1 c2 c3 c4 c5 c6 c7
  go_wp2_with fail
  clear c0 c1 c2 c3 c4 c5 c6 c7
  refine (rmask_any _ f OK.out M' HM).mono ?_
  rintro _ w6 ⟨rfl, h6⟩
  replace c := c.up h6
  replace U := U.trans h6
  clear h6
  go_wp2_with fail
  go_ret
  exact ⟨rfl, U⟩
end Go.Proofs.YtijpffgocookaaaGreatDoor
