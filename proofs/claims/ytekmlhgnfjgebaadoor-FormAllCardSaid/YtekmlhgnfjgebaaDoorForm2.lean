/-
  Forms: what a pattern is told to be, continued.
-/
import Derived.Test.YtekmlhgnfjgebaaDoorForms
namespace Go.Proofs.YtekmlhgnfjgebaaDoor
open Go.RowKit

/-- A form's own variable. -/
def Bf (w : World) (b : Nat) (ty : TypeId) (f : M.Fm) : Prop :=
  w.heap[b]? = some (.cells #[.int .i64 f.k, .int .i64 f.W, .int .i64 f.m, .int .i64 f.b, .int .u64 f.t, .int .u64 f.n, .int .u64 f.x] ty (0, 0))
theorem Bf.mk_ (w : World) (f : M.Fm) (ty : TypeId) : Bf (w.alloc (.cells #[.int .i64 f.k, .int .i64 f.W, .int .i64 f.m, .int .i64 f.b, .int .u64 f.t, .int .u64 f.n, .int .u64 f.x] ty)) w.heap.size ty f := by
  show (w.heap.push _)[w.heap.size]? = _
  exact Array.getElem?_push_size
theorem Bf.lt {w : World} {b : Nat} {ty : TypeId} {f : M.Fm} (h : Bf w b ty f) : b < w.heap.size := (Array.getElem?_eq_some_iff.1 h).1
theorem Bf.up {w w' : World} {b : Nat} {ty : TypeId} {f : M.Fm} (h : Bf w b ty f) (hu : Up w w') : Bf w' b ty f := (Below.block hu b h.lt).trans h
theorem Bf.cs {w : World} {b : Nat} {ty : TypeId} {f : M.Fm} (h : Bf w b ty f) : Cs w b 0 f := by
  unfold Bf at h
  refine ⟨?_, ?_, ?_, ?_, ?_, ?_, ?_⟩ <;> simp [World.cell?, h]
theorem Bf.fr {w : World} {b : Nat} {ty : TypeId} {f : M.Fm} (h : Bf w b ty f) (i : Nat) : w.frozen? ⟨b, i, none⟩ = false := by
  unfold Bf at h
  simp [World.frozen?, h]
theorem Bf.set {w : World} {b : Nat} {ty : TypeId} {f g : M.Fm} (h : Bf w b ty f) : Bf (w.setRow b #[.int .i64 g.k, .int .i64 g.W, .int .i64 g.m, .int .i64 g.b, .int .u64 g.t, .int .u64 g.n, .int .u64 g.x]) b ty g :=
  setRow_heap w b _ _ ty _ h
theorem Bf.cell {w : World} {b b' i : Nat} {ty : TypeId} {f : M.Fm} (h : Bf w b ty f) (hne : b ≠ b') (v : Value) : Bf (w.setCell ⟨b', i, none⟩ v) b ty f :=
  (Below.heap_setCell w ⟨b', i, none⟩ v b hne).trans h
theorem Bf.drew {w : World} {b : Nat} {ty : TypeId} {f : M.Fm} (h : Bf w b ty f) : Bf w.drew b ty f := h
theorem Up.setRow {w w' : World} (h : Up w w') {b : Nat} (hb : w.heap.size ≤ b) (cs : Array Value) : Up w (w'.setRow b cs) :=
  ⟨h.os, h.tape, h.output, by have := h.size; simpa [World.setRow] using this, fun k hk => (setRow_other w' b k cs (by omega)).trans (h.block k hk)⟩
/-- A whole form is stored. -/
theorem store_F {P : Program} {ops : Array Oper} {rest : List Oper} {o : Oper} {a : Act} {w : World} {Q : Exit → Act → World → Prop} (hgd : o.guard = none) (ty : TypeId) (x y : Operand) (ho : o.op = .store ty x y)
    (g : Nat) (f f' : M.Fm) (hx : a.eval x = .pointer (some ⟨g, 0, none⟩)) (hy : a.eval y = .agg #[.int .i64 f'.k, .int .i64 f'.W, .int .i64 f'.m, .int .i64 f'.b, .int .u64 f'.t, .int .u64 f'.n, .int .u64 f'.x]) (hi : (P.info? ty).map (·.size) = some 7)
    (w0 : World) (U : Up w0 w) (hb : w0.heap.size ≤ g) (t : TypeId) (hB : Bf w g t f)
    (h : ∀ V, Bf V g t f' → Up w0 V → (∀ b' t'' f'', b' ≠ g → Bf w b' t'' f'' → Bf V b' t'' f'') → wpList P ops Q rest (a.put o.dst undef) V) : wpList P ops Q (o :: rest) a w :=
  wpList_store_row hgd ty x y ho g _ hx hy t _ hB hi rfl (by simp [Value.oneCell']) (h _ hB.set (U.setRow hb _) fun b' _ _ hne h' => (setRow_other w g b' _ hne).trans h')

theorem M.fits_bit (i : Nat) (a : 1 ≤ i) (b : i ≤ 14) (p : Int) (h1 : 0 ≤ p) (h2 : p < 18446744073709551616) : (Go.bits BinOp.andNot IntKind.u64 p (M.msk (M.tb i)) != 0) = !decide (p ≤ M.msk (M.tb i)) := by
  have ok := M.ok i a b
  have hW := ok.W
  have hm := ok.hm
  obtain ⟨P, rfl⟩ := Int.eq_ofNat_of_zero_le h1
  obtain ⟨n, hn, hn64⟩ : ∃ n : Nat, (M.tb i).W.toNat = n ∧ n ≤ 64 := ⟨_, rfl, by omega⟩
  have e : M.msk (M.tb i) = ((2 ^ n - 1 : Nat) : Int) := by
    have := Nat.pow_pos (n := n) (show 0 < 2 by decide)
    unfold M.msk
    rw [hn, Int.ofNat_sub this]
    simp
  have h64 : 2 ^ n ≤ 2 ^ 64 := Nat.pow_le_pow_right (by decide) hn64
  have h65 : (2 : Nat) ^ 64 = 18446744073709551616 := by decide
  rw [h65] at h64
  clear h65
  rw [e, u64_andNot _ _ h1 h2 (by omega) (by omega)]
  simp only [Int.toNat_natCast]
  rw [M.and_not_low n P (by omega) hn64]
  have hp := Nat.pow_pos (n := n) (show 0 < 2 by decide)
  by_cases hc : P < 2 ^ n
  · rw [Nat.mod_eq_of_lt hc, Nat.sub_self]
    have : ((P : Int) ≤ ((2 ^ n - 1 : Nat) : Int)) := by omega
    simp [this]
  · have hlt := Nat.mod_lt P hp
    have : ¬ ((P : Int) ≤ ((2 ^ n - 1 : Nat) : Int)) := by omega
    rw [decide_eq_false this, Bool.not_false, bne_iff_ne]
    omega
theorem M.mag_bit (i : Nat) (a : 1 ≤ i) (b : i ≤ 14) (hk : (M.tb i).k ≠ 4) (p : Int) (h1 : 0 ≤ p) (h2 : p ≤ M.msk (M.tb i)) : Go.bits BinOp.andNot IntKind.u64 p (M.sgn (M.tb i)) = p % M.half (M.tb i) := by
  have ok := M.ok i a b
  have hW := ok.W
  have hm := ok.hm
  obtain ⟨P, rfl⟩ := Int.eq_ofNat_of_zero_le h1
  obtain ⟨n, hn, hn64⟩ : ∃ n : Nat, (M.tb i).W.toNat = n + 1 ∧ n < 64 := ⟨(M.tb i).W.toNat - 1, by omega, by omega⟩
  have e : M.half (M.tb i) = ((2 ^ n : Nat) : Int) := by
    unfold M.half
    rw [hn]
    simp
  have e2 : M.sgn (M.tb i) = ((2 ^ n : Nat) : Int) := by rw [M.sgn, if_neg hk, e]
  have h64 : 2 ^ n < 2 ^ 64 := Nat.pow_lt_pow_right (by decide) hn64
  have h65 : (2 : Nat) ^ 64 = 18446744073709551616 := by decide
  rw [h65] at h64
  clear h65
  have hp : P < 2 ^ (n + 1) := by
    have : M.msk (M.tb i) = 2 * ((2 ^ n : Nat) : Int) - 1 := by rw [← e]; exact hm.2.1
    rw [this] at h2
    have := Nat.pow_succ 2 n
    omega
  have hP : (P : Int) < 18446744073709551616 := by
    have : M.msk (M.tb i) ≤ 18446744073709551615 := by have := hm.2.2; have := hm.2.1; omega
    omega
  rw [e2, e, u64_andNot _ _ h1 hP (by omega) (by omega)]
  simp only [Int.toNat_natCast]
  rw [M.and_not_bit n P hp hn64]
  omega
set_option maxHeartbeats 2000000 in
set_option maxRecDepth 100000 in
theorem of_out (w : World) (ii : Int) (h : ii < 1 ∨ 15 ≤ ii) : Calls Tryd.prog 9 #[.int .i64 ii] w (Fn ⟨0, 0, 0, 0, 0, 0, 0⟩ 3 w) := by
  rcases (show ii < 1 ∨ (1 ≤ ii ∧ 15 ≤ ii) by omega) with h1 | ⟨h1, h2⟩
  all_goals
    first | have d1 : decide (ii < 1) = true := decide_eq_true h1 | (have d1 : decide (ii < 1) = false := decide_eq_false (by omega); have d2 : decide (15 ≤ ii) = true := decide_eq_true h2)
    clear h
    have U := Up.refl w
    go_enter Tryd.func9, Tryd.ntmps9
    go_wp2_with fail
    refine bodyPost_ret (v := .tuple #[fv ⟨0, 0, 0, 0, 0, 0, 0⟩, .int .i64 3]) (by simp [results, Tryd.results9, go_sem]) rfl ?_
    exact ⟨rfl, by (repeat (first | exact U | refine Up.setCell ?_ (by first | exact Nat.le_refl _ | omega) _ | refine Up.alloc ?_ _)); try exact U⟩
set_option maxHeartbeats 2000000 in
set_option maxRecDepth 100000 in
theorem bey_any (w : World) (f : M.Fm) (q : Int) (z : Bool) (hz : Hid (M.bey f q = z)) : Calls Tryd.prog 23 #[fv f, .int .u64 q] w (Bz z w) := by
  obtain ⟨k, W, m, b, t, n, x⟩ := f
  rcases (show (t < q ∧ q ≠ n) ∨ (t < q ∧ q = n) ∨ ¬ t < q by omega) with ⟨h1, h2⟩ | ⟨h1, h2⟩ | h1
  · have d1 : decide (t < q) = true := decide_eq_true h1
    have d2 : (q != n) = true := by simpa using h2
    obtain rfl : true = z := by rw [← hz.out]; simp [M.bey, h1, h2]
    clear hz
    have U := Up.refl w
    go_enter Tryd.func23, Tryd.ntmps23
    go_wp2_with fail
    go_ret
    exact ⟨rfl, (Up.refl _).alloc _⟩
  · have d1 : decide (t < q) = true := decide_eq_true h1
    have d2 : (q != n) = false := by simp [h2]
    obtain rfl : false = z := by rw [← hz.out]; simp [M.bey, h2]
    clear hz
    have U := Up.refl w
    go_enter Tryd.func23, Tryd.ntmps23
    go_wp2_with fail
    go_ret
    exact ⟨rfl, (Up.refl _).alloc _⟩
  · have d1 : decide (t < q) = false := decide_eq_false h1
    obtain rfl : false = z := by rw [← hz.out]; simp [M.bey, h1]
    clear hz
    have U := Up.refl w
    go_enter Tryd.func23, Tryd.ntmps23
    go_wp2_with fail
    go_ret
    exact ⟨rfl, (Up.refl _).alloc _⟩
end Go.Proofs.YtekmlhgnfjgebaaDoor
