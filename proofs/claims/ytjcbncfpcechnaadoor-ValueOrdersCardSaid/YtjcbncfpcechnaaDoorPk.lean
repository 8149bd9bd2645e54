/-
  The reference of layer 5: Key.
-/
import Derived.Test.YtjcbncfpcechnaaDoorPv
namespace Go.Proofs.YtjcbncfpcechnaaDoor
open Go.RowKit

namespace M
theorem bits_up {a : Nat} (h : 0 < a) (i : Nat) : bits (a * 2 ^ i) = bits a + i := by
  induction i with
  | zero => simp
  | succ i ih =>
    have hp : 0 < a * 2 ^ i := Nat.mul_pos h (p2 i)
    have h1 := bits_half (a := a * 2 ^ (i + 1)) (by rw [p2s]; have := hp; rw [Nat.mul_left_comm]; omega)
    rw [show a * 2 ^ (i + 1) / 2 = a * 2 ^ i by rw [p2s, Nat.mul_left_comm]; omega, ih] at h1
    omega
/-- Which of two numbers is less, by their highest bits. -/
theorem top_lt {a b A B : Nat} (ha : 0 < a) (hb : 0 < b) (h : bits a + A < bits b + B) : a * 2 ^ A < b * 2 ^ B := by
  have h1 := bits_lt (a * 2 ^ A)
  have h2 := bits_le (a := b * 2 ^ B) (by have := Nat.mul_pos hb (p2 B); omega)
  rw [bits_up ha] at h1
  rw [bits_up hb] at h2
  have h3 : 2 ^ (bits a + A) ≤ 2 ^ (bits b + B - 1) := p2le (by omega)
  omega
theorem same_lt {a b A B i j : Nat} (h : i + B = j + A) : a * 2 ^ A < b * 2 ^ B ↔ a * 2 ^ i < b * 2 ^ j := by
  have e1 : a * 2 ^ A * 2 ^ (i + j) = a * 2 ^ i * 2 ^ (A + j) := by rw [Nat.mul_assoc, Nat.mul_assoc, ← Nat.pow_add, ← Nat.pow_add, show A + (i + j) = i + (A + j) by omega]
  have e2 : b * 2 ^ B * 2 ^ (i + j) = b * 2 ^ j * 2 ^ (A + j) := by rw [Nat.mul_assoc, Nat.mul_assoc, ← Nat.pow_add, ← Nat.pow_add, show B + (i + j) = j + (A + j) by omega]
  have p := p2 (i + j)
  have p' := p2 (A + j)
  rw [← Nat.mul_lt_mul_right p, e1, e2, Nat.mul_lt_mul_right p']
end M
theorem shl_up {a i : Nat} (ha : 0 < a) (h : M.bits a + i ≤ 64) : a * 2 ^ i < 18446744073709551616 := by
  have h1 := M.bits_lt (a * 2 ^ i)
  rw [M.bits_up ha] at h1
  have h2 : 2 ^ (M.bits a + i) ≤ 2 ^ 64 := M.p2le h
  have h3 : (2 : Nat) ^ 64 = 18446744073709551616 := by decide
  omega
theorem shl_top {a i : Nat} (ha : 0 < a) : (a * 2 ^ i < 9223372036854775808) ↔ M.bits a + i < 64 := by
  have h1 := M.bits_lt (a * 2 ^ i)
  have h2 := M.bits_le (a := a * 2 ^ i) (by have := Nat.mul_pos ha (M.p2 i); omega)
  rw [M.bits_up ha] at h1 h2
  have h3 : (2 : Nat) ^ 63 = 9223372036854775808 := by decide
  constructor
  · intro h
    have : M.bits a + i - 1 < 63 := M.p2inj (by omega)
    omega
  · intro h
    have : 2 ^ (M.bits a + i) ≤ 2 ^ 63 := M.p2le (by omega)
    omega

end Go.Proofs.YtjcbncfpcechnaaDoor
namespace Go.Proofs.YtjcbncfpcechnaaDoor
open Go.RowKit

namespace M
/-- The magnitude k of n bits is m times 2 to the power of z, m being odd. -/
def IsK (n k m : Nat) (z : Int) : Prop := m % 2 = 1 ∧ ∃ (R : Int) (r q t : Nat), Ps n k R r q ∧ 2 ^ (r - 2) + fr r q = m * 2 ^ t ∧ 4 * R + ex r q - (r - 2 : Nat) + t = z
theorem IsK.rng {n k m : Nat} {z : Int} (hn : n ≤ 64) (h : IsK n k m z) : 0 < k ∧ k < 2 ^ n ∧ -1000 ≤ z ∧ z ≤ 1000 ∧ 0 < m ∧ m < 9223372036854775808 := by
  obtain ⟨ho, R, r, q, t, h1, h2, rfl⟩ := h
  have rg := h1.rng
  have h3 := ex_le h1.1
  have h4 := fr_lt r q
  have p62 : 2 ^ (r - 2) ≤ 2 ^ 62 := p2le (by omega)
  have c62 : (2 : Nat) ^ 62 = 4611686018427387904 := by decide
  have p1 : m ≤ m * 2 ^ t := Nat.le_mul_of_pos_right _ (p2 t)
  have p3 : 2 ^ t ≤ m * 2 ^ t := Nat.le_mul_of_pos_left _ (by omega)
  have t64 : t < 64 := p2inj (by have : (2 : Nat) ^ 64 = 18446744073709551616 := by decide
                                 omega)
  refine ⟨rg.1, rg.2.1, by omega, by omega, by omega, by omega⟩
theorem isk_ex {n k : Nat} (hn : 2 ≤ n) (h0 : 0 < k) (hk : k < 2 ^ n) : ∃ m z, IsK n k m z := by
  obtain ⟨R, r, q, h⟩ := ps_ex hn h0 hk
  obtain ⟨m, t, h1, h2⟩ := odd_ex (2 ^ (r - 2) + fr r q) (by have := p2 (r - 2); omega)
  exact ⟨m, _, h2, R, r, q, t, h, h1, rfl⟩
/-- The number of it, times 2^1000. -/
def vz (m : Nat) (z : Int) : Nat := m * 2 ^ (z + 1000).toNat
theorem IsK.vx {n k m : Nat} {z : Int} (hn : n ≤ 64) (h : IsK n k m z) : ∃ R r q, Ps n k R r q ∧ vx R r q = vz m z := by
  have g := h.rng hn
  obtain ⟨ho, R, r, q, t, h1, h2, h3⟩ := h
  refine ⟨R, r, q, h1, ?_⟩
  have rg := h1.rng
  have h4 := ex_le h1.1
  rw [vx_fields hn h1, h2, vz, Nat.mul_assoc, ← Nat.pow_add]
  congr 2
  omega
theorem isk_lt {n k k' m m' : Nat} {z z' : Int} (hn : n ≤ 64) (h : IsK n k m z) (h' : IsK n k' m' z') (hk : k < k') : vz m z < vz m' z' := by
  obtain ⟨R, r, q, a, b⟩ := h.vx hn
  obtain ⟨R', r', q', a', b'⟩ := h'.vx hn
  rw [← b, ← b']
  exact vx_lt hn a a' hk
theorem isk_inj {n k k' m : Nat} {z : Int} (hn : n ≤ 64) (h : IsK n k m z) (h' : IsK n k' m z) : k = k' := by
  rcases Nat.lt_trichotomy k k' with hk | hk | hk
  · have := isk_lt hn h h' hk; omega
  · exact hk
  · have := isk_lt hn h' h hk; omega
theorem isk_uniq {n k m m' : Nat} {z z' : Int} (h : IsK n k m z) (h' : IsK n k m' z') : m = m' ∧ z = z' := by
  obtain ⟨ho, R, r, q, t, h1, h2, h3⟩ := h
  obtain ⟨ho', R', r', q', t', h1', h2', h3'⟩ := h'
  obtain ⟨rfl, rfl, rfl⟩ := ps_uniq h1 h1'
  obtain ⟨rfl, rfl⟩ := odd_uniq ho ho' (h2.symm.trans h2')
  exact ⟨rfl, by omega⟩
end M
theorem rvalue_k (w : World) (n k m : Nat) (z : Int) (hn : n ≤ 64) (h : M.IsK n k m z) : Calls Tryd.prog 41 #[.int .i64 ((n : Int) + 1), u64 k] w (V3 m z true w) := by
  obtain ⟨ho, R, r, q, t, h1, h2, h3⟩ := h
  exact rvalue_in w n k r q R hn h1 _ m t (Lib.hid rfl) (Lib.hid h2) ho z (Lib.hid h3)
/-- What Key comes to. -/
def Ky (n m : Nat) (z : Int) (w : World) (e : Ending) (w' : World) : Prop :=
  ∃ (k : Nat) (t : Bool), e = .returned (.tuple #[u64 k, .bool t]) ∧ Up w w' ∧ (t = true → M.IsK n k m z) ∧ ∀ k', M.IsK n k' m z → t = true ∧ k = k'
/-- A round of the search. -/
structure Kr (n m : Nat) (z : Int) (key i : Nat) : Prop where
  fit : key + 2 ^ i ≤ 2 ^ n
  all : ∀ k, M.IsK n k m z → key ≤ k ∧ k < key + 2 ^ i
theorem Kr.start {n m : Nat} {z : Int} (hn : n ≤ 64) : Kr n m z 0 n := ⟨by omega, fun k h => ⟨Nat.zero_le _, by have := h.rng hn; omega⟩⟩
theorem Kr.stay {n m key i m' : Nat} {z z' : Int} (hn : n ≤ 64) (h : Kr n m z key (i + 1)) (h' : M.IsK n (key + 2 ^ i) m' z') (hv : M.vz m z < M.vz m' z') : Kr n m z key i := by
  have p := M.p2s i
  have f := h.fit
  refine ⟨by omega, fun k hk => ⟨(h.all k hk).1, ?_⟩⟩
  rcases Nat.lt_trichotomy k (key + 2 ^ i) with e | e | e
  · exact e
  · subst e
    obtain ⟨rfl, rfl⟩ := M.isk_uniq hk h'
    omega
  · have := M.isk_lt hn h' hk e
    omega
theorem Kr.go {n m key i m' : Nat} {z z' : Int} (hn : n ≤ 64) (h : Kr n m z key (i + 1)) (h' : M.IsK n (key + 2 ^ i) m' z') (hv : ¬ M.vz m z < M.vz m' z') : Kr n m z (key + 2 ^ i) i := by
  have p := M.p2s i
  have f := h.fit
  refine ⟨by omega, fun k hk => ⟨?_, by have := (h.all k hk).2; omega⟩⟩
  rcases Nat.lt_or_ge k (key + 2 ^ i) with e | e
  · have := M.isk_lt hn hk h' e
    omega
  · exact e

end Go.Proofs.YtjcbncfpcechnaaDoor
