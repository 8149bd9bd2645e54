import Derived.Test.YtcmlanfgafancaaGreatDoorQDPm
import Derived.Test.YtcmlanfgafancaaGreatDoorQDObm
import Derived.Laws.IdiomStrings
import Derived.OwnWalk
set_option maxHeartbeats 32000000
set_option linter.unusedVariables false
set_option linter.unusedSimpArgs false
namespace Go.Proofs.YtcmlanfgafancaaGreatDoor
open Go.RowKit
namespace M
end M
end Go.Proofs.YtcmlanfgafancaaGreatDoor
namespace Go.Proofs.YtcmlanfgafancaaGreatDoor
open Go.RowKit
namespace M
end M
abbrev fdv (R E : Int) (F : Nat) (B : Int) : Value := .agg #[.int .i64 R, .int .i64 E, u64 F, .int .i64 B]
end Go.Proofs.YtcmlanfgafancaaGreatDoor
namespace Go.Proofs.YtcmlanfgafancaaGreatDoor
open Go.RowKit
end Go.Proofs.YtcmlanfgafancaaGreatDoor
namespace Go.Proofs.YtcmlanfgafancaaGreatDoor
open Go.RowKit
end Go.Proofs.YtcmlanfgafancaaGreatDoor
namespace Go.Proofs.YtcmlanfgafancaaGreatDoor
open Go.RowKit
namespace M
end M
end Go.Proofs.YtcmlanfgafancaaGreatDoor
namespace Go.Proofs.YtcmlanfgafancaaGreatDoor
open Go.RowKit
namespace M
def IsK (n k m : Nat) (z : Int) : Prop := m % 2 = 1 ∧ ∃ (R : Int) (r q t : Nat), Ps n k R r q ∧ 2 ^ (r - 2) + fr r q = m * 2 ^ t ∧ 4 * R + ex r q - (r - 2 : Nat) + t = z
theorem IsK.rng {n k m : Nat} {z : Int} (hn : n ≤ 64) (h : IsK n k m z) : 0 < k ∧ k < 2 ^ n ∧ -1000 ≤ z ∧ z ≤ 1000 ∧ 0 < m ∧ m < 9223372036854775808 := by
  obtain ⟨ho, R, r, q, t, h1, h2, rfl⟩ := h
  have rg := h1.rng
  have h3 := ex_le h1.1
  have h4 := fr_lt r q
  have p62 : 2 ^ (r - 2) ≤ 2 ^ 62 := p2le (by omega)
  have c62 : (2 : Nat) ^ 62 = 4611686018427387904 := by decide
  have p1 : m ≤ m * 2 ^ t := Nat.le_mul_of_pos_right _ (p2 t)
  have p3 : 2 ^ t ≤ m * 2 ^ t := Nat.le_mul_of_pos_left _ (by omega)
  have t64 : t < 64 := p2inj (by have : (2 : Nat) ^ 64 = 18446744073709551616 := by decide
                                 omega)
  refine ⟨rg.1, rg.2.1, by omega, by omega, by omega, by omega⟩
theorem isk_ex {n k : Nat} (hn : 2 ≤ n) (h0 : 0 < k) (hk : k < 2 ^ n) : ∃ m z, IsK n k m z := by
 obtain ⟨R, r, q, h⟩ := ps_ex hn h0 hk
 obtain ⟨m, t, h1, h2⟩ := odd_ex (2 ^ (r - 2) + fr r q) (by have := p2 (r - 2); omega)
 exact ⟨m, _, h2, R, r, q, t, h, h1, rfl⟩
def vz (m : Nat) (z : Int) : Nat := m * 2 ^ (z + 1000).toNat
theorem IsK.vx {n k m : Nat} {z : Int} (hn : n ≤ 64) (h : IsK n k m z) : ∃ R r q, Ps n k R r q ∧ vx R r q = vz m z := by
 have g := h.rng hn
 obtain ⟨ho, R, r, q, t, h1, h2, h3⟩ := h
 refine ⟨R, r, q, h1, ?_⟩
 have rg := h1.rng
 have h4 := ex_le h1.1
 rw [vx_fields hn h1, h2, vz, Nat.mul_assoc, ← Nat.pow_add]
 congr 2
 omega
theorem isk_lt {n k k' m m' : Nat} {z z' : Int} (hn : n ≤ 64) (h : IsK n k m z) (h' : IsK n k' m' z') (hk : k < k') : vz m z < vz m' z' := by
 obtain ⟨R, r, q, a, b⟩ := h.vx hn
 obtain ⟨R', r', q', a', b'⟩ := h'.vx hn
 rw [← b, ← b']
 exact vx_lt hn a a' hk
theorem isk_uniq {n k m m' : Nat} {z z' : Int} (h : IsK n k m z) (h' : IsK n k m' z') : m = m' ∧ z = z' := by
 obtain ⟨ho, R, r, q, t, h1, h2, h3⟩ := h
 obtain ⟨ho', R', r', q', t', h1', h2', h3'⟩ := h'
 obtain ⟨rfl, rfl, rfl⟩ := ps_uniq h1 h1'
 obtain ⟨rfl, rfl⟩ := odd_uniq ho ho' (h2.symm.trans h2')
 exact ⟨rfl, by omega⟩
end M
end Go.Proofs.YtcmlanfgafancaaGreatDoor
namespace Go.Proofs.YtcmlanfgafancaaGreatDoor
open Go.RowKit
namespace M
end M
end Go.Proofs.YtcmlanfgafancaaGreatDoor
namespace Go.Proofs.YtcmlanfgafancaaGreatDoor
open Go.RowKit
end Go.Proofs.YtcmlanfgafancaaGreatDoor
namespace Go.Proofs.YtcmlanfgafancaaGreatDoor
open Go.RowKit
def Vn (m : Nat) (z x : Int) (w : World) (e : Ending) (w' : World) : Prop := e = .returned (.tuple #[u64 m, .int .i64 z, .int .i64 x]) ∧ Up w w'
def bad (wd : Int) (k : Nat) : Prop := wd < 3 ∨ 65 < wd ∨ k = 0 ∨ 2 ^ (wd - 1).toNat ≤ k
end Go.Proofs.YtcmlanfgafancaaGreatDoor
namespace Go.Proofs.YtcmlanfgafancaaGreatDoor
open Go.RowKit
namespace M
def mX (p k : Nat) : Nat := if k / 2 ^ p = 0 then k % 2 ^ p else k % 2 ^ p + 2 ^ p
def mS (p : Nat) (b : Int) (k : Nat) : Int := if k / 2 ^ p = 0 then 1 - b - p else (k / 2 ^ p : Nat) - b - p
def mv (p k : Nat) : Nat := mX p k * 2 ^ (max (k / 2 ^ p) 1 - 1)
theorem mS_eq (p : Nat) (b : Int) (k : Nat) : mS p b k = 1 - b - p + (max (k / 2 ^ p) 1 - 1 : Nat) := by
 unfold mS
 obtain ⟨f, hf⟩ : ∃ f, k / 2 ^ p = f := ⟨_, rfl⟩
 rw [hf]
 split <;> omega
theorem key_parts (p k : Nat) : k = k / 2 ^ p * 2 ^ p + k % 2 ^ p ∧ k % 2 ^ p < 2 ^ p := ⟨by rw [Nat.mul_comm]; exact (Nat.div_add_mod _ _).symm, Nat.mod_lt _ (p2 p)⟩
theorem mX_lt (p k : Nat) : mX p k < 2 * 2 ^ p := by
 have := (key_parts p k).2
 unfold mX
 split <;> omega
theorem of_parts {p f m : Nat} (h : m < 2 ^ p) : (f * 2 ^ p + m) / 2 ^ p = f ∧ (f * 2 ^ p + m) % 2 ^ p = m := by
 constructor
 ·rw [Nat.mul_comm, Nat.mul_add_div (p2 p), Nat.div_eq_of_lt h]; rfl
 ·rw [Nat.mul_comm, Nat.mul_add_mod, Nat.mod_eq_of_lt h]
theorem mv_succ (p k : Nat) : mv p (k + 1) = mv p k + 2 ^ (max (k / 2 ^ p) 1 - 1) := by
 obtain ⟨e, hm⟩ := key_parts p k
 obtain ⟨f, hf⟩ : ∃ f, k / 2 ^ p = f := ⟨_, rfl⟩
 obtain ⟨m, hmm⟩ : ∃ m, k % 2 ^ p = m := ⟨_, rfl⟩
 rw [hf, hmm] at e
 rw [hmm] at hm
 have pp := p2 p
 by_cases h : m + 1 < 2 ^ p
 ·obtain ⟨a, b⟩ := of_parts (f := f) h
  have e2 : k + 1 = f * 2 ^ p + (m + 1) := by omega
  unfold mv mX
  rw [e2, a, b, hf, hmm]
  split
  ·rw [Nat.add_mul, Nat.one_mul]
  ·rw [show m + 1 + 2 ^ p = (m + 2 ^ p) + 1 by omega, Nat.add_mul, Nat.one_mul]
 ·have e2 : k + 1 = (f + 1) * 2 ^ p + 0 := by rw [Nat.add_mul]; omega
  obtain ⟨a, b⟩ := of_parts (p := p) (f := f + 1) (m := 0) pp
  unfold mv mX
  rw [e2, a, b, hf, hmm, if_neg (by omega)]
  rw [show max (f + 1) 1 - 1 = f by omega]
  split
  ·rename_i h0
   subst h0
   simp
   omega
  ·rename_i h0
   obtain ⟨g, rfl⟩ : ∃ g, f = g + 1 := ⟨f - 1, by omega⟩
   rw [show max (g + 1) 1 - 1 = g by omega, p2s g, ← Nat.add_one_mul]
   rw [show m + 2 ^ p + 1 = 2 * 2 ^ p by omega, Nat.zero_add]
   ac_rfl
theorem mv_lt {p k k' : Nat} (h : k < k') : mv p k < mv p k' := by
 obtain ⟨d, rfl⟩ : ∃ d, k' = k + 1 + d := ⟨k' - k - 1, by omega⟩
 clear h
 induction d with
 | zero =>
  rw [Nat.add_zero, mv_succ]
  have := p2 (max (k / 2 ^ p) 1 - 1)
  omega
 | succ d ih =>
  rw [← Nat.add_assoc, mv_succ]
  have := p2 (max ((k + 1 + d) / 2 ^ p) 1 - 1)
  omega
theorem mv_inj {p k k' : Nat} (h : mv p k = mv p k') : k = k' := by
 rcases Nat.lt_trichotomy k k' with e | e | e
 ·have := mv_lt (p := p) e; omega
 ·exact e
 ·have := mv_lt (p := p) e; omega
theorem mv_zero (p : Nat) : mv p 0 = 0 := by simp [mv, mX]
def IsM (p : Nat) (b : Int) (k m : Nat) (z : Int) : Prop := (mX p k = 0 ∧ m = 0 ∧ z = 0) ∨ (m % 2 = 1 ∧ ∃ t : Nat, mX p k = m * 2 ^ t ∧ z = mS p b k + t)
theorem ism_ex (p : Nat) (b : Int) (k : Nat) : ∃ m z, IsM p b k m z := by
 rcases Nat.eq_zero_or_pos (mX p k) with h | h
 ·exact ⟨0, 0, .inl ⟨h, rfl, rfl⟩⟩
 ·obtain ⟨m, t, h1, h2⟩ := odd_ex _ h
  exact ⟨m, _, .inr ⟨h2, t, h1, rfl⟩⟩
theorem mX_zero {p k : Nat} : mX p k = 0 ↔ k = 0 := by
 constructor
 ·intro h
  have h1 : mv p k = 0 := by unfold mv; rw [h, Nat.zero_mul]
  exact mv_inj (h1.trans (mv_zero p).symm)
 ·rintro rfl
  simp [mX]
theorem IsM.zero {p k m : Nat} {b z : Int} (h : IsM p b k m z) : (m = 0 ↔ k = 0) ∧ (m ≠ 0 → m % 2 = 1) := by
 rcases h with ⟨h1, h2, h3⟩ | ⟨h1, t, h2, h3⟩
 ·exact ⟨⟨fun _ => mX_zero.1 h1, fun _ => h2⟩, fun h => absurd h2 h⟩
 ·refine ⟨⟨fun e => by omega, fun e => ?_⟩, fun _ => h1⟩
  subst e
  have : mX p 0 = 0 := mX_zero.2 rfl
  rw [this] at h2
  have := p2 t
  have := Nat.mul_pos (show 0 < m by omega) this
  omega
theorem IsM.longer {p k m : Nat} {b z : Int} (h : IsM p b k m z) : IsM (p + 1) b (2 * k) m z := by
 have hd : 2 * k / 2 ^ (p + 1) = k / 2 ^ p := by rw [p2s, Nat.mul_div_mul_left _ _ (by decide)]
 have hm : 2 * k % 2 ^ (p + 1) = 2 * (k % 2 ^ p) := by rw [p2s, Nat.mul_mod_mul_left]
 have hx : mX (p + 1) (2 * k) = 2 * mX p k := by
  unfold mX
  rw [hd, hm, p2s]
  split <;> omega
 have hs : mS (p + 1) b (2 * k) = mS p b k - 1 := by
  unfold mS
  rw [hd]
  split <;> omega
 rcases h with ⟨h1, h2, h3⟩ | ⟨h1, t, h2, h3⟩
 ·exact .inl ⟨by rw [hx, h1], h2, h3⟩
 ·exact .inr ⟨h1, t + 1, by rw [hx, h2, p2s]; ac_rfl, by rw [hs]; omega⟩
def mok (p : Nat) (b : Int) (k : Nat) : Prop := p ≤ 60 ∧ -2000 ≤ b ∧ b ≤ 2000 ∧ k / 2 ^ p ≤ 4095
theorem IsM.rng {p k m : Nat} {b z : Int} (h : IsM p b k m z) (ho : mok p b k) : m < 2305843009213693952 ∧ -2100 ≤ z ∧ z ≤ 6200 := by
  have hl := mX_lt p k
  have h60 : 2 ^ p ≤ 2 ^ 60 := p2le ho.1
  have c60 : (2 : Nat) ^ 60 = 1152921504606846976 := by decide
  have hs := mS_eq p b k
  obtain ⟨h1, h2, h3, h4⟩ := ho
  rcases h with ⟨_, rfl, rfl⟩ | ⟨g1, t, g2, g3⟩
  · exact ⟨by decide, by decide, by decide⟩
  · have p1 : m ≤ m * 2 ^ t := Nat.le_mul_of_pos_right _ (p2 t)
    have p3 : 2 ^ t ≤ m * 2 ^ t := Nat.le_mul_of_pos_left _ (by omega)
    have t62 : t < 62 := p2inj (by have : (2 : Nat) ^ 62 = 4611686018427387904 := by decide
                                   omega)
    refine ⟨by omega, by omega, by omega⟩
end M
end Go.Proofs.YtcmlanfgafancaaGreatDoor
namespace Go.Proofs.YtcmlanfgafancaaGreatDoor
open Go.RowKit
theorem shr_cast {k p f : Nat} (h : k / 2 ^ p = f) : (k : Int) / 2 ^ p = (f : Int) := by
 rw [← h]
 simp
def Mz (m : Nat) (z : Int) (w : World) (e : Ending) (w' : World) : Prop := e = .returned (.tuple #[u64 m, .int .i64 z]) ∧ Up w w'
end Go.Proofs.YtcmlanfgafancaaGreatDoor
