/-
  Layer 7 in bits: a form's sign and mask beside a pattern; what reading a pattern comes to.
-/
import Derived.Test.YtjcbncfpcechnaaDoorVn
import Derived.Laws.Bits64
import Derived.Laws.Bits64b
import Derived.Laws.BitsAllLaws
namespace Go.Proofs.YtjcbncfpcechnaaDoor
open Go.RowKit

namespace M
theorem bit_top {n p : Nat} (hp : p < 2 ^ (n + 1)) : p.testBit n = decide (2 ^ n ≤ p) := by
  have h := p2 n
  rw [Nat.testBit_eq_decide_div_mod_eq]
  rw [p2s] at hp
  by_cases c : 2 ^ n ≤ p
  · have : p / 2 ^ n = 1 := Nat.div_eq_of_lt_le (by omega) (by omega)
    simp [this, c]
  · have : p / 2 ^ n = 0 := Nat.div_eq_of_lt (by omega)
    simp [this, c]
theorem and_top {n p : Nat} (hp : p < 2 ^ (n + 1)) : p &&& 2 ^ n = if 2 ^ n ≤ p then 2 ^ n else 0 := by
  apply Nat.eq_of_testBit_eq
  intro j
  rw [Nat.testBit_and, Nat.testBit_two_pow]
  by_cases h : n = j
  · subst h
    rw [bit_top hp]
    by_cases c : 2 ^ n ≤ p <;> simp [c, Nat.testBit_two_pow_self]
  · by_cases c : 2 ^ n ≤ p <;> simp [c, h]
theorem or_top {n p : Nat} (hp : p < 2 ^ n) : 2 ^ n ||| p = 2 ^ n + p := by
  have := Nat.two_pow_add_eq_or_of_lt hp 1
  rw [Nat.mul_one] at this
  exact this.symm
theorem xor_low {n p : Nat} (hp : p < 2 ^ n) : p ^^^ 2 ^ n = p + 2 ^ n := by
  rw [Nat.add_comm, ← or_top hp]
  apply Nat.eq_of_testBit_eq
  intro j
  rw [Nat.testBit_xor, Nat.testBit_or, Nat.testBit_two_pow]
  by_cases h : n = j
  · subst h
    rw [Nat.testBit_lt_two_pow hp]
    simp
  · simp [h]
theorem xor_high {n p : Nat} (hp : p < 2 ^ (n + 1)) (h : 2 ^ n ≤ p) : p ^^^ 2 ^ n = p - 2 ^ n := by
  obtain ⟨r, rfl⟩ : ∃ r, p = r + 2 ^ n := ⟨p - 2 ^ n, by omega⟩
  have hr : r < 2 ^ n := by rw [p2s] at hp; omega
  rw [← xor_low hr, Nat.xor_assoc, Nat.xor_self, Nat.xor_zero, xor_low hr]
  omega
theorem neg_low {n p : Nat} (hn : n ≤ 64) (h0 : 0 < p) (hp : p ≤ 2 ^ n) : (18446744073709551616 - p) % 2 ^ n = (2 ^ n - p) := by
  have e : 2 ^ (64 - n) * 2 ^ n = 18446744073709551616 := by rw [← Nat.pow_add, show 64 - n + n = 64 by omega]
  have h := p2 (64 - n)
  obtain ⟨q, hq⟩ : ∃ q, 2 ^ (64 - n) = q + 1 := ⟨2 ^ (64 - n) - 1, by omega⟩
  rw [hq, Nat.add_mul, Nat.one_mul] at e
  rw [← e, show q * 2 ^ n + 2 ^ n - p = (2 ^ n - p) + 2 ^ n * q by rw [Nat.mul_comm]; omega, Nat.add_mul_mod_self_left, Nat.mod_eq_of_lt (by omega)]
/-- A form's width, its half, its mask, in powers of two. -/
theorem ok_pow {f : Fm} (h : Ok f) : ∃ n : Nat, n ≤ 63 ∧ f.W = (n : Int) + 1 ∧ half f = ((2 ^ n : Nat) : Int) ∧ msk f = ((2 ^ (n + 1) : Nat) : Int) - 1 := by
  obtain ⟨n, hn, h63⟩ : ∃ n : Nat, f.W = (n : Int) + 1 ∧ n ≤ 63 := by
    rcases h.W with e | e | e | e | e | e
    · exact ⟨3, by omega, by omega⟩
    · exact ⟨5, by omega, by omega⟩
    · exact ⟨7, by omega, by omega⟩
    · exact ⟨15, by omega, by omega⟩
    · exact ⟨31, by omega, by omega⟩
    · exact ⟨63, by omega, by omega⟩
  have hh := half_nat hn
  refine ⟨n, h63, hn, hh, ?_⟩
  have := h.hm.2.1
  rw [this, hh, p2s]
  push_cast
  rfl
theorem pow_le64 {n : Nat} (h : n ≤ 63) : 2 ^ n ≤ 9223372036854775808 ∧ 2 ^ (n + 1) ≤ 18446744073709551616 := by
  have h1 := p2le h
  have h2 : (2 : Nat) ^ 63 = 9223372036854775808 := by decide
  have h3 := p2s n
  omega
theorem and_half {f : Fm} (h : Ok f) {p : Int} (p1 : 0 ≤ p) (p2' : p ≤ msk f) : (Go.bits BinOp.and IntKind.u64 p (half f) != 0) = decide (half f ≤ p) := by
  obtain ⟨n, hn, _, hh, hm⟩ := ok_pow h
  obtain ⟨q, rfl⟩ := Int.eq_ofNat_of_zero_le p1
  obtain ⟨a, b⟩ := pow_le64 hn
  have pp := p2 n
  rw [hh, bits_and_u64_nat q (2 ^ n) (by omega) (by omega), and_top (by omega)]
  by_cases c : 2 ^ n ≤ q
  · rw [if_pos c, decide_eq_true (by omega)]
    rw [bne_iff_ne]
    omega
  · rw [if_neg c, decide_eq_false (by omega)]
    rfl
theorem andNot_half {f : Fm} (h : Ok f) {p : Int} (p1 : 0 ≤ p) (p2' : p ≤ msk f) : Go.bits BinOp.andNot IntKind.u64 p (half f) = if half f ≤ p then p - half f else p := by
  obtain ⟨n, hn, _, hh, hm⟩ := ok_pow h
  obtain ⟨q, rfl⟩ := Int.eq_ofNat_of_zero_le p1
  obtain ⟨a, b⟩ := pow_le64 hn
  have pp := p2 n
  have ps := p2s n
  rw [hh, u64_andNot_nat q (2 ^ n) (by omega) (by omega), and_not_bit n q (by omega) (by omega)]
  by_cases c : 2 ^ n ≤ q
  · rw [if_pos (by omega), show q = (q - 2 ^ n) + 2 ^ n by omega, Nat.add_mod_right, Nat.mod_eq_of_lt (by omega)]
    omega
  · rw [if_neg (by omega), Nat.mod_eq_of_lt (by omega)]
theorem or_half {f : Fm} (h : Ok f) {p : Int} (p1 : 0 ≤ p) (p2' : p < half f) : Go.bits BinOp.or IntKind.u64 (half f) p = half f + p := by
  obtain ⟨n, hn, _, hh, hm⟩ := ok_pow h
  obtain ⟨q, rfl⟩ := Int.eq_ofNat_of_zero_le p1
  obtain ⟨a, b⟩ := pow_le64 hn
  rw [hh] at p2' ⊢
  rw [bits_or_u64_nat (2 ^ n) q (by omega) (by omega), or_top (by omega)]
  push_cast
  rfl
theorem xor_half {f : Fm} (h : Ok f) {p : Int} (p1 : 0 ≤ p) (p2' : p ≤ msk f) : Go.bits BinOp.xor IntKind.u64 p (half f) = if half f ≤ p then p - half f else p + half f := by
  obtain ⟨n, hn, _, hh, hm⟩ := ok_pow h
  obtain ⟨q, rfl⟩ := Int.eq_ofNat_of_zero_le p1
  obtain ⟨a, b⟩ := pow_le64 hn
  rw [hh, bits_xor_u64_nat q (2 ^ n) (by omega) (by omega)]
  by_cases c : 2 ^ n ≤ q
  · rw [if_pos (by omega), xor_high (by omega) c]
    omega
  · rw [if_neg (by omega), xor_low (by omega)]
    push_cast
    rfl
/-- A pattern turned. -/
def trn (f : Fm) (p : Int) : Int := if p = 0 then 0 else msk f + 1 - p
theorem and_neg_mask {f : Fm} (h : Ok f) {p : Int} (p1 : 0 ≤ p) (p2' : p ≤ msk f) : Go.bits BinOp.and IntKind.u64 (IntKind.u64.wrap (-p)) (msk f) = trn f p := by
  obtain ⟨n, hn, _, hh, hm⟩ := ok_pow h
  obtain ⟨q, rfl⟩ := Int.eq_ofNat_of_zero_le p1
  obtain ⟨a, b⟩ := pow_le64 hn
  have pp := p2 (n + 1)
  unfold trn
  rw [hm] at p2' ⊢
  have e : (((2 ^ (n + 1) : Nat) : Int) - 1) = ((2 ^ (n + 1) - 1 : Nat) : Int) := by omega
  by_cases c : q = 0
  · subst c
    rw [if_pos (by simp), show IntKind.u64.wrap (-((0 : Nat) : Int)) = ((0 : Nat) : Int) by rw [IntKind.wrap_u64]; decide, e, bits_and_u64_nat 0 _ (by decide) (by omega)]
    simp
  · rw [if_neg (by omega), show IntKind.u64.wrap (-(q : Int)) = ((18446744073709551616 - q : Nat) : Int) by rw [IntKind.wrap_u64]; omega, e, bits_and_u64_nat _ _ (by omega) (by omega), Nat.and_two_pow_sub_one_eq_mod, neg_low (by omega) (by omega) (by omega)]
    omega
/-- What a pattern reads as: what it is, its sign, its key. -/
def Rd (f : Fm) (p c : Int) (g : Bool) (k : Int) : Prop :=
  (cls f p = 1 ∧ c = 1 ∧ g = (ngs f p && decide (f.k = 2)) ∧ k = 0) ∨ (cls f p = 2 ∧ c = 2 ∧ g = ngs f p ∧ k = kyf f p) ∨ (cls f p = 3 ∧ c = 3 ∧ g = ngs f p ∧ k = 0) ∨ (cls f p = 4 ∧ c = 4 ∧ g = false ∧ k = 0)
theorem rd_ex (f : Fm) (p : Int) : ∃ c g k, Rd f p c g k := by
  rcases cls_four f p with e | e | e | e
  · exact ⟨1, _, 0, .inl ⟨e, rfl, rfl, rfl⟩⟩
  · exact ⟨2, _, _, .inr (.inl ⟨e, rfl, rfl, rfl⟩)⟩
  · exact ⟨3, _, 0, .inr (.inr (.inl ⟨e, rfl, rfl, rfl⟩))⟩
  · exact ⟨4, _, 0, .inr (.inr (.inr ⟨e, rfl, rfl, rfl⟩))⟩
theorem rd_uniq {f : Fm} {p c c' k k' : Int} {g g' : Bool} (h : Rd f p c g k) (h' : Rd f p c' g' k') : c = c' ∧ g = g' ∧ k = k' := by
  rcases h with ⟨a, rfl, rfl, rfl⟩ | ⟨a, rfl, rfl, rfl⟩ | ⟨a, rfl, rfl, rfl⟩ | ⟨a, rfl, rfl, rfl⟩ <;>
  rcases h' with ⟨b, rfl, rfl, rfl⟩ | ⟨b, rfl, rfl, rfl⟩ | ⟨b, rfl, rfl, rfl⟩ | ⟨b, rfl, rfl, rfl⟩ <;> first | exact ⟨rfl, rfl, rfl⟩ | (exfalso; omega)
/-- Reading a pattern of two's complement, or a posit. -/
theorem rd_turned {f : Fm} (h : Ok f) (h2 : Ok2 f) (hk : f.k = 1 ∨ f.k = 3) {p : Int} (p1 : 0 ≤ p) (p2' : p ≤ msk f) :
    (p = 0 ∧ Rd f p 1 false 0) ∨ (p ≠ 0 ∧ p = f.x ∧ Rd f p 4 false 0) ∨ (p ≠ 0 ∧ p ≠ f.x ∧ half f ≤ p ∧ Rd f p 2 true (trn f p)) ∨ (p ≠ 0 ∧ p ≠ f.x ∧ p < half f ∧ Rd f p 2 false p) := by
  have hm := h.hm
  have o1 := h2.one
  have o3 := h2.tri
  have hs : sgn f = half f := ((sgn_ok h).2 (by omega)).1
  have hn : ngs f p = decide (half f ≤ p) := by
    unfold ngs
    rw [hs, decide_eq_false (show ¬ half f = 0 by omega)]
    rfl
  have hkk : kyf f p = if half f ≤ p then msk f - p + 1 else p := by
    unfold kyf
    rw [hn, if_neg (show ¬ f.k = 2 by omega)]
    by_cases c : half f ≤ p <;> simp [c]
  have hc : cls f p = if f.x ≠ 0 ∧ p = f.x then 4 else if kyf f p = 0 ∧ f.k ≠ 4 then 1 else 2 := by
    unfold cls
    rw [if_neg (show ¬ (f.k = 2 ∧ f.t < kyf f p) by omega)]
    congr 1
    exact propext ⟨fun e => e.2, fun e => ⟨by omega, e⟩⟩
  by_cases c0 : p = 0
  · refine .inl ⟨c0, .inl ⟨?_, rfl, ?_, rfl⟩⟩
    · have h0 : kyf f p = 0 := by rw [hkk, if_neg (by omega)]; exact c0
      rw [hc, if_neg (by omega), if_pos ⟨h0, by omega⟩]
    · rw [hn, decide_eq_false (by omega)]; rfl
  · by_cases cx : p = f.x
    · refine .inr (.inl ⟨c0, cx, .inr (.inr (.inr ⟨?_, rfl, rfl, rfl⟩))⟩)
      rw [hc, if_pos (by omega)]
    · by_cases ch : half f ≤ p
      · refine .inr (.inr (.inl ⟨c0, cx, ch, .inr (.inl ⟨?_, rfl, ?_, ?_⟩)⟩))
        · rw [hc, if_neg (by omega), hkk, if_pos ch, if_neg (by omega)]
        · rw [hn, decide_eq_true ch]
        · rw [hkk, if_pos ch, trn, if_neg c0]; omega
      · refine .inr (.inr (.inr ⟨c0, cx, by omega, .inr (.inl ⟨?_, rfl, ?_, ?_⟩)⟩))
        · rw [hc, if_neg (by omega), hkk, if_neg ch, if_neg (by omega)]
        · rw [hn, decide_eq_false ch]
        · rw [hkk, if_neg ch]
/-- Reading a pattern with a sign. -/
theorem rd_signed {f : Fm} (h : Ok f) (hk : f.k = 2) {p m : Int} {g : Bool} (p1 : 0 ≤ p) (hg : decide (half f ≤ p) = g) (hq : (if half f ≤ p then p - half f else p) = m) :
    0 ≤ m ∧ ((m = 0 ∧ Rd f p 1 g 0) ∨ (m ≠ 0 ∧ m ≤ f.t ∧ Rd f p 2 g m) ∨ (m ≠ 0 ∧ f.t < m ∧ m = f.n ∧ Rd f p 3 g 0) ∨ (m ≠ 0 ∧ f.t < m ∧ m ≠ f.n ∧ Rd f p 4 false 0)) := by
  have hm := h.hm
  have ht := h.t
  have hs : sgn f = half f := ((sgn_ok h).2 (by omega)).1
  have hn : ngs f p = g := by
    unfold ngs
    rw [hs, decide_eq_false (show ¬ half f = 0 by omega), ← hg]
    rfl
  have hkk : kyf f p = m := by
    unfold kyf
    rw [hn, ← hg, if_pos hk, hs, ← hq]
    by_cases c : half f ≤ p <;> simp [c]
  have m0 : 0 ≤ m := by
    rw [← hq]
    split <;> omega
  refine ⟨m0, ?_⟩
  have hc : cls f p = if f.t < m then (if m = f.n then 3 else 4) else if m = 0 then 1 else 2 := by
    unfold cls
    rw [hkk]
    by_cases c : f.t < m
    · rw [if_pos ⟨hk, c⟩, if_pos c]
    · rw [if_neg (by omega), if_neg c, if_neg (by omega)]
      by_cases c0 : m = 0
      · rw [if_pos ⟨c0, by omega⟩, if_pos c0]
      · rw [if_neg (by omega), if_neg c0]
  by_cases c0 : m = 0
  · exact .inl ⟨c0, .inl ⟨by rw [hc, if_neg (by omega), if_pos c0], rfl, by rw [hn, decide_eq_true hk, Bool.and_true], rfl⟩⟩
  · by_cases ct : m ≤ f.t
    · exact .inr (.inl ⟨c0, ct, .inr (.inl ⟨by rw [hc, if_neg (by omega), if_neg c0], rfl, hn.symm, hkk.symm⟩)⟩)
    · by_cases cn : m = f.n
      · exact .inr (.inr (.inl ⟨c0, by omega, cn, .inr (.inr (.inl ⟨by rw [hc, if_pos (by omega), if_pos cn], rfl, hn.symm, rfl⟩))⟩))
      · exact .inr (.inr (.inr ⟨c0, by omega, cn, .inr (.inr (.inr ⟨by rw [hc, if_pos (by omega), if_neg cn], rfl, rfl, rfl⟩))⟩))
/-- Reading a scale. -/
theorem rd_scale {f : Fm} (h : Ok f) (h2 : Ok2 f) (hk : f.k = 4) {p : Int} : (p = f.x ∧ Rd f p 4 false 0) ∨ (p ≠ f.x ∧ Rd f p 2 false p) := by
  have o4 := h2.four hk
  have hs : sgn f = 0 := (sgn_ok h).1 hk
  have hn : ngs f p = false := by
    unfold ngs
    rw [hs]
    rfl
  have hkk : kyf f p = p := by
    unfold kyf
    rw [hn, if_neg (by decide)]
  by_cases c : p = f.x
  · refine .inl ⟨c, .inr (.inr (.inr ⟨?_, rfl, rfl, rfl⟩))⟩
    unfold cls
    rw [if_neg (by omega), if_pos (by omega)]
  · refine .inr ⟨c, .inr (.inl ⟨?_, rfl, hn.symm, hkk.symm⟩)⟩
    unfold cls
    rw [if_neg (by omega), if_neg (by omega), if_neg (by omega)]
end M
/-- What Decode, Key, At and Between come to. -/
def Vd (c : Int) (g : Bool) (m : Nat) (z x : Int) (w : World) (e : Ending) (w' : World) : Prop := e = .returned (.tuple #[.agg #[.int .i64 c, .bool g, u64 m, .int .i64 z], .int .i64 x]) ∧ Up w w'
def Bkx (g : Bool) (k : Nat) (x : Int) (w : World) (e : Ending) (w' : World) : Prop := e = .returned (.tuple #[.bool g, u64 k, .int .i64 x]) ∧ Up w w'
def Mzx (m : Nat) (z x : Int) (w : World) (e : Ending) (w' : World) : Prop := e = .returned (.tuple #[u64 m, .int .i64 z, .int .i64 x]) ∧ Up w w'
end Go.Proofs.YtjcbncfpcechnaaDoor
