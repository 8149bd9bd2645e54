/-
  Posits: texts of bits, fields, magnitudes and their keys, in numbers; the reference's.
-/
import Derived.Test.YtadgoeplhichmaaDoorPm
import Derived.Test.YtadgoeplhichmaaDoorMem
import Derived.Test.YtadgoeplhichmaaDoorObm
import Derived.Laws.IdiomStrings
import Derived.OwnWalk
/-
  The reference of layer 5: bits as a text.
-/
namespace Go.Proofs.YtadgoeplhichmaaDoor
open Go.RowKit

namespace M
/-- The number of these bits, the highest first. -/
def vl (l : List Nat) : Nat := l.foldl (fun a b => 2 * a + b) 0
theorem vl_snoc (l : List Nat) (b : Nat) : vl (l ++ [b]) = 2 * vl l + b := by simp [vl, List.foldl_append]
theorem snoc_ind {α : Type} {p : List α → Prop} (h0 : p []) (h1 : ∀ l a, p l → p (l ++ [a])) (l : List α) : p l := by
  have h : ∀ m : List α, p m.reverse := by
    intro m
    induction m with
    | nil => exact h0
    | cons a m ih => rw [List.reverse_cons]; exact h1 _ _ ih
  have := h l.reverse
  rwa [List.reverse_reverse] at this
theorem vl_app (l m : List Nat) : vl (l ++ m) = vl l * 2 ^ m.length + vl m := by
  refine snoc_ind (p := fun m => vl (l ++ m) = vl l * 2 ^ m.length + vl m) (by simp [vl]) ?_ m
  · intro m b ih
    rw [← List.append_assoc, vl_snoc, vl_snoc, ih, List.length_append, List.length_singleton, p2s, Nat.mul_add]
    rw [Nat.mul_left_comm]
    omega
theorem vl_lt {l : List Nat} (h : ∀ b ∈ l, b < 2) : vl l < 2 ^ l.length := by
  revert h
  refine snoc_ind (p := fun l => (∀ b ∈ l, b < 2) → vl l < 2 ^ l.length) (fun _ => by simp [vl]) ?_ l
  · intro m b ih h
    have h1 := ih (fun x hx => h x (by simp [hx]))
    have h2 := h b (by simp)
    rw [vl_snoc, List.length_append, List.length_singleton, p2s]
    omega
/-- The n bits of k. -/
def bl : Nat → Nat → List Nat
  | 0, _ => []
  | n + 1, k => bl n (k / 2) ++ [k % 2]
theorem bl_len : ∀ n k, (bl n k).length = n
  | 0, _ => rfl
  | n + 1, k => by rw [bl, List.length_append, bl_len n]; rfl
theorem bl_two : ∀ n k, ∀ b ∈ bl n k, b < 2
  | 0, _ => by simp [bl]
  | n + 1, k => by
    intro b hb
    rw [bl, List.mem_append] at hb
    rcases hb with hb | hb
    · exact bl_two n _ b hb
    · simp at hb; omega
theorem vl_bl : ∀ n k, vl (bl n k) = k % 2 ^ n
  | 0, k => by simp [bl, vl, Nat.mod_one]
  | n + 1, k => by
    rw [bl, vl_snoc, vl_bl n, p2s, Nat.mod_mul]
    omega
theorem bl_app : ∀ m n k, bl (n + m) k = bl n (k / 2 ^ m) ++ bl m k
  | 0, n, k => by simp [bl]
  | m + 1, n, k => by
    rw [show n + (m + 1) = (n + m) + 1 by omega, bl, bl_app m n, bl, List.append_assoc, Nat.div_div_eq_div_mul, p2s]
theorem bl_vl {l : List Nat} (h : ∀ b ∈ l, b < 2) : bl l.length (vl l) = l := by
  revert h
  refine snoc_ind (p := fun l => (∀ b ∈ l, b < 2) → bl l.length (vl l) = l) (fun _ => rfl) ?_ l
  · intro m b ih h
    have h1 := ih (fun x hx => h x (by simp [hx]))
    have h2 := h b (by simp)
    rw [List.length_append, List.length_singleton, bl, vl_snoc, show (2 * vl m + b) / 2 = vl m by omega, show (2 * vl m + b) % 2 = b by omega, h1]
end M

/-- The text s is of these bits. -/
structure St (s : ByteArray) (l : List Nat) : Prop where
  size : s.size = l.length
  at_ : ∀ (i : Nat) (h : i < s.size), (s[i]).toNat = 48 + l.getD i 0
  two : ∀ b ∈ l, b < 2
theorem St.bit {s : ByteArray} {l : List Nat} (h : St s l) (i : Nat) : l.getD i 0 < 2 := by
  rw [List.getD_eq_getElem?_getD]
  rcases Nat.lt_or_ge i l.length with hi | hi
  · rw [List.getElem?_eq_getElem hi]
    exact h.two _ (List.getElem_mem hi)
  · rw [List.getElem?_eq_none hi]
    decide

theorem cell_lit1 (w : World) (v : Value) (t : TypeId) : (w.alloc (.cells #[v] t)).cell? ((⟨w.heap.size, 0, none⟩ : Addr).add 0) = some v := by
  show (match (w.heap.push (.cells #[v] t))[w.heap.size]? with | some (.cells c _ _) => c[0 + 0]? | _ => none) = _
  simp
/-- A digit's text. -/
def dg (b : Nat) : ByteArray := ⟨#[UInt8.ofNat (48 + b)]⟩
theorem St.dg {b : Nat} (h : b < 2) : St (dg b) [b] := by
  refine ⟨rfl, fun i hi => ?_, fun x hx => by simp at hx; omega⟩
  have h1 : (Go.Proofs.YtadgoeplhichmaaDoor.dg b).size = 1 := rfl
  obtain rfl : i = 0 := by omega
  show (UInt8.ofNat (48 + b)).toNat = 48 + b
  rw [show (UInt8.ofNat (48 + b)).toNat = (48 + b) % 256 from rfl]; omega
theorem St.nil : St ⟨#[]⟩ [] := ⟨rfl, fun i h => absurd h (Nat.not_lt_zero i), fun x hx => by cases hx⟩
theorem St.app {s t : ByteArray} {l m : List Nat} (h : St s l) (k : St t m) : St (s ++ t) (l ++ m) := by
  have h1 := h.size
  have h2 := k.size
  have hsz : (s ++ t).size = s.size + t.size := ByteArray.size_append
  refine ⟨by rw [hsz, List.length_append, h1, h2], fun i hi => ?_, fun x hx => ?_⟩
  · rcases Nat.lt_or_ge i s.size with hl | hl
    · rw [ByteArray.getElem_append_left hl, h.at_ i hl, List.getD_eq_getElem?_getD, List.getD_eq_getElem?_getD, List.getElem?_append_left (by omega)]
    · rw [ByteArray.getElem_append_right hl, k.at_ (i - s.size) (by omega), List.getD_eq_getElem?_getD, List.getD_eq_getElem?_getD, List.getElem?_append_right (by omega), h1]
  · rw [List.mem_append] at hx
    rcases hx with hx | hx
    · exact h.two x hx
    · exact k.two x hx

end Go.Proofs.YtadgoeplhichmaaDoor
/-
  The reference of layer 5: Split.
-/
namespace Go.Proofs.YtadgoeplhichmaaDoor
open Go.RowKit

namespace M
theorem vl_rep0 : ∀ n, vl (List.replicate n 0) = 0
  | 0 => rfl
  | n + 1 => by rw [List.replicate_succ', vl_snoc, vl_rep0 n]
theorem vl_rep1 : ∀ n, vl (List.replicate n 1) + 1 = 2 ^ n
  | 0 => rfl
  | n + 1 => by rw [List.replicate_succ', vl_snoc, p2s, ← vl_rep1 n]; omega
theorem bl_of {n k : Nat} {l : List Nat} (h : ∀ b ∈ l, b < 2) (hn : l.length = n) (hk : vl l = k) : bl n k = l := by
  subst hn hk
  exact bl_vl h
/-- The bits of a magnitude: a run, the bit that ends it, and what is behind. -/
theorem Ps.bits {n k r q : Nat} {R : Int} (h : Ps n k R r q) :
    (∃ b g, b < 2 ∧ 1 ≤ g ∧ g + 1 + r = n ∧ bl n k = List.replicate g b ++ ([1 - b] ++ bl r q) ∧ ((b = 0 ∧ R = -(g : Int)) ∨ (b = 1 ∧ R = (g : Int) - 1))) ∨ (bl n k = List.replicate n 1 ∧ 2 ≤ n ∧ r = 0 ∧ q = 0 ∧ R = (n : Int) - 1) := by
  obtain ⟨hq, h | h | h⟩ := h
  · obtain ⟨rfl, h1, rfl⟩ := h
    refine .inl ⟨0, n - 1 - r, by decide, by omega, by omega, ?_, .inl ⟨rfl, by omega⟩⟩
    refine bl_of (fun b hb => ?_) (by simp [bl_len]; omega) ?_
    · simp only [List.mem_append, List.mem_replicate, List.mem_singleton] at hb
      rcases hb with ⟨_, rfl⟩ | rfl | hb
      · decide
      · decide
      · exact bl_two _ _ b hb
    · rw [vl_app, vl_rep0, vl_app, vl_bl, bl_len, Nat.mod_eq_of_lt hq]
      simp [vl]
  · obtain ⟨h0, h1, rfl⟩ := h
    refine .inl ⟨1, n - 1 - r, by decide, by omega, by omega, ?_, .inr ⟨rfl, by omega⟩⟩
    refine bl_of (fun b hb => ?_) (by simp [bl_len]; omega) ?_
    · simp only [List.mem_append, List.mem_replicate, List.mem_singleton] at hb
      rcases hb with ⟨_, rfl⟩ | rfl | hb
      · decide
      · decide
      · exact bl_two _ _ b hb
    · rw [vl_app, vl_app, vl_bl, bl_len, Nat.mod_eq_of_lt hq]
      have e := vl_rep1 (n - 1 - r)
      have e2 : 2 ^ n = 2 ^ (n - 1 - r) * 2 ^ (r + 1) := by rw [← Nat.pow_add, show n - 1 - r + (r + 1) = n by omega]
      have e3 : ([1 - 1] ++ bl r q).length = r + 1 := by rw [List.length_append, bl_len]; simp; omega
      rw [e3]
      rw [← e, Nat.add_mul, Nat.one_mul] at e2
      simp [vl] at e2 ⊢
      omega
  · obtain ⟨h0, rfl, h1, rfl⟩ := h
    have h2 : q = 0 := by simpa using hq
    refine .inr ⟨bl_of (fun b hb => ?_) (by simp) ?_, h1, rfl, h2, rfl⟩
    · rw [List.mem_replicate] at hb
      omega
    · have := vl_rep1 n
      omega
theorem vl_ex {r q : Nat} (h : q < 2 ^ r) : vl ((bl r q ++ [0, 0]).take 2) = ex r q := by
  rcases (show r = 0 ∨ r = 1 ∨ 2 ≤ r by omega) with rfl | rfl | h2
  · obtain rfl : q = 0 := by simpa using h
    decide
  · have : q < 2 := by simpa using h
    rcases (show q = 0 ∨ q = 1 by omega) with rfl | rfl <;> decide
  · obtain ⟨b, rfl⟩ : ∃ b, r = b + 2 := ⟨r - 2, by omega⟩
    have e := bl_app b 2 q
    rw [Nat.add_comm 2 b] at e
    rw [e, List.append_assoc, List.take_append_of_le_length (by rw [bl_len]; omega), List.take_of_length_le (by rw [bl_len]; omega), vl_bl]
    unfold ex
    rw [if_pos h2, Nat.add_sub_cancel]
    apply Nat.mod_eq_of_lt
    rw [Nat.div_lt_iff_lt_mul (p2 b)]
    rw [p2s, p2s] at h
    omega
theorem vl_fr {r q : Nat} (h : 2 ≤ r) : vl ((bl r q).drop 2) = fr r q := by
  obtain ⟨b, rfl⟩ : ∃ b, r = b + 2 := ⟨r - 2, by omega⟩
  have e := bl_app b 2 q
  rw [Nat.add_comm 2 b] at e
  rw [e, List.drop_append_of_le_length (by rw [bl_len]; omega), List.drop_of_length_le (by rw [bl_len]; omega), List.nil_append, vl_bl]
  rfl
end M
theorem St.ext {s : ByteArray} {l : List Nat} (h : St s l) (i j : Nat) (hj : j ≤ s.size) : St (s.extract i j) ((l.drop i).take (j - i)) := by
  have hs := h.size
  have hz : (s.extract i j).size = j - i := by rw [ByteArray.size_extract]; omega
  refine ⟨by rw [hz, List.length_take, List.length_drop]; omega, fun k hk => ?_, fun x hx => h.two x (List.mem_of_mem_drop (List.mem_of_mem_take hx))⟩
  rw [ByteArray.getElem_extract, h.at_ (i + k) (by omega), List.getD_eq_getElem?_getD, List.getD_eq_getElem?_getD, List.getElem?_take_of_lt (by omega), List.getElem?_drop]
theorem St.noughts : St ⟨#[48, 48]⟩ [0, 0] := by
  refine ⟨rfl, fun i hi => ?_, fun x hx => by simp at hx; omega⟩
  have h2 : (⟨#[48, 48]⟩ : ByteArray).size = 2 := rfl
  rcases (show i = 0 ∨ i = 1 by omega) with rfl | rfl <;> rfl
/-- Fields as a value. -/
abbrev fdv (R E : Int) (F : Nat) (B : Int) : Value := .agg #[.int .i64 R, .int .i64 E, u64 F, .int .i64 B]
theorem St.get {s : ByteArray} {l : List Nat} (h : St s l) {i b : Nat} (hi : i < s.size) (hb : l.getD i 0 = b) : ((s[i]).toNat : Int) = 48 + (b : Int) := by
  have := h.at_ i hi
  rw [hb] at this
  omega
theorem rep_get {g b r : Nat} {m : List Nat} {i : Nat} (h : i < g) : (List.replicate g b ++ m).getD i r = b := by
  rw [List.getD_eq_getElem?_getD, List.getElem?_append_left (by simpa using h)]
  simp [h]
theorem rep_end {g b r c : Nat} {m : List Nat} : (List.replicate g b ++ ([c] ++ m)).getD g r = c := by
  rw [List.getD_eq_getElem?_getD, List.getElem?_append_right (by simp)]
  simp

end Go.Proofs.YtadgoeplhichmaaDoor
/-
  The reference of layer 5: Split, wholly.
-/
namespace Go.Proofs.YtadgoeplhichmaaDoor
open Go.RowKit

/-- What Split comes to. -/
def Fdb (R E : Int) (F : Nat) (B : Int) (t : Bool) (w : World) (e : Ending) (w' : World) : Prop := e = .returned (.tuple #[fdv R E F B, .bool t]) ∧ Up w w'
end Go.Proofs.YtadgoeplhichmaaDoor
/-
  The reference of layer 5: Value, and which number is less.
-/
namespace Go.Proofs.YtadgoeplhichmaaDoor
open Go.RowKit

/-- What Value comes to. -/
def V3 (m : Nat) (z : Int) (t : Bool) (w : World) (e : Ending) (w' : World) : Prop := e = .returned (.tuple #[u64 m, .int .i64 z, .bool t]) ∧ Up w w'
def Bo (t : Bool) (w : World) (e : Ending) (w' : World) : Prop := e = .returned (.bool t) ∧ w = w'

end Go.Proofs.YtadgoeplhichmaaDoor
/-
  The reference of layer 5: Key.
-/
namespace Go.Proofs.YtadgoeplhichmaaDoor
open Go.RowKit

namespace M
theorem bits_up {a : Nat} (h : 0 < a) (i : Nat) : bits (a * 2 ^ i) = bits a + i := by
  induction i with
  | zero => simp
  | succ i ih =>
    have hp : 0 < a * 2 ^ i := Nat.mul_pos h (p2 i)
    have h1 := bits_half (a := a * 2 ^ (i + 1)) (by rw [p2s]; have := hp; rw [Nat.mul_left_comm]; omega)
    rw [show a * 2 ^ (i + 1) / 2 = a * 2 ^ i by rw [p2s, Nat.mul_left_comm]; omega, ih] at h1
    omega
/-- Which of two numbers is less, by their highest bits. -/
theorem top_lt {a b A B : Nat} (ha : 0 < a) (hb : 0 < b) (h : bits a + A < bits b + B) : a * 2 ^ A < b * 2 ^ B := by
  have h1 := bits_lt (a * 2 ^ A)
  have h2 := bits_le (a := b * 2 ^ B) (by have := Nat.mul_pos hb (p2 B); omega)
  rw [bits_up ha] at h1
  rw [bits_up hb] at h2
  have h3 : 2 ^ (bits a + A) ≤ 2 ^ (bits b + B - 1) := p2le (by omega)
  omega
theorem same_lt {a b A B i j : Nat} (h : i + B = j + A) : a * 2 ^ A < b * 2 ^ B ↔ a * 2 ^ i < b * 2 ^ j := by
  have e1 : a * 2 ^ A * 2 ^ (i + j) = a * 2 ^ i * 2 ^ (A + j) := by rw [Nat.mul_assoc, Nat.mul_assoc, ← Nat.pow_add, ← Nat.pow_add, show A + (i + j) = i + (A + j) by omega]
  have e2 : b * 2 ^ B * 2 ^ (i + j) = b * 2 ^ j * 2 ^ (A + j) := by rw [Nat.mul_assoc, Nat.mul_assoc, ← Nat.pow_add, ← Nat.pow_add, show B + (i + j) = j + (A + j) by omega]
  have p := p2 (i + j)
  have p' := p2 (A + j)
  rw [← Nat.mul_lt_mul_right p, e1, e2, Nat.mul_lt_mul_right p']
end M
theorem shl_up {a i : Nat} (ha : 0 < a) (h : M.bits a + i ≤ 64) : a * 2 ^ i < 18446744073709551616 := by
  have h1 := M.bits_lt (a * 2 ^ i)
  rw [M.bits_up ha] at h1
  have h2 : 2 ^ (M.bits a + i) ≤ 2 ^ 64 := M.p2le h
  have h3 : (2 : Nat) ^ 64 = 18446744073709551616 := by decide
  omega
theorem shl_top {a i : Nat} (ha : 0 < a) : (a * 2 ^ i < 9223372036854775808) ↔ M.bits a + i < 64 := by
  have h1 := M.bits_lt (a * 2 ^ i)
  have h2 := M.bits_le (a := a * 2 ^ i) (by have := Nat.mul_pos ha (M.p2 i); omega)
  rw [M.bits_up ha] at h1 h2
  have h3 : (2 : Nat) ^ 63 = 9223372036854775808 := by decide
  constructor
  · intro h
    have : M.bits a + i - 1 < 63 := M.p2inj (by omega)
    omega
  · intro h
    have : 2 ^ (M.bits a + i) ≤ 2 ^ 63 := M.p2le (by omega)
    omega

end Go.Proofs.YtadgoeplhichmaaDoor
namespace Go.Proofs.YtadgoeplhichmaaDoor
open Go.RowKit

namespace M
/-- The magnitude k of n bits is m times 2 to the power of z, m being odd. -/
def IsK (n k m : Nat) (z : Int) : Prop := m % 2 = 1 ∧ ∃ (R : Int) (r q t : Nat), Ps n k R r q ∧ 2 ^ (r - 2) + fr r q = m * 2 ^ t ∧ 4 * R + ex r q - (r - 2 : Nat) + t = z
theorem IsK.rng {n k m : Nat} {z : Int} (hn : n ≤ 64) (h : IsK n k m z) : 0 < k ∧ k < 2 ^ n ∧ -1000 ≤ z ∧ z ≤ 1000 ∧ 0 < m ∧ m < 9223372036854775808 := by
  obtain ⟨ho, R, r, q, t, h1, h2, rfl⟩ := h
  have rg := h1.rng
  have h3 := ex_le h1.1
  have h4 := fr_lt r q
  have p62 : 2 ^ (r - 2) ≤ 2 ^ 62 := p2le (by omega)
  have c62 : (2 : Nat) ^ 62 = 4611686018427387904 := by decide
  have p1 : m ≤ m * 2 ^ t := Nat.le_mul_of_pos_right _ (p2 t)
  have p3 : 2 ^ t ≤ m * 2 ^ t := Nat.le_mul_of_pos_left _ (by omega)
  have t64 : t < 64 := p2inj (by have : (2 : Nat) ^ 64 = 18446744073709551616 := by decide
                                 omega)
  refine ⟨rg.1, rg.2.1, by omega, by omega, by omega, by omega⟩
theorem isk_ex {n k : Nat} (hn : 2 ≤ n) (h0 : 0 < k) (hk : k < 2 ^ n) : ∃ m z, IsK n k m z := by
  obtain ⟨R, r, q, h⟩ := ps_ex hn h0 hk
  obtain ⟨m, t, h1, h2⟩ := odd_ex (2 ^ (r - 2) + fr r q) (by have := p2 (r - 2); omega)
  exact ⟨m, _, h2, R, r, q, t, h, h1, rfl⟩
/-- The number of it, times 2^1000. -/
def vz (m : Nat) (z : Int) : Nat := m * 2 ^ (z + 1000).toNat
theorem IsK.vx {n k m : Nat} {z : Int} (hn : n ≤ 64) (h : IsK n k m z) : ∃ R r q, Ps n k R r q ∧ vx R r q = vz m z := by
  have g := h.rng hn
  obtain ⟨ho, R, r, q, t, h1, h2, h3⟩ := h
  refine ⟨R, r, q, h1, ?_⟩
  have rg := h1.rng
  have h4 := ex_le h1.1
  rw [vx_fields hn h1, h2, vz, Nat.mul_assoc, ← Nat.pow_add]
  congr 2
  omega
theorem isk_lt {n k k' m m' : Nat} {z z' : Int} (hn : n ≤ 64) (h : IsK n k m z) (h' : IsK n k' m' z') (hk : k < k') : vz m z < vz m' z' := by
  obtain ⟨R, r, q, a, b⟩ := h.vx hn
  obtain ⟨R', r', q', a', b'⟩ := h'.vx hn
  rw [← b, ← b']
  exact vx_lt hn a a' hk
theorem isk_inj {n k k' m : Nat} {z : Int} (hn : n ≤ 64) (h : IsK n k m z) (h' : IsK n k' m z) : k = k' := by
  rcases Nat.lt_trichotomy k k' with hk | hk | hk
  · have := isk_lt hn h h' hk; omega
  · exact hk
  · have := isk_lt hn h' h hk; omega
theorem isk_uniq {n k m m' : Nat} {z z' : Int} (h : IsK n k m z) (h' : IsK n k m' z') : m = m' ∧ z = z' := by
  obtain ⟨ho, R, r, q, t, h1, h2, h3⟩ := h
  obtain ⟨ho', R', r', q', t', h1', h2', h3'⟩ := h'
  obtain ⟨rfl, rfl, rfl⟩ := ps_uniq h1 h1'
  obtain ⟨rfl, rfl⟩ := odd_uniq ho ho' (h2.symm.trans h2')
  exact ⟨rfl, by omega⟩
end M
/-- What Key comes to. -/
def Ky (n m : Nat) (z : Int) (w : World) (e : Ending) (w' : World) : Prop :=
  ∃ (k : Nat) (t : Bool), e = .returned (.tuple #[u64 k, .bool t]) ∧ Up w w' ∧ (t = true → M.IsK n k m z) ∧ ∀ k', M.IsK n k' m z → t = true ∧ k = k'
/-- A round of the search. -/
structure Kr (n m : Nat) (z : Int) (key i : Nat) : Prop where
  fit : key + 2 ^ i ≤ 2 ^ n
  all : ∀ k, M.IsK n k m z → key ≤ k ∧ k < key + 2 ^ i
theorem Kr.start {n m : Nat} {z : Int} (hn : n ≤ 64) : Kr n m z 0 n := ⟨by omega, fun k h => ⟨Nat.zero_le _, by have := h.rng hn; omega⟩⟩
theorem Kr.stay {n m key i m' : Nat} {z z' : Int} (hn : n ≤ 64) (h : Kr n m z key (i + 1)) (h' : M.IsK n (key + 2 ^ i) m' z') (hv : M.vz m z < M.vz m' z') : Kr n m z key i := by
  have p := M.p2s i
  have f := h.fit
  refine ⟨by omega, fun k hk => ⟨(h.all k hk).1, ?_⟩⟩
  rcases Nat.lt_trichotomy k (key + 2 ^ i) with e | e | e
  · exact e
  · subst e
    obtain ⟨rfl, rfl⟩ := M.isk_uniq hk h'
    omega
  · have := M.isk_lt hn h' hk e
    omega
theorem Kr.go {n m key i m' : Nat} {z z' : Int} (hn : n ≤ 64) (h : Kr n m z key (i + 1)) (h' : M.IsK n (key + 2 ^ i) m' z') (hv : ¬ M.vz m z < M.vz m' z') : Kr n m z (key + 2 ^ i) i := by
  have p := M.p2s i
  have f := h.fit
  refine ⟨by omega, fun k hk => ⟨?_, by have := (h.all k hk).2; omega⟩⟩
  rcases Nat.lt_or_ge k (key + 2 ^ i) with e | e
  · have := M.isk_lt hn hk h' e
    omega
  · exact e

end Go.Proofs.YtadgoeplhichmaaDoor
/-
  Layer 5: what calls come to; the reference's answers, by what there is.
-/
namespace Go.Proofs.YtadgoeplhichmaaDoor
open Go.RowKit

namespace M
/-- The magnitude k of n bits has these fields. -/
def IsF (n k : Nat) (R E : Int) (F : Nat) (B : Int) : Prop := ∃ r q, Ps n k R r q ∧ (ex r q : Int) = E ∧ fr r q = F ∧ ((r - 2 : Nat) : Int) = B
def lead (R : Int) : List Nat := if 0 ≤ R then List.replicate (R + 1).toNat 1 ++ [0] else List.replicate (-R).toNat 0 ++ [1]
/-- The bits that fields are put together of. -/
def jl (R : Int) (E F B : Nat) : List Nat := lead R ++ ([E / 2, E % 2] ++ bl B F)
theorem bl_mod (b q : Nat) : bl b (q % 2 ^ b) = bl b q := by
  have h := bl_vl (bl_two b q)
  rw [bl_len, vl_bl] at h
  exact h
theorem behind {r q : Nat} (h : q < 2 ^ r) : ([ex r q / 2, ex r q % 2] ++ bl (r - 2) (fr r q)).take r = bl r q := by
  have h3 := ex_le h
  rcases (show r = 0 ∨ r = 1 ∨ 2 ≤ r by omega) with rfl | rfl | h2
  · simp [bl]
  · have : q < 2 := by simpa using h
    rcases (show q = 0 ∨ q = 1 by omega) with rfl | rfl <;> decide
  · obtain ⟨b, rfl⟩ : ∃ b, r = b + 2 := ⟨r - 2, by omega⟩
    rw [List.take_of_length_le (by simp [bl_len])]
    have e := bl_app b 2 q
    rw [Nat.add_comm 2 b] at e
    rw [e, Nat.add_sub_cancel]
    have e1 : ex (b + 2) q = q / 2 ^ b := by unfold ex; rw [if_pos h2, Nat.add_sub_cancel]
    have e2 : fr (b + 2) q = q % 2 ^ b := rfl
    rw [e1] at h3 ⊢
    rw [e2, bl_mod]
    congr 1
    obtain ⟨z, hz⟩ : ∃ z, q / 2 ^ b = z := ⟨_, rfl⟩
    rw [hz] at h3 ⊢
    rcases (show z = 0 ∨ z = 1 ∨ z = 2 ∨ z = 3 by omega) with rfl | rfl | rfl | rfl <;> decide
theorem jl_of {n k r q : Nat} {R : Int} (h : Ps n k R r q) : n ≤ (jl R (ex r q) (fr r q) (r - 2)).length ∧ (jl R (ex r q) (fr r q) (r - 2)).take n = bl n k := by
  have hq := h.1
  have hb := behind hq
  have hl : r ≤ ([ex r q / 2, ex r q % 2] ++ bl (r - 2) (fr r q)).length := by rw [List.length_append, bl_len]; simp; omega
  obtain ⟨tail, ht⟩ : ∃ l, [ex r q / 2, ex r q % 2] ++ bl (r - 2) (fr r q) = l := ⟨_, rfl⟩
  rw [ht] at hb hl
  unfold jl lead
  rw [ht]
  rcases h.bits with ⟨b, g, _, hg, hgr, hbl, ⟨rfl, rfl⟩ | ⟨rfl, rfl⟩⟩ | ⟨hbl, h2, rfl, rfl, rfl⟩
  · rw [if_neg (by omega), hbl]
    have e : (- -(g : Int)).toNat = g := by omega
    rw [e, ← hgr]
    refine ⟨by simp; omega, ?_⟩
    rw [List.append_assoc, List.take_append, List.take_append, List.length_replicate, show g + 1 + r - g = r + 1 by omega, List.take_of_length_le (by simp; omega)]
    simp [hb]
  · rw [if_pos (by omega), hbl]
    have e : ((g : Int) - 1 + 1).toNat = g := by omega
    rw [e, ← hgr]
    refine ⟨by simp; omega, ?_⟩
    rw [List.append_assoc, List.take_append, List.take_append, List.length_replicate, show g + 1 + r - g = r + 1 by omega, List.take_of_length_le (by simp; omega)]
    simp [hb]
  · rw [if_pos (by omega), hbl]
    have e : ((n : Int) - 1 + 1).toNat = n := by omega
    rw [e]
    refine ⟨by first | (simp; done) | (simp; omega), ?_⟩
    rw [List.append_assoc, List.take_append_of_le_length (by simp), List.take_of_length_le (by simp)]
theorem IsF.rng {n k F : Nat} {R E B : Int} (hn : n ≤ 64) (h : IsF n k R E F B) : 0 < k ∧ k < 2 ^ n ∧ -64 ≤ R ∧ R ≤ 64 ∧ 0 ≤ E ∧ E ≤ 3 ∧ 0 ≤ B ∧ B ≤ 62 ∧ F < 2 ^ B.toNat := by
  obtain ⟨r, q, h1, rfl, rfl, rfl⟩ := h
  have rg := h1.rng
  have h3 := ex_le h1.1
  have h4 := fr_lt r q
  refine ⟨rg.1, rg.2.1, by omega, by omega, by omega, by omega, by omega, by omega, ?_⟩
  rwa [Int.toNat_natCast]
theorem IsF.key {n k F E B : Nat} {R : Int} (h : IsF n k R E F B) : n ≤ (jl R E F B).length ∧ vl ((jl R E F B).take n) = k := by
  obtain ⟨r, q, h1, h2, rfl, h4⟩ := h
  have e1 : ex r q = E := by omega
  have e2 : r - 2 = B := by omega
  obtain ⟨a, b⟩ := jl_of h1
  rw [e1, e2] at a b
  refine ⟨a, ?_⟩
  rw [b, vl_bl, Nat.mod_eq_of_lt h1.rng.2.1]
theorem isf_uniq {n k k' F : Nat} {R E B : Int} (h : IsF n k R E F B) (h' : IsF n k' R E F B) : k = k' := by
  obtain ⟨r, q, h1, h2, h3, h4⟩ := h
  obtain ⟨r', q', h1', h2', h3', h4'⟩ := h'
  obtain ⟨rfl, _, e⟩ := (ps_cmp h1 h1').2 rfl
  exact e (q_inj h1.1 h1'.1 (by omega) (by rw [h3, h3']))
end M
theorem St.one : St ⟨#[49]⟩ [1] := by
  have := St.dg (b := 1) (by decide)
  exact this
theorem St.zero : St ⟨#[48]⟩ [0] := by
  have := St.dg (b := 0) (by decide)
  exact this
/-- Two digits' text. -/
def dg2 (a b : Nat) : ByteArray := ⟨#[UInt8.ofNat (48 + a), UInt8.ofNat (48 + b)]⟩
theorem St.dg2 {a b : Nat} (ha : a < 2) (hb : b < 2) : St (dg2 a b) [a, b] := by
  refine ⟨rfl, fun i hi => ?_, fun x hx => by simp at hx; omega⟩
  have h1 : (Go.Proofs.YtadgoeplhichmaaDoor.dg2 a b).size = 2 := rfl
  rcases (show i = 0 ∨ i = 1 by omega) with rfl | rfl
  · show (UInt8.ofNat (48 + a)).toNat = 48 + a
    rw [show (UInt8.ofNat (48 + a)).toNat = (48 + a) % 256 from rfl]; omega
  · show (UInt8.ofNat (48 + b)).toNat = 48 + b
    rw [show (UInt8.ofNat (48 + b)).toNat = (48 + b) % 256 from rfl]; omega
/-- What Join comes to. -/
def Jn (n : Nat) (R E : Int) (F : Nat) (B : Int) (w : World) (e : Ending) (w' : World) : Prop :=
  ∃ (k : Nat) (t : Bool), e = .returned (.tuple #[u64 k, .bool t]) ∧ Up w w' ∧ k < 18446744073709551616 ∧ (t = true → M.IsF n k R E F B) ∧ ∀ k', M.IsF n k' R E F B → t = true ∧ k = k'
theorem Jn.none {n F : Nat} {R E B : Int} {w w' : World} (U : Up w w') (h : ∀ k', ¬ M.IsF n k' R E F B) : Jn n R E F B w (.returned (.tuple #[u64 0, .bool false])) w' :=
  ⟨0, false, rfl, U, by decide, (fun h => by cases h), fun k' hk => absurd hk (h k')⟩
end Go.Proofs.YtadgoeplhichmaaDoor
namespace Go.Proofs.YtadgoeplhichmaaDoor
open Go.RowKit
end Go.Proofs.YtadgoeplhichmaaDoor
namespace Go.Proofs.YtadgoeplhichmaaDoor
open Go.RowKit

def Fdn (R E : Int) (F : Nat) (B x : Int) (w : World) (e : Ending) (w' : World) : Prop := e = .returned (.tuple #[fdv R E F B, .int .i64 x]) ∧ Up w w'
def Vn (m : Nat) (z x : Int) (w : World) (e : Ending) (w' : World) : Prop := e = .returned (.tuple #[u64 m, .int .i64 z, .int .i64 x]) ∧ Up w w'
def Kn (k : Nat) (x : Int) (w : World) (e : Ending) (w' : World) : Prop := e = .returned (.tuple #[u64 k, .int .i64 x]) ∧ Up w w'
def Kt (k : Nat) (t : Bool) (w : World) (e : Ending) (w' : World) : Prop := e = .returned (.tuple #[u64 k, .bool t]) ∧ Up w w'
def Ko (w : World) (e : Ending) (w' : World) : Prop := ∃ k : Nat, e = .returned (.tuple #[u64 k, .bool false]) ∧ Up w w'
def True5 (w : World) (e : Ending) (w' : World) : Prop := e = .returned (.bool true) ∧ Up w w'
/-- A key that may not be. -/
def bad (wd : Int) (k : Nat) : Prop := wd < 3 ∨ 65 < wd ∨ k = 0 ∨ 2 ^ (wd - 1).toNat ≤ k
theorem of_bad {wd : Int} {k : Nat} (h : ¬ bad wd k) : ∃ n : Nat, wd = (n : Int) + 1 ∧ 2 ≤ n ∧ n ≤ 64 ∧ 0 < k ∧ k < 2 ^ n := by
  have h' : ¬ (wd < 3 ∨ 65 < wd ∨ k = 0 ∨ 2 ^ (wd - 1).toNat ≤ k) := h
  refine ⟨(wd - 1).toNat, by omega, by omega, by omega, by omega, ?_⟩
  rcases Nat.lt_or_ge k (2 ^ (wd - 1).toNat) with h2 | h2
  · exact h2
  · exact absurd (.inr (.inr (.inr h2))) h'
theorem nat_u64 {x : Int} (h : (Lit.int .u64 x).wf = true) : ∃ k : Nat, x = (k : Int) ∧ k < 18446744073709551616 := by
  have h6 : (0 : Int) ≤ x ∧ x ≤ 18446744073709551615 := by simpa [Lit.wf, IntKind.min, IntKind.max, IntKind.signed, IntKind.bits] using h
  exact ⟨x.toNat, by omega, by omega⟩
theorem int_i64 {x : Int} (h : (Lit.int .i64 x).wf = true) : -9223372036854775808 ≤ x ∧ x ≤ 9223372036854775807 := by
  simpa [Lit.wf, IntKind.min, IntKind.max, IntKind.signed, IntKind.bits] using h

end Go.Proofs.YtadgoeplhichmaaDoor
