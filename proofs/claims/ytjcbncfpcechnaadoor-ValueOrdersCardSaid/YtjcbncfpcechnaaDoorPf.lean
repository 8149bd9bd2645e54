/-
  Layer 5: what calls come to; the reference's answers, by what there is.
-/
import Derived.Test.YtjcbncfpcechnaaDoorPs2
import Derived.OwnWalk
import Derived.Test.YtjcbncfpcechnaaDoorPk
namespace Go.Proofs.YtjcbncfpcechnaaDoor
open Go.RowKit

namespace M
/-- The magnitude k of n bits has these fields. -/
def IsF (n k : Nat) (R E : Int) (F : Nat) (B : Int) : Prop := ∃ r q, Ps n k R r q ∧ (ex r q : Int) = E ∧ fr r q = F ∧ ((r - 2 : Nat) : Int) = B
def lead (R : Int) : List Nat := if 0 ≤ R then List.replicate (R + 1).toNat 1 ++ [0] else List.replicate (-R).toNat 0 ++ [1]
/-- The bits that fields are put together of. -/
def jl (R : Int) (E F B : Nat) : List Nat := lead R ++ ([E / 2, E % 2] ++ bl B F)
theorem bl_mod (b q : Nat) : bl b (q % 2 ^ b) = bl b q := by
  have h := bl_vl (bl_two b q)
  rw [bl_len, vl_bl] at h
  exact h
theorem behind {r q : Nat} (h : q < 2 ^ r) : ([ex r q / 2, ex r q % 2] ++ bl (r - 2) (fr r q)).take r = bl r q := by
  have h3 := ex_le h
  rcases (show r = 0 ∨ r = 1 ∨ 2 ≤ r by omega) with rfl | rfl | h2
  · simp [bl]
  · have : q < 2 := by simpa using h
    rcases (show q = 0 ∨ q = 1 by omega) with rfl | rfl <;> decide
  · obtain ⟨b, rfl⟩ : ∃ b, r = b + 2 := ⟨r - 2, by omega⟩
    rw [List.take_of_length_le (by simp [bl_len])]
    have e := bl_app b 2 q
    rw [Nat.add_comm 2 b] at e
    rw [e, Nat.add_sub_cancel]
    have e1 : ex (b + 2) q = q / 2 ^ b := by unfold ex; rw [if_pos h2, Nat.add_sub_cancel]
    have e2 : fr (b + 2) q = q % 2 ^ b := rfl
    rw [e1] at h3 ⊢
    rw [e2, bl_mod]
    congr 1
    obtain ⟨z, hz⟩ : ∃ z, q / 2 ^ b = z := ⟨_, rfl⟩
    rw [hz] at h3 ⊢
    rcases (show z = 0 ∨ z = 1 ∨ z = 2 ∨ z = 3 by omega) with rfl | rfl | rfl | rfl <;> decide
theorem jl_of {n k r q : Nat} {R : Int} (h : Ps n k R r q) : n ≤ (jl R (ex r q) (fr r q) (r - 2)).length ∧ (jl R (ex r q) (fr r q) (r - 2)).take n = bl n k := by
  have hq := h.1
  have hb := behind hq
  have hl : r ≤ ([ex r q / 2, ex r q % 2] ++ bl (r - 2) (fr r q)).length := by rw [List.length_append, bl_len]; simp; omega
  obtain ⟨tail, ht⟩ : ∃ l, [ex r q / 2, ex r q % 2] ++ bl (r - 2) (fr r q) = l := ⟨_, rfl⟩
  rw [ht] at hb hl
  unfold jl lead
  rw [ht]
  rcases h.bits with ⟨b, g, _, hg, hgr, hbl, ⟨rfl, rfl⟩ | ⟨rfl, rfl⟩⟩ | ⟨hbl, h2, rfl, rfl, rfl⟩
  · rw [if_neg (by omega), hbl]
    have e : (- -(g : Int)).toNat = g := by omega
    rw [e, ← hgr]
    refine ⟨by simp; omega, ?_⟩
    rw [List.append_assoc, List.take_append, List.take_append, List.length_replicate, show g + 1 + r - g = r + 1 by omega, List.take_of_length_le (by simp; omega)]
    simp [hb]
  · rw [if_pos (by omega), hbl]
    have e : ((g : Int) - 1 + 1).toNat = g := by omega
    rw [e, ← hgr]
    refine ⟨by simp; omega, ?_⟩
    rw [List.append_assoc, List.take_append, List.take_append, List.length_replicate, show g + 1 + r - g = r + 1 by omega, List.take_of_length_le (by simp; omega)]
    simp [hb]
  · rw [if_pos (by omega), hbl]
    have e : ((n : Int) - 1 + 1).toNat = n := by omega
    rw [e]
    refine ⟨by first | (simp; done) | (simp; omega), ?_⟩
    rw [List.append_assoc, List.take_append_of_le_length (by simp), List.take_of_length_le (by simp)]
theorem IsF.rng {n k F : Nat} {R E B : Int} (hn : n ≤ 64) (h : IsF n k R E F B) : 0 < k ∧ k < 2 ^ n ∧ -64 ≤ R ∧ R ≤ 64 ∧ 0 ≤ E ∧ E ≤ 3 ∧ 0 ≤ B ∧ B ≤ 62 ∧ F < 2 ^ B.toNat := by
  obtain ⟨r, q, h1, rfl, rfl, rfl⟩ := h
  have rg := h1.rng
  have h3 := ex_le h1.1
  have h4 := fr_lt r q
  refine ⟨rg.1, rg.2.1, by omega, by omega, by omega, by omega, by omega, by omega, ?_⟩
  rwa [Int.toNat_natCast]
theorem IsF.key {n k F E B : Nat} {R : Int} (h : IsF n k R E F B) : n ≤ (jl R E F B).length ∧ vl ((jl R E F B).take n) = k := by
  obtain ⟨r, q, h1, h2, rfl, h4⟩ := h
  have e1 : ex r q = E := by omega
  have e2 : r - 2 = B := by omega
  obtain ⟨a, b⟩ := jl_of h1
  rw [e1, e2] at a b
  refine ⟨a, ?_⟩
  rw [b, vl_bl, Nat.mod_eq_of_lt h1.rng.2.1]
theorem isf_uniq {n k k' F : Nat} {R E B : Int} (h : IsF n k R E F B) (h' : IsF n k' R E F B) : k = k' := by
  obtain ⟨r, q, h1, h2, h3, h4⟩ := h
  obtain ⟨r', q', h1', h2', h3', h4'⟩ := h'
  obtain ⟨rfl, _, e⟩ := (ps_cmp h1 h1').2 rfl
  exact e (q_inj h1.1 h1'.1 (by omega) (by rw [h3, h3']))
end M
theorem St.one : St ⟨#[49]⟩ [1] := by
  have := St.dg (b := 1) (by decide)
  exact this
theorem St.zero : St ⟨#[48]⟩ [0] := by
  have := St.dg (b := 0) (by decide)
  exact this
/-- Two digits' text. -/
def dg2 (a b : Nat) : ByteArray := ⟨#[UInt8.ofNat (48 + a), UInt8.ofNat (48 + b)]⟩
theorem St.dg2 {a b : Nat} (ha : a < 2) (hb : b < 2) : St (dg2 a b) [a, b] := by
  refine ⟨rfl, fun i hi => ?_, fun x hx => by simp at hx; omega⟩
  have h1 : (Go.Proofs.YtjcbncfpcechnaaDoor.dg2 a b).size = 2 := rfl
  rcases (show i = 0 ∨ i = 1 by omega) with rfl | rfl
  · show (UInt8.ofNat (48 + a)).toNat = 48 + a
    rw [show (UInt8.ofNat (48 + a)).toNat = (48 + a) % 256 from rfl]; omega
  · show (UInt8.ofNat (48 + b)).toNat = 48 + b
    rw [show (UInt8.ofNat (48 + b)).toNat = (48 + b) % 256 from rfl]; omega
theorem bit2_up (w w' : World) (a b : Nat) (ha : a < 10) (hb : b < 10) (S : ByteArray) (hS : dg2 a b = S) (X Z : Int) (hX : X = 48 + (a : Int)) (hZ : Z = 48 + (b : Int)) (hu : Up (w.alloc (.cells #[.int .u8 X, .int .u8 Z] 5)) w') :
    (convert 94 9 (.slice (some ⟨w.heap.size, 0, none⟩) 2 2)).run Tryd.prog w' = .ok (.string S) w' := by
  subst hZ hX hS
  have hx : (48 : Int) + (a : Int) = ((UInt8.ofNat (48 + a)).toNat : Int) := by
    rw [show (UInt8.ofNat (48 + a)).toNat = (48 + a) % 256 from rfl]; omega
  have hz : (48 : Int) + (b : Int) = ((UInt8.ofNat (48 + b)).toNat : Int) := by
    rw [show (UInt8.ofNat (48 + b)).toNat = (48 + b) % 256 from rfl]; omega
  rw [hx, hz] at hu
  have o := (Ob.mk_ w 5 #[.int .u8 ((UInt8.ofNat (48 + a)).toNat : Int), .int .u8 ((UInt8.ofNat (48 + b)).toNat : Int)]).up hu
  exact run_convert_bytes_back _ 94 9 5 ⟨w.heap.size, 0, none⟩ 2 [UInt8.ofNat (48 + a), UInt8.ofNat (48 + b)] Tryd.underlying94 Tryd.underlying5 Tryd.underlying9 (fun j hj => by
    have hj2 : j < 2 := by simpa using hj
    have e : (⟨w.heap.size, 0, none⟩ : Addr).add j = ⟨w.heap.size, j, none⟩ := by rw [Addr.add_lit, Nat.zero_add]
    rw [e, o.get]
    rcases (show j = 0 ∨ j = 1 by omega) with rfl | rfl <;> rfl)
/-- What Join comes to. -/
def Jn (n : Nat) (R E : Int) (F : Nat) (B : Int) (w : World) (e : Ending) (w' : World) : Prop :=
  ∃ (k : Nat) (t : Bool), e = .returned (.tuple #[u64 k, .bool t]) ∧ Up w w' ∧ k < 18446744073709551616 ∧ (t = true → M.IsF n k R E F B) ∧ ∀ k', M.IsF n k' R E F B → t = true ∧ k = k'
theorem Jn.none {n F : Nat} {R E B : Int} {w w' : World} (U : Up w w') (h : ∀ k', ¬ M.IsF n k' R E F B) : Jn n R E F B w (.returned (.tuple #[u64 0, .bool false])) w' :=
  ⟨0, false, rfl, U, by decide, (fun h => by cases h), fun k' hk => absurd hk (h k')⟩
end Go.Proofs.YtjcbncfpcechnaaDoor
namespace Go.Proofs.YtjcbncfpcechnaaDoor
open Go.RowKit
end Go.Proofs.YtjcbncfpcechnaaDoor
namespace Go.Proofs.YtjcbncfpcechnaaDoor
open Go.RowKit

def Fdn (R E : Int) (F : Nat) (B x : Int) (w : World) (e : Ending) (w' : World) : Prop := e = .returned (.tuple #[fdv R E F B, .int .i64 x]) ∧ Up w w'
def Vn (m : Nat) (z x : Int) (w : World) (e : Ending) (w' : World) : Prop := e = .returned (.tuple #[u64 m, .int .i64 z, .int .i64 x]) ∧ Up w w'
def Kn (k : Nat) (x : Int) (w : World) (e : Ending) (w' : World) : Prop := e = .returned (.tuple #[u64 k, .int .i64 x]) ∧ Up w w'
def Kt (k : Nat) (t : Bool) (w : World) (e : Ending) (w' : World) : Prop := e = .returned (.tuple #[u64 k, .bool t]) ∧ Up w w'
def Ko (w : World) (e : Ending) (w' : World) : Prop := ∃ k : Nat, e = .returned (.tuple #[u64 k, .bool false]) ∧ Up w w'
def True5 (w : World) (e : Ending) (w' : World) : Prop := e = .returned (.bool true) ∧ Up w w'
/-- A key that may not be. -/
def bad (wd : Int) (k : Nat) : Prop := wd < 3 ∨ 65 < wd ∨ k = 0 ∨ 2 ^ (wd - 1).toNat ≤ k
theorem of_bad {wd : Int} {k : Nat} (h : ¬ bad wd k) : ∃ n : Nat, wd = (n : Int) + 1 ∧ 2 ≤ n ∧ n ≤ 64 ∧ 0 < k ∧ k < 2 ^ n := by
  have h' : ¬ (wd < 3 ∨ 65 < wd ∨ k = 0 ∨ 2 ^ (wd - 1).toNat ≤ k) := h
  refine ⟨(wd - 1).toNat, by omega, by omega, by omega, by omega, ?_⟩
  rcases Nat.lt_or_ge k (2 ^ (wd - 1).toNat) with h2 | h2
  · exact h2
  · exact absurd (.inr (.inr (.inr h2))) h'
theorem nat_u64 {x : Int} (h : (Lit.int .u64 x).wf = true) : ∃ k : Nat, x = (k : Int) ∧ k < 18446744073709551616 := by
  have h6 : (0 : Int) ≤ x ∧ x ≤ 18446744073709551615 := by simpa [Lit.wf, IntKind.min, IntKind.max, IntKind.signed, IntKind.bits] using h
  exact ⟨x.toNat, by omega, by omega⟩
theorem int_i64 {x : Int} (h : (Lit.int .i64 x).wf = true) : -9223372036854775808 ≤ x ∧ x ≤ 9223372036854775807 := by
  simpa [Lit.wf, IntKind.min, IntKind.max, IntKind.signed, IntKind.bits] using h

end Go.Proofs.YtjcbncfpcechnaaDoor
