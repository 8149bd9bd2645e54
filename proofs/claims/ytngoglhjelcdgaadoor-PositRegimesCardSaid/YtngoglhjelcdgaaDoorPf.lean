/-
  Layer 5: what calls come to; the reference's answers, by what there is.
-/
import Derived.Test.YtngoglhjelcdgaaDoorPk
import Derived.Test.YtngoglhjelcdgaaDoorPj2
namespace Go.Proofs.YtngoglhjelcdgaaDoor
open Go.RowKit

def Fdn (R E : Int) (F : Nat) (B x : Int) (w : World) (e : Ending) (w' : World) : Prop := e = .returned (.tuple #[fdv R E F B, .int .i64 x]) ∧ Up w w'
def Vn (m : Nat) (z x : Int) (w : World) (e : Ending) (w' : World) : Prop := e = .returned (.tuple #[u64 m, .int .i64 z, .int .i64 x]) ∧ Up w w'
def Kn (k : Nat) (x : Int) (w : World) (e : Ending) (w' : World) : Prop := e = .returned (.tuple #[u64 k, .int .i64 x]) ∧ Up w w'
def Kt (k : Nat) (t : Bool) (w : World) (e : Ending) (w' : World) : Prop := e = .returned (.tuple #[u64 k, .bool t]) ∧ Up w w'
def Ko (w : World) (e : Ending) (w' : World) : Prop := ∃ k : Nat, e = .returned (.tuple #[u64 k, .bool false]) ∧ Up w w'
def True5 (w : World) (e : Ending) (w' : World) : Prop := e = .returned (.bool true) ∧ Up w w'
/-- A key that may not be. -/
def bad (wd : Int) (k : Nat) : Prop := wd < 3 ∨ 65 < wd ∨ k = 0 ∨ 2 ^ (wd - 1).toNat ≤ k
theorem of_bad {wd : Int} {k : Nat} (h : ¬ bad wd k) : ∃ n : Nat, wd = (n : Int) + 1 ∧ 2 ≤ n ∧ n ≤ 64 ∧ 0 < k ∧ k < 2 ^ n := by
  have h' : ¬ (wd < 3 ∨ 65 < wd ∨ k = 0 ∨ 2 ^ (wd - 1).toNat ≤ k) := h
  refine ⟨(wd - 1).toNat, by omega, by omega, by omega, by omega, ?_⟩
  rcases Nat.lt_or_ge k (2 ^ (wd - 1).toNat) with h2 | h2
  · exact h2
  · exact absurd (.inr (.inr (.inr h2))) h'
theorem nat_u64 {x : Int} (h : (Lit.int .u64 x).wf = true) : ∃ k : Nat, x = (k : Int) ∧ k < 18446744073709551616 := by
  have h6 : (0 : Int) ≤ x ∧ x ≤ 18446744073709551615 := by simpa [Lit.wf, IntKind.min, IntKind.max, IntKind.signed, IntKind.bits] using h
  exact ⟨x.toNat, by omega, by omega⟩
theorem int_i64 {x : Int} (h : (Lit.int .i64 x).wf = true) : -9223372036854775808 ≤ x ∧ x ≤ 9223372036854775807 := by
  simpa [Lit.wf, IntKind.min, IntKind.max, IntKind.signed, IntKind.bits] using h

theorem rjoin_is (w : World) (n k : Nat) (hn2 : 2 ≤ n) (hn : n ≤ 64) (R E : Int) (F : Nat) (B : Int) (hF : F < 18446744073709551616) (h : M.IsF n k R E F B) :
    Calls Tryd.prog 15 #[.int .i64 ((n : Int) + 1), fdv R E F B] w (Kt k true w) :=
  (rjoin_any w n hn2 hn R E F B hF).mono fun e w' ⟨k', t, h1, h2, _, h3, h4⟩ => by
    obtain ⟨rfl, rfl⟩ := h4 k h
    exact ⟨h1, h2⟩
theorem rjoin_none (w : World) (n : Nat) (hn2 : 2 ≤ n) (hn : n ≤ 64) (R E : Int) (F : Nat) (B : Int) (hF : F < 18446744073709551616) (h : ∀ k, ¬ M.IsF n k R E F B) :
    Calls Tryd.prog 15 #[.int .i64 ((n : Int) + 1), fdv R E F B] w (Ko w) :=
  (rjoin_any w n hn2 hn R E F B hF).mono fun e w' ⟨k', t, h1, h2, _, h3, h4⟩ => by
    cases t with
    | true => exact absurd (h3 rfl) (h k')
    | false => exact ⟨k', h1, h2⟩
theorem rkey_is (w : World) (n k : Nat) (hn2 : 2 ≤ n) (hn : n ≤ 64) (m0 m t : Nat) (e0 z : Int) (hm0 : m0 < 18446744073709551616) (hm : m0 = m * 2 ^ t) (he0 : -9223372036854775808 ≤ e0 ∧ e0 ≤ 9223372036854775807) (hz : e0 + t = z) (h : M.IsK n k m z) :
    Calls Tryd.prog 20 #[.int .i64 ((n : Int) + 1), u64 m0, .int .i64 e0] w (Kt k true w) :=
  (rkey_any w n hn2 hn m0 m t e0 hm0 (Lib.hid hm) h.1 he0 z (Lib.hid hz)).mono fun e w' ⟨k', t, h1, h2, h3, h4⟩ => by
    obtain ⟨rfl, rfl⟩ := h4 k h
    exact ⟨h1, h2⟩
theorem rkey_none (w : World) (n : Nat) (hn2 : 2 ≤ n) (hn : n ≤ 64) (m0 m t : Nat) (e0 z : Int) (hm0 : m0 < 18446744073709551616) (hm : m0 = m * 2 ^ t) (ho : m % 2 = 1) (he0 : -9223372036854775808 ≤ e0 ∧ e0 ≤ 9223372036854775807) (hz : e0 + t = z) (h : ∀ k, ¬ M.IsK n k m z) :
    Calls Tryd.prog 20 #[.int .i64 ((n : Int) + 1), u64 m0, .int .i64 e0] w (Ko w) :=
  (rkey_any w n hn2 hn m0 m t e0 hm0 (Lib.hid hm) ho he0 z (Lib.hid hz)).mono fun e w' ⟨k', t, h1, h2, h3, h4⟩ => by
    cases t with
    | true => exact absurd (h3 rfl) (h k')
    | false => exact ⟨k', h1, h2⟩
end Go.Proofs.YtngoglhjelcdgaaDoor
