/-
  The laws of layer 6: what is asked of package mini; what each shows first; MiniTells, MiniDoubles.
-/
import Derived.Test.YtjcbncfpcechnaaDoorMr
import Derived.Test.YtjcbncfpcechnaaDoorTz
namespace Go.Proofs.YtjcbncfpcechnaaDoor
open Go.RowKit

def S3 (f m : Nat) (x : Int) (w : World) (e : Ending) (w' : World) : Prop := e = .returned (.tuple #[u64 f, u64 m, .int .i64 x]) ∧ Up w w'
def Vn6 (m : Nat) (z x : Int) (w : World) (e : Ending) (w' : World) : Prop := e = .returned (.tuple #[u64 m, .int .i64 z, .int .i64 x]) ∧ Up w w'
def Kn6 (k : Nat) (x : Int) (w : World) (e : Ending) (w' : World) : Prop := e = .returned (.tuple #[u64 k, .int .i64 x]) ∧ Up w w'
def True6 (w : World) (e : Ending) (w' : World) : Prop := e = .returned (.bool true) ∧ Up w w'
theorem bad_all {man b : Int} {k : Nat} (h : bad6 man 0 k) : bad6 man b k := by
  rcases h with h | h | h | h | h
  · exact .inl h
  · exact .inr (.inl h)
  · omega
  · omega
  · exact .inr (.inr (.inr (.inr h)))
theorem nat_u6 {x : Int} (h : (Lit.int .u64 x).wf = true) : ∃ k : Nat, x = (k : Int) ∧ k < 18446744073709551616 := by
  have h6 : (0 : Int) ≤ x ∧ x ≤ 18446744073709551615 := by simpa [Lit.wf, IntKind.min, IntKind.max, IntKind.signed, IntKind.bits] using h
  exact ⟨x.toNat, by omega, by omega⟩
namespace M
theorem ism56 : IsM 3 7 56 1 0 := .inr ⟨by decide, 3, by decide, by decide⟩
theorem ism1 : IsM 3 7 1 1 (-9) := .inr ⟨by decide, 0, by decide, by decide⟩
theorem ism126 : IsM 3 7 126 7 6 := .inr ⟨by decide, 1, by decide, by decide⟩
theorem ism17 : ∀ k, mok 3 7 k → ¬ IsM 3 7 k 17 0 := fun k _ h => by
  have hl := mX_lt 3 k
  rcases h with ⟨_, h2, _⟩ | ⟨_, t, h2, _⟩
  · omega
  · have p := p2 t
    have : 17 ≤ 17 * 2 ^ t := Nat.le_mul_of_pos_right _ p
    have : (2 : Nat) ^ 3 = 8 := by decide
    omega
end M
end Go.Proofs.YtjcbncfpcechnaaDoor
