/-
  Where a word's bits end.
-/
import Derived.Test.YtjcbncfpcechnaaDoorMem
import Derived.Test.YtjcbncfpcechnaaDoorPm
import Derived.Test.YtjcbncfpcechnaaDoorShelf
import Derived.Lib.Hide
namespace Go.Proofs.YtjcbncfpcechnaaDoor
open Go.RowKit Go.Shelf

theorem M.bitLen_eq : ∀ (n x : Nat), x ≤ n → x < 18446744073709551616 → Lib.bitLen x = M.bits x := by
  intro n
  induction n with
  | zero =>
    intro x hx _
    obtain rfl : x = 0 := by omega
    rfl
  | succ n ih =>
    intro x hx hb
    by_cases h0 : x = 0
    · subst h0; rfl
    · rw [Lib.bitLen_half x h0 hb, M.bits_half h0, ih (x / 2) (by omega) (by omega)]
theorem len64_any (x : Nat) (hx : x < 18446744073709551616) (w : World) : Calls Tryd.prog 86 #[u64 x] w (Same (.int .i64 (M.bits x : Int)) w) :=
  (Tryd.bits_Len64 x w (by omega) (by omega)).mono fun _ _ ⟨h, k⟩ => ⟨by rw [← M.bitLen_eq x x (Nat.le_refl _) hx]; simpa using h, k.symm⟩
theorem lead64_any (x : Nat) (hx : x < 18446744073709551616) (w : World) : Calls Tryd.prog 85 #[u64 x] w (Same (.int .i64 (64 - (M.bits x : Int))) w) :=
  (Tryd.bits_LeadingZeros64 x w (by omega) (by omega)).mono fun _ _ ⟨h, k⟩ => ⟨by rw [← M.bitLen_eq x x (Nat.le_refl _) hx]; simpa using h, k.symm⟩
end Go.Proofs.YtjcbncfpcechnaaDoor
