/-
  Where no text goes on: the endings (for ScanPlace), in numbers and in memory.
-/
import Derived.Test.YtpmpdecaadfnmaaDoorSx4
namespace Go.Proofs.YtpmpdecaadfnmaaDoor
open Go.RowKit Go.Shelf
set_option linter.unusedVariables false

namespace M
/-- Does one of the first i endings make a text of it? -/
def anyOk (p : List UInt8) : Nat → Bool
  | 0 => false
  | i + 1 => anyOk p i || isOk (scan (p ++ endings.getD i []))
theorem anyOk_of (p : List UInt8) (q : Nat) (h : isOk (scan (p ++ endings.getD q [])) = true) : ∀ i, q < i → anyOk p i = true
  | 0, h0 => absurd h0 (Nat.not_lt_zero _)
  | i + 1, h0 => by
    rw [anyOk]
    rcases Nat.eq_or_lt_of_le (Nat.le_of_lt_succ h0) with e | e
    · rw [← e, h, Bool.or_true]
    · rw [anyOk_of p q h i e, Bool.true_or]
theorem rs_isOk (l : List UInt8) : (isOk (scan l) = true ∧ ∃ r, rs l = (r, 0, 0)) ∨ (isOk (scan l) = false ∧ ∃ i, rs l = (⟨0, false, ⟨0, 0, 0, false⟩⟩, i, 2)) := by
  cases h : scan l with
  | error i => exact .inr ⟨rfl, i, rs_error h⟩
  | ok x => exact .inl ⟨rfl, _, rs_ok h⟩
theorem place (l : List UInt8) (n : Nat) (h : scan l = .error n) : n ≤ l.length ∧ anyOk (l.take n) 9 = true ∧ (n < l.length → ∀ e, rs (l.take (n + 1) ++ e) = (⟨0, false, ⟨0, 0, 0, false⟩⟩, n, 2)) := by
  obtain ⟨h1, ⟨q, hq, h2⟩, h3⟩ := scan_place l n h
  exact ⟨h1, anyOk_of _ q h2 9 hq, fun hn e => rs_error (h3 hn e)⟩
theorem endings_len (i : Nat) : (endings.getD i []).length ≤ 3 := by
  rcases Nat.lt_or_ge i 9 with h | h
  · have key : i = 0 ∨ i = 1 ∨ i = 2 ∨ i = 3 ∨ i = 4 ∨ i = 5 ∨ i = 6 ∨ i = 7 ∨ i = 8 := by omega
    rcases key with rfl | rfl | rfl | rfl | rfl | rfl | rfl | rfl | rfl <;> decide
  · have : endings.getD i [] = [] := by
      rw [List.getD_eq_getElem?_getD, List.getElem?_eq_none (by simpa [endings] using h)]
      rfl
    rw [this]; simp
end M
/-- The table of endings lies in a block. -/
def Ends (w : World) (g : Nat) : Prop := Ob w g 9 #[.string ⟨#[]⟩, .string ⟨#[48]⟩, .string ⟨#[110, 102]⟩, .string ⟨#[102]⟩, .string ⟨#[105, 110, 102]⟩, .string ⟨#[97, 110]⟩, .string ⟨#[110]⟩, .string ⟨#[97, 82]⟩, .string ⟨#[82]⟩]
theorem Ends.at_ {w : World} {g : Nat} (h : Ends w g) (i : Nat) (hi : i < 9) : ∃ s : ByteArray, w.cell? ⟨g, i, none⟩ = some (.string s) ∧ s.data.toList = M.endings.getD i [] := by
  have key : i = 0 ∨ i = 1 ∨ i = 2 ∨ i = 3 ∨ i = 4 ∨ i = 5 ∨ i = 6 ∨ i = 7 ∨ i = 8 := by omega
  rcases key with rfl | rfl | rfl | rfl | rfl | rfl | rfl | rfl | rfl <;> exact ⟨_, Ob.get h _, rfl⟩
end Go.Proofs.YtpmpdecaadfnmaaDoor
