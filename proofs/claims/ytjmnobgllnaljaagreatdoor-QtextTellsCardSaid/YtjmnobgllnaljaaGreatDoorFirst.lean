/-
  What each law shows first.
-/
import Derived.Test.YtjmnobgllnaljaaGreatDoorNb
import Derived.Test.YtjmnobgllnaljaaGreatDoorNa
namespace Go.Proofs.YtjmnobgllnaljaaGreatDoor
open Go.RowKit Go.Shelf

/-- What few comes to: some number of at most so many words. -/
def Few (s : Nat) (w : World) (e : Ending) (w' : World) : Prop := ∃ v a, e = .returned v ∧ Nw w' w.heap.size s v a ∧ Up w w'

end Go.Proofs.YtjmnobgllnaljaaGreatDoor
namespace Go.Proofs.YtjmnobgllnaljaaGreatDoor
open Go.RowKit Go.Shelf

theorem dd_big : (⟨(Lib.decDigits 18446744073709551616).toArray⟩ : ByteArray) = ⟨#[49, 56, 52, 52, 54, 55, 52, 52, 48, 55, 51, 55, 48, 57, 53, 53, 49, 54, 49, 54]⟩ := by simp [Lib.decDigits]
theorem dd_5 : (⟨(Lib.decDigits 5).toArray⟩ : ByteArray) = ⟨#[53]⟩ := by simp [Lib.decDigits]
theorem dd_0 : (⟨(Lib.decDigits 0).toArray⟩ : ByteArray) = ⟨#[48]⟩ := by simp [Lib.decDigits]
theorem dd_q : (⟨(Lib.decDigits (55340232221128654855 / 10)).toArray⟩ : ByteArray) = ⟨#[53, 53, 51, 52, 48, 50, 51, 50, 50, 50, 49, 49, 50, 56, 54, 53, 52, 56, 53]⟩ := by simp [Lib.decDigits]
theorem dd_r : (⟨(Lib.decDigits (55340232221128654855 % 10)).toArray⟩ : ByteArray) = ⟨#[53]⟩ := by simp [Lib.decDigits]
theorem dd_p : (⟨(Lib.decDigits 100000000000000000000).toArray⟩ : ByteArray) = ⟨#[49, 48, 48, 48, 48, 48, 48, 48, 48, 48, 48, 48, 48, 48, 48, 48, 48, 48, 48, 48, 48]⟩ := by simp [Lib.decDigits]

section
variable (w : World) (lo lo' s s' : Nat) (v v' : Value)
theorem subl (h : Nw w lo s v 1) (h' : Nw w lo' s' v' 18446744073709551616) : Calls Tryz.prog 46 #[v, v'] w (Opt s 0 false w) := sub_any w lo lo' s s' v v' 1 18446744073709551616 h h'
theorem cmp_eq1 (h : Nw w lo s v 18446744073709551616) (h' : Nw w lo' s' v' 18446744073709551616) : Calls Tryz.prog 15 #[v, v'] w (Val (.int .i64 0) w) := cmp_any w lo lo' s s' v v' 18446744073709551616 18446744073709551616 h h'
theorem bits1 (h : Nw w lo s v 18446744073709551616) : Calls Tryz.prog 17 #[v] w (Same (.int .i64 65) w) := by
  have := bits_any w lo s v 18446744073709551616 h
  rw [show M.bits 18446744073709551616 = 65 from M.bits_of (b := 64) (by omega) (by omega)] at this
  exact this
theorem pow20 : Calls Tryz.prog 74 #[.int .u64 10, .int .i64 20] w (Res 21 100000000000000000000 w) := pow_any w 10 20 20 (by omega) (by omega)
end
/-- An empty answer. -/
def Zero (w : World) (e : Ending) (w' : World) : Prop := ∃ A c, e = .returned (.slice A 0 c) ∧ Up w w'
theorem of_zero (w : World) : Calls Tryz.prog 91 #[.int .u64 0] w (Zero w) := by
  refine (of_lit w 0 0 rfl (by omega)).mono ?_
  rintro e w' ⟨v, rfl, ⟨A, n, c, xs, rfl, h1, h2, h3, h4⟩, hu⟩
  have : xs = [] := M.val_zero h4 h2
  have hn := h1.num
  rw [this] at hn
  simp at hn
  subst hn
  exact ⟨A, c, rfl, hu⟩
theorem parse1 (w : World) (hEW : ErrW w) : Calls Tryz.prog 103 #[.string ⟨#[49, 56, 52, 52, 54, 55, 52, 52, 48, 55, 51, 55, 48, 57, 53, 53, 49, 54, 49, 54]⟩] w (Opt 2001 18446744073709551616 true w) := by
  refine (parse_any w _ [49, 56, 52, 52, 54, 55, 52, 52, 48, 55, 51, 55, 48, 57, 53, 53, 49, 54, 49, 54] rfl (by simp) (by simp) (.inl (by decide)) hEW).mono ?_
  intro e w' h
  exact h
theorem parse2 (w : World) : Calls Tryz.prog 103 #[.string ⟨#[48, 49]⟩] w (Opt 2001 0 false w) :=
  parse_bad w _ [48, 49] rfl (.inr (.inr ⟨rfl, by simp⟩))

/-- What shown comes to. -/
def True_ (w : World) (e : Ending) (w' : World) : Prop := e = .returned (.bool true) ∧ Up w w'

end Go.Proofs.YtjmnobgllnaljaaGreatDoor
