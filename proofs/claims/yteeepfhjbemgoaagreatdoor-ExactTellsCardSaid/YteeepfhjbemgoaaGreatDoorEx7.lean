/-
  Boxes that are written; how numbers compare, over one base.
-/
import Derived.Test.YteeepfhjbemgoaaGreatDoorXshown
namespace Go.Proofs.YteeepfhjbemgoaaGreatDoor
open Go.RowKit Go.Shelf

theorem bx_n (n : Nat) (w' w : World) (neg : Bool) (v : Value) (t f : Int) (h : w'.heap.size = w.heap.size + n) : Bx (w'.alloc (.cells #[.bool neg, v, .int .i64 t, .int .i64 f] 40)) (w.heap.size + n) neg v t f := by
  have := Bx.mk_ w' neg v t f
  rwa [h] at this
theorem only4 (w : World) (b : Nat) (u0 u1 u2 u3 : Value) : w.grownBy (set4 w b u0 u1 u2 u3) (some b) :=
  only_setCell (only_setCell (only_setCell (only_setCell (World.grownBy.refl w _) 0 u0) 1 u1) 2 u2) 3 u3
theorem Bx.set4_same {w : World} {b : Nat} {neg neg' : Bool} {v v' : Value} {t f t' f' : Int} (h : Bx w b neg v t f) : Bx (set4 w b (.bool neg') v' (.int .i64 t') (.int .i64 f')) b neg' v' t' f' := by
  obtain ⟨⟨a0, a1, a2, a3⟩, b0, b1, b2, b3⟩ := h
  have e : ∀ (i j : Nat), i ≠ j → (⟨b, i, none⟩ : Addr) ≠ ⟨b, j, none⟩ := by
    intro i j hij e
    injection e with _ e _
    exact hij e
  refine ⟨⟨?_, ?_, ?_, ?_⟩, ?_, ?_, ?_, ?_⟩
  · rw [set4, World.cell?_setCell_other _ _ _ _ (e 3 0 (by omega)), World.cell?_setCell_other _ _ _ _ (e 2 0 (by omega)), World.cell?_setCell_other _ _ _ _ (e 1 0 (by omega))]
    exact World.cell?_setCell_same w _ _ a0
  · rw [set4, World.cell?_setCell_other _ _ _ _ (e 3 1 (by omega)), World.cell?_setCell_other _ _ _ _ (e 2 1 (by omega))]
    exact World.cell?_setCell_same _ _ _ (by rw [World.cell?_setCell_other _ _ _ _ (e 0 1 (by omega))]; exact a1)
  · rw [set4, World.cell?_setCell_other _ _ _ _ (e 3 2 (by omega))]
    exact World.cell?_setCell_same _ _ _ (by rw [World.cell?_setCell_other _ _ _ _ (e 1 2 (by omega)), World.cell?_setCell_other _ _ _ _ (e 0 2 (by omega))]; exact a2)
  · exact World.cell?_setCell_same _ _ _ (by rw [World.cell?_setCell_other _ _ _ _ (e 2 3 (by omega)), World.cell?_setCell_other _ _ _ _ (e 1 3 (by omega)), World.cell?_setCell_other _ _ _ _ (e 0 3 (by omega))]; exact a3)
  all_goals simp only [set4, World.frozen?_setCell]; assumption
theorem Bx.set4_other {w : World} {b b' : Nat} {neg : Bool} {v : Value} {t f : Int} (h : Bx w b' neg v t f) (hne : b' ≠ b) (u0 u1 u2 u3 : Value) : Bx (set4 w b u0 u1 u2 u3) b' neg v t f := h.grown (only4 w b u0 u1 u2 u3) hne

namespace M
/-- With its sign. -/
def so (neg : Bool) (n : Nat) : Int := if neg = true then -(n : Int) else n
theorem csg_so {neg neg' : Bool} {a b x y : Nat} (hx : x = 0 ↔ a = 0) (hy : y = 0 ↔ b = 0) : csg (sgn neg a) (sgn neg' b) (cmp x y) = icmp (so neg x) (so neg' y) := by
  have c1 : cmp x y = icmp x y := by
    unfold cmp icmp
    repeat' split
    all_goals omega
  rw [c1]
  unfold csg sgn so icmp
  by_cases ha : a = 0 <;> by_cases hb : b = 0 <;> rcases neg with _ | _ <;> rcases neg' with _ | _ <;> simp [ha, hb] at hx hy ⊢ <;> (repeat' split) <;> omega
theorem icmp_swap (x y : Int) : icmp y x = -icmp x y := by
  unfold icmp
  repeat' split
  all_goals omega
theorem icmp_rng (x y : Int) : -1 ≤ icmp x y ∧ icmp x y ≤ 1 := by
  unfold icmp
  repeat' split
  all_goals omega
theorem icmp_le {x y : Int} : icmp x y ≤ 0 ↔ x ≤ y := by
  unfold icmp
  repeat' split
  all_goals omega
theorem icmp_self (x : Int) : icmp x x = 0 := by simp [icmp]
theorem so_not (neg : Bool) (n : Nat) : so (!neg) n = -so neg n := by
  cases neg <;> simp [so]
theorem icmp_neg (x y : Int) : icmp (-x) (-y) = icmp y x := by
  unfold icmp
  repeat' split
  all_goals omega
end M
/-- CmpSigned, over a base. -/
theorem xcmps_ov (m : Int) (bm : -1000000 ≤ m ∧ m ≤ 900000) (w : World) (lo lo' s s' : Nat) (neg neg' : Bool) (v v' : Value) (t f t' f' : Int) (a b : Nat) (h : Nw w lo s v a) (h' : Nw w lo' s' v' b) (hs : s ≤ 1000000) (hs' : s' ≤ 1000000)
    (bt : m ≤ t ∧ t ≤ m + 10000) (bf : m ≤ f ∧ f ≤ m + 10000) (bt' : m ≤ t' ∧ t' ≤ m + 10000) (bf' : m ≤ f' ∧ f' ≤ m + 10000) (r : Int) (hr : Hid (M.icmp (M.so neg (M.ov a t f m)) (M.so neg' (M.ov b t' f' m)) = r)) :
    Calls Tryz.prog 54 #[xv neg v t f, xv neg' v' t' f'] w (Num r w) := by
  refine xcmps_any w lo lo' s s' neg neg' v v' t f t' f' a b h h' hs hs' (by omega) (by omega) (by omega) (by omega) (max 0 (min (t - t') 131072)).toNat (max 0 (min (f - f') 10000)).toNat (max 0 (min (-(t - t')) 131072)).toNat (max 0 (min (-(f - f')) 10000)).toNat
    (by show _ = _; omega) (by show _ = _; omega) (by show _ = _; omega) (by show _ = _; omega) (M.cmp (M.ov a t f m) (M.ov b t' f' m)) ?_ r ?_
  · exact M.cmp_ov (m := m) bt.1 bf.1 bt'.1 bf'.1 (by omega) (by omega) (by omega) (by omega) (by omega) (by omega) (by omega) (by omega)
  · rw [Hid, M.csg_so M.ov_zero M.ov_zero]
    exact hr.out
end Go.Proofs.YteeepfhjbemgoaaGreatDoor
