/-
  nat.divideLong: its contract; nat.Div of any two numbers.
-/
import Derived.Test.YtkhnobogaiaogaaGreatDoorTake
import Derived.Test.YtkhnobogaiaogaaGreatDoorShr
import Derived.Test.YtkhnobogaiaogaaGreatDoorNb
import Derived.Deep.DeepCutAuto
namespace Go.Proofs.YtkhnobogaiaogaaGreatDoor
open Go.RowKit Go.Shelf

theorem Ow.low {w : World} {base base' : Nat} {v : Value} {n : Nat} {xs : List Nat} (h : Ow w base v n xs) (hb : base' ≤ base) : Ow w base' v n xs := by
  obtain ⟨h1, h2⟩ := h
  refine ⟨h1, ?_⟩
  rcases h2 with h2 | ⟨g, cap, cur, e, k1, k2⟩
  · exact .inl h2
  · exact .inr ⟨g, cap, cur, e, Nat.le_trans hb k1, k2⟩
/-- What the two shifted rows are. -/
def Two (w : World) (n n' a b : Nat) (r d : Value) (wx : World) : Prop :=
  ∃ (g g' : Nat) (zs bs : List Nat), r = .slice (some ⟨g, 0, none⟩) (n + 1 : Nat) (n + 1) ∧ d = .slice (some ⟨g', 0, none⟩) n' (n' + 1) ∧ w.heap.size ≤ g ∧ g ≠ g' ∧ Ow wx w.heap.size (.slice (some ⟨g, 0, none⟩) (n + 1) (n + 1)) (n + 1) zs ∧ M.Wds zs ∧ M.val zs = a ∧
    Wd wx w.heap.size (some ⟨g', 0, none⟩) n' (n' + 1) bs ∧ M.val bs = b ∧ Up w wx

theorem two_mk {w wa wb wx : World} {n n' a b g g' : Nat} {zs bs : List Nat} (hua : Up w wa) (hub : Up w wb) (hga : wa.heap.size ≤ g) (hne : g ≠ g')
    (h1 : Ow wx wa.heap.size (.slice (some ⟨g, 0, none⟩) (n + 1) (n + 1)) (n + 1) zs) (h2 : M.Wds zs) (h3 : M.val zs = a)
    (k1 : Ow wx wb.heap.size (.slice (some ⟨g', 0, none⟩) (n' + 1) (n' + 1)) (n' + 1) bs) (k2 : M.Wds bs) (k3 : M.val bs = b) (hb : b < 18446744073709551616 ^ n') (hn' : n' ≤ 1000000000) (hu : Up w wx) :
    Two w n n' a b (.slice (some ⟨g, 0, none⟩) (n + 1 : Nat) (n + 1)) (.slice (some ⟨g', 0, none⟩) n' (n' + 1)) wx := by
  have hl := k1.num
  have hd := (Ow.wd_ k1 k2 (by omega)).take (show n' ≤ n' + 1 by omega)
  have hv : M.val (bs.take n') = b := by rw [M.val_take_small (by omega) (by rw [k3]; exact hb)]; exact k3
  have h1' : Ow wx w.heap.size (.slice (some ⟨g, 0, none⟩) (n + 1) (n + 1)) (n + 1) zs := h1.low (Up.size hua)
  exact ⟨g, g', zs, bs.take n', rfl, rfl, Nat.le_trans (Up.size hua) hga, hne, h1', h2, h3, hd.lower (Up.size hub), hv, hu⟩

end Go.Proofs.YtkhnobogaiaogaaGreatDoor
