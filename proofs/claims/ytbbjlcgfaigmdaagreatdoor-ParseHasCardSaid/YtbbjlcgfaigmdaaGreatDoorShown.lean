/-
  few; what each law shows first.
-/
import Derived.Test.YtbbjlcgfaigmdaaGreatDoorParse
import Derived.Test.YtbbjlcgfaigmdaaGreatDoorSub
import Derived.Test.YtbbjlcgfaigmdaaGreatDoorNa
namespace Go.Proofs.YtbbjlcgfaigmdaaGreatDoor
open Go.RowKit Go.Shelf

namespace M
theorem pv_ge {ps : List Nat} (h : ps ≠ []) (hl : ps.getLast? ≠ some 0) : 10000000000000000000 ^ (ps.length - 1) ≤ pv ps := by
  obtain ⟨b, x, rfl⟩ : ∃ b x, ps = b ++ [x] := ⟨ps.dropLast, ps.getLast h, (List.dropLast_concat_getLast h).symm⟩
  have hx : 0 < x := by
    rw [List.getLast?_concat] at hl
    exact Nat.pos_of_ne_zero (fun e => hl (by rw [e]))
  rw [pv_append]
  simp only [pv, Nat.mul_zero, Nat.add_zero, List.length_append, List.length_singleton, Nat.add_sub_cancel]
  calc 10000000000000000000 ^ b.length = 10000000000000000000 ^ b.length * 1 := (Nat.mul_one _).symm
    _ ≤ 10000000000000000000 ^ b.length * x := Nat.mul_le_mul_left _ hx
    _ ≤ _ := Nat.le_add_left _ _
theorem PInv.len {a r s : Nat} {ps : List Nat} (h : PInv a ps r) (ha : a < 18446744073709551616 ^ s) : ps.length ≤ 2 * s := by
  have h1 : (18446744073709551616 : Nat) ^ s ≤ 10000000000000000000 ^ (2 * s) := by
    rw [Nat.pow_mul]
    exact Nat.pow_le_pow_left (by omega) _
  rcases Nat.lt_or_ge (2 * s) ps.length with h2 | h2
  · exfalso
    have h3 : 10000000000000000000 ^ (ps.length - 1) ≤ a := by
      rw [h.eq]
      rcases Nat.eq_zero_or_pos r with h0 | h0
      · have := pv_ge (by intro e; rw [e] at h2; simp at h2) (h.last h0)
        omega
      · have h4 : 10000000000000000000 ^ ps.length * 1 ≤ 10000000000000000000 ^ ps.length * r := Nat.mul_le_mul_left _ h0
        have h5 : 10000000000000000000 ^ (ps.length - 1) ≤ 10000000000000000000 ^ ps.length := Nat.pow_le_pow_right (by omega) (by omega)
        omega
    have h6 : 10000000000000000000 ^ (2 * s) ≤ 10000000000000000000 ^ (ps.length - 1) := Nat.pow_le_pow_right (by omega) (by omega)
    omega
  · exact h2
end M

theorem Nw.lt {w : World} {lo s : Nat} {v : Value} {a : Nat} (h : Nw w lo s v a) : a < 18446744073709551616 ^ s := by
  obtain ⟨A, n, c, xs, _, h1, h2, h3⟩ := h
  have h4 := M.val_lt h1.wds
  rw [h2, h1.num] at h4
  exact Nat.lt_of_lt_of_le h4 (Nat.pow_le_pow_right (by omega) h3)
/-- Text, of a number of not too many words. -/
theorem text_of (w : World) (lo s : Nat) (v : Value) (a : Nat) (h : Nw w lo s v a) (hs : s ≤ 100000000) (htab : TabW w) (S : ByteArray) (hS : (⟨(Lib.decDigits a).toArray⟩ : ByteArray) = S) :
    Calls Tryz.prog 20 #[v] w (Str S w) := by
  have := text_any w lo s v a h (fun ps r hp => by have := hp.len h.lt; omega) htab
  rw [hS] at this
  exact this

theorem lit1 (w : World) (x : Nat) (X : Int) (hX : X = (x : Int)) (hx : x < 18446744073709551616) :
    Nw (w.alloc (.cells #[.int .u64 X] 23)) w.heap.size 1 (.slice (some ⟨w.heap.size, 0, none⟩) 1 1) x := by
  subst hX
  have hown : Ow (w.alloc (.cells #[u64 x] 23)) w.heap.size (.slice (some ⟨w.heap.size, 0, none⟩) 1 1) 1 [x] := World.ownsRow_lit w #[u64 x] 1 (Nat.le_refl _) (by simp only [maxLen]; omega) rfl
  have := Ow.nw hown (M.Wds.cons hx M.Wds.nil) (by omega)
  rwa [show M.val [x] = x from by simp [M.val]] at this
theorem lit2 (w : World) (x y a : Nat) (X Y : Int) (hX : X = (x : Int)) (hY : Y = (y : Int)) (hx : x < 18446744073709551616) (hy : y < 18446744073709551616) (ha : x + 18446744073709551616 * y = a) :
    Nw (w.alloc (.cells #[.int .u64 X, .int .u64 Y] 23)) w.heap.size 2 (.slice (some ⟨w.heap.size, 0, none⟩) 2 2) a := by
  subst hX hY ha
  have hown : Ow (w.alloc (.cells #[u64 x, u64 y] 23)) w.heap.size (.slice (some ⟨w.heap.size, 0, none⟩) 2 2) 2 [x, y] := World.ownsRow_lit w #[u64 x, u64 y] 2 (Nat.le_refl _) (by simp only [maxLen]; omega) rfl
  have := Ow.nw hown (M.Wds.cons hx (M.Wds.cons hy M.Wds.nil)) (by omega)
  rwa [show M.val [x, y] = x + 18446744073709551616 * y from by simp [M.val]] at this
theorem of_lit (w : World) (x : Nat) (X : Int) (hX : X = (x : Int)) (hx : x < 18446744073709551616) : Calls Tryz.prog 40 #[.int .u64 X] w (Res 1 x w) := by
  subst hX; exact of_any w x hx
end Go.Proofs.YtbbjlcgfaigmdaaGreatDoor
