/-
  Texts as lists of bytes: joined, cut, one byte of them; one digit as text.
-/
import Derived.Test.YtjmnobgllnaljaaGreatDoorNb
import Derived.Test.YtjmnobgllnaljaaGreatDoorHn
namespace Go.Proofs.YtjmnobgllnaljaaGreatDoor
open Go.RowKit Go.Shelf
set_option linter.unusedVariables false

/-- The text s has the bytes l. -/
def Tx (s : ByteArray) (l : List UInt8) : Prop := s.data.toList = l
theorem Tx.size {s : ByteArray} {l : List UInt8} (h : Tx s l) : s.size = l.length := by
  rw [← show s.data.toList = l from h]
  exact (Array.length_toList).symm
theorem Tx.uniq {s t : ByteArray} {l : List UInt8} (h : Tx s l) (k : Tx t l) : s = t := by
  apply ByteArray.ext
  apply Array.toList_inj.1
  exact (show s.data.toList = l from h).trans (show t.data.toList = l from k).symm
theorem Tx.get {s : ByteArray} {l : List UInt8} (h : Tx s l) (k : Nat) (hk : k < s.size) : s[k] = l.getD k 0 := by
  have hl : k < l.length := by rw [← h.size]; exact hk
  have e : s.data.toList = l := h
  subst e
  rw [List.getD_eq_getElem?_getD, List.getElem?_eq_getElem hl]
  rfl
theorem Tx.cat {s t : ByteArray} {l m : List UInt8} (h : Tx s l) (k : Tx t m) : Tx (s ++ t) (l ++ m) := by
  show (s ++ t).data.toList = _
  rw [ByteArray.data_append, Array.toList_append, show s.data.toList = l from h, show t.data.toList = m from k]
theorem Tx.ext {s : ByteArray} {l : List UInt8} (h : Tx s l) (i j : Nat) : Tx (s.extract i j) ((l.drop i).take (j - i)) := by
  show (s.extract i j).data.toList = _
  rw [ByteArray.data_extract, Array.toList_extract, show s.data.toList = l from h]
theorem Tx.lit (l : List UInt8) : Tx ⟨l.toArray⟩ l := rfl
theorem tx_ex (l : List UInt8) : ∃ s, Tx s l := ⟨_, Tx.lit l⟩
/-- What a call of a text comes to. -/
def Tex (l : List UInt8) (w : World) (e : Ending) (w' : World) : Prop := ∃ s, e = .returned (.string s) ∧ Tx s l ∧ Up w w'
theorem M.nd_lt : ∀ (k u : Nat), u < 10 ^ (k + 1) → Lib.nDigits u ≤ k + 1 := by
  intro k
  induction k with
  | zero => intro u h; rw [Lib.nDigits_small (by simpa using h)]; exact Nat.le_refl _
  | succ k ih =>
    intro u h
    by_cases h10 : u < 10
    · rw [Lib.nDigits_small h10]; omega
    · rw [Lib.nDigits_big h10]
      have := ih (u / 10) (by rw [Nat.pow_succ] at h; omega)
      omega
theorem M.dd_len7 (n : Nat) (h : n ≤ 1000000) : (Lib.decDigits n).length ≤ 7 := by
  rw [Lib.decDigits_length]
  exact M.nd_lt 6 n (by omega)
/-- One digit as text. -/
theorem one_dig (w : World) (r : Nat) (hr : r < 10) : (convert 67 9 (.slice (some ⟨w.heap.size, 0, none⟩) 1 1)).run Tryz.prog (w.alloc (.cells #[.int .u8 (48 + (r : Int))] 5)) = .ok (.string ⟨(Lib.decDigits r).toArray⟩) (w.alloc (.cells #[.int .u8 (48 + (r : Int))] 5)) := by
  have e : ((UInt8.ofNat (48 + r)).toNat : Int) = 48 + (r : Int) := by rw [M.ofNat_toNat (by omega)]; omega
  have h : By (w.alloc (.cells #[.int .u8 (48 + (r : Int))] 5)) w.heap.size (.slice (some ⟨w.heap.size, 0, none⟩) 1 1) [UInt8.ofNat (48 + r)] := by
    have k : (w.alloc (.cells #[.int .u8 (48 + (r : Int))] 5)).ownsRow w.heap.size 5 1 (.slice (some ⟨w.heap.size, 0, none⟩) 1 1) 1 [.int .u8 (48 + (r : Int))] := World.ownsRow_lit w #[.int .u8 (48 + (r : Int))] 1 (Nat.le_refl _) (by simp only [maxLen]; omega) rfl
    have e2 : Lib.byteCells [UInt8.ofNat (48 + r)] = [.int .u8 (48 + (r : Int))] := by
      show [Value.int .u8 ((UInt8.ofNat (48 + r)).toNat : Int)] = _
      rw [e]
    unfold By
    rw [e2]
    exact k
  have := conv_bytes h (by simp)
  rw [Lib.decDigits_one hr]
  exact this
end Go.Proofs.YtjmnobgllnaljaaGreatDoor
