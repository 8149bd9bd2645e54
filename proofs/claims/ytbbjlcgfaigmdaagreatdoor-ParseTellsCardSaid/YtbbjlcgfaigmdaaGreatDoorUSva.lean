/-
  What a number that was told is bounded by (for ScanBounds).
-/
import Derived.Test.YtbbjlcgfaigmdaaGreatDoorUSq
import Derived.Test.YtbbjlcgfaigmdaaGreatDoorUSc
import Derived.Test.YtbbjlcgfaigmdaaGreatDoorUNa
import Derived.Lib.ConvBytes
namespace Go.Proofs.YtbbjlcgfaigmdaaGreatDoor
open Go.RowKit Go.Shelf
set_option linter.unusedVariables false
namespace M
theorem nx_isd (s c : Nat) (h : nx s c = 2 ∨ nx s c = 5) : 48 ≤ c ∧ c ≤ 57 := by
  by_cases hc : 48 ≤ c ∧ c ≤ 57
  · exact hc
  · exfalso
    have e : nx s c ≠ 2 ∧ nx s c ≠ 5 := by
      unfold nx
      simp only [hc, false_and, if_false]
      constructor <;> (repeat' split) <;> omega
    rcases h with h | h
    · exact e.1 h
    · exact e.2 h
theorem scf_wh : ∀ (r : List UInt8) (x y : Sc) (i : Nat), scf x i r = .ok y → wh y.st = true
  | [], x, y, i, h => by
    rw [scf] at h
    split at h
    · rename_i hw
      cases h; exact hw
    · cases h
  | c :: r, x, y, i, h => by
    rw [scf] at h
    split at h
    · cases h
    · exact scf_wh r _ y _ h
theorem scf_ds : ∀ (r : List UInt8) (x y : Sc) (i : Nat), scf x i r = .ok y → allD x.ds = true → allD y.ds = true
  | [], x, y, i, h, hd => by
    rw [scf] at h
    split at h
    · cases h; exact hd
    · cases h
  | c :: r, x, y, i, h, hd => by
    rw [scf] at h
    split at h
    · cases h
    · refine scf_ds r _ y _ h ?_
      show allD (if nx x.st c.toNat = 2 ∨ nx x.st c.toNat = 5 then x.ds ++ [c] else x.ds) = true
      split
      · rename_i hn
        have hc := nx_isd _ _ hn
        rw [allD, List.all_append]
        rw [allD] at hd
        simp [hd, isD, hc.1, hc.2]
      · exact hd
theorem itm_bounds (l : List UInt8) (y : Sc) (h : scan l = .ok y) :
    (itm y).neg = decide (l ≠ [] ∧ l.headD 0 = 45) ∧
    ((1 ≤ (itm y).kind ∧ (itm y).kind ≤ 4 ∧ (itm y).n.d = 0 ∧ (itm y).n.k = 0 ∧ (itm y).n.cut = false ∧ ((itm y).kind = 1 ∨ (itm y).n.big = 0)) ∨
     ((itm y).kind = 1 ∧ (itm y).n.big = 0 ∧ 0 < (itm y).n.d ∧ ∃ s : List UInt8, s ≠ [] ∧ Lib.decDigits (itm y).n.d = s ∧ s.length ≤ 1991 ∧ (s.length = 1991 ↔ (itm y).n.cut = true) ∧ s.getLast? ≠ some 48 ∧ (s.length : Int) + (itm y).n.k ≤ 1000 ∧ -1000 < (s.length : Int) + (itm y).n.k)) := by
  have hw := scf_wh l _ _ _ h
  have hds := scf_ds l _ _ _ h rfl
  have hng := scan_neg l y h
  unfold itm
  by_cases h10 : 10 ≤ y.st
  · rw [if_pos h10]
    refine ⟨hng, .inl ⟨by show 1 ≤ y.st / 10 + 1; omega, ?_, rfl, rfl, rfl, .inr rfl⟩⟩
    show y.st / 10 + 1 ≤ 4
    simp [wh] at hw
    omega
  · rw [if_neg h10]
    refine ⟨hng, ?_⟩
    rcases num_bounds y.ds (pwr y - y.bh) hds with ⟨a, b, c⟩ | ⟨a, b, s, s1, s2, s3, s4, s5, s6, s7, s8, s9⟩
    · exact .inl ⟨Nat.le_refl _, by show 1 ≤ 4; omega, a, b, c, .inl rfl⟩
    · exact .inr ⟨rfl, b, a, s, s1, by show Lib.decDigits (num y.ds (pwr y - y.bh)).d = s; rw [← s2]; exact dd_vsa _ s (Nat.le_refl _) s1 s3 (.inl s4), s5, s6, s7, s8, s9⟩
end M
end Go.Proofs.YtbbjlcgfaigmdaaGreatDoor
/-
  Layer 9's laws: same, number: their contracts.
-/
namespace Go.Proofs.YtbbjlcgfaigmdaaGreatDoor
open Go.RowKit Go.Shelf

/-- A whole number, as text. -/
def M.nt (z : Int) : List UInt8 := (if z < 0 then [45] else []) ++ Lib.decDigits z.natAbs
end Go.Proofs.YtbbjlcgfaigmdaaGreatDoor
/-
  Layer 9's laws: of: its contract; bytes of a text.
-/
namespace Go.Proofs.YtbbjlcgfaigmdaaGreatDoor
open Go.RowKit Go.Shelf
set_option linter.unusedVariables false

/-- An item is told. -/
def Ofi (r : M.It) (w : World) (e : Ending) (w' : World) : Prop := ∃ v, e = .returned (itv (r.kind : Int) r.neg v r.n.k r.n.big r.n.cut) ∧ Nt w' w.heap.size 2001 v r.n.d ∧ Up w w'
theorem conv_str (w : World) (s : ByteArray) (l : List UInt8) (hl : s.data.toList = l) (_hs : s.size ≤ 100000000) :
    ∃ c W, (convert 9 52 (.string s)).run Tryz.prog w = .ok (.slice (some ⟨w.heap.size, 0, none⟩) s.size c) W ∧ Sb W (some ⟨w.heap.size, 0, none⟩) s.size c l ∧ Up w W := by
  refine ⟨grownCap w s.size 0 5, Lib.bytesWorld w 5 s, Lib.run_convert_string_bytes w 9 52 5 s Tryz.underlying9 Tryz.underlying52 Tryz.underlying5, ?_, ?_⟩
  · refine ⟨by rw [← hl]; exact Array.length_toList, grownCap_ge w _ 0 5, (fun e => by cases e), fun ad e j hj => ?_⟩
    cases e
    rw [Addr.add_lit, Nat.zero_add, Lib.bytesWorld_cell w 5 s j hj, hl]
  · exact ⟨rfl, rfl, rfl, by show w.heap.size ≤ _; rw [Lib.bytesWorld_size]; omega, fun k hk => Lib.bytesWorld_at_old w 5 s k hk⟩
end Go.Proofs.YtbbjlcgfaigmdaaGreatDoor
/-
  Layer 9's laws: what is told of literals.
-/
namespace Go.Proofs.YtbbjlcgfaigmdaaGreatDoor
open Go.RowKit Go.Shelf
set_option linter.unusedVariables false

def Scv (K : Int) (ng : Bool) (d : Nat) (k bg : Int) (ct : Bool) (i er : Int) (w : World) (e : Ending) (w' : World) : Prop := ∃ A n c xs, e = .returned (.tuple #[itv K ng (.slice A n c) k bg ct, .int .i64 i, .int .i64 er]) ∧ Wd w' w.heap.size A n c xs ∧ M.val xs = d ∧ n ≤ 2001 ∧ M.Nrm xs ∧ Up w w'
theorem scan_val (w : World) (EW : Hid (ErrW w)) (A : Option Addr) (n c : Nat) (l : List UInt8) (hS : Sb w A n c l) (hn : n ≤ 100000000) (r : M.It) (i : Nat) (er : Int) (hr : Hid (M.rs l = (r, i, er)))
    (K : Int) (ng : Bool) (d : Nat) (k bg : Int) (ct : Bool) (I : Int) (e1 : (r.kind : Int) = K) (e2 : r.neg = ng) (e3 : r.n = ⟨d, k, bg, ct⟩) (e4 : (i : Int) = I) : Calls Tryz.prog 23 #[.slice A n c] w (Scv K ng d k bg ct I er w) := by
  refine (scan_any w EW A n c l hS hn r i er hr).mono ?_
  rintro e w' ⟨v, rfl, ⟨A, n, c, xs, rfl, h1, h2, h3, h4⟩, u⟩
  refine ⟨A, n, c, xs, by rw [e1, e2, e3, e4], h1, by rw [h2, e3], h3, h4, u⟩
theorem wd_nt {w : World} {lo n c d : Nat} {A : Option Addr} {xs : List Nat} (h1 : Wd w lo A n c xs) (h2 : M.val xs = d) (h3 : n ≤ 2001) (h4 : M.Nrm xs) : Nt w lo 2001 (.slice A n c) d := ⟨A, n, c, xs, rfl, h1, h2, h3, h4⟩
end Go.Proofs.YtbbjlcgfaigmdaaGreatDoor
/-
  What the texts of ScanCase and ScanSame say; digits out of bytes. No program's walk is here.
-/
namespace Go.Proofs.YtbbjlcgfaigmdaaGreatDoor
open Go.RowKit Go.Shelf
set_option linter.unusedVariables false

namespace M
def dg (c : UInt8) : UInt8 := UInt8.ofNat (48 + c.toNat % 10)
/-! ScanCase. -/
/-! ScanSame. -/
end M
end Go.Proofs.YtbbjlcgfaigmdaaGreatDoor
