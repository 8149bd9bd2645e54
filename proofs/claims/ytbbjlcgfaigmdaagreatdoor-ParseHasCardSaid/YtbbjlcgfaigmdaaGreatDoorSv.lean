/-
  Layer 9's laws: what is told of literals.
-/
import Derived.Test.YtbbjlcgfaigmdaaGreatDoorSr
namespace Go.Proofs.YtbbjlcgfaigmdaaGreatDoor
open Go.RowKit Go.Shelf
set_option linter.unusedVariables false

/-- An item with all its fields as letters. -/
def Ofv (K : Int) (ng : Bool) (d : Nat) (k bg : Int) (ct : Bool) (w : World) (e : Ending) (w' : World) : Prop := ∃ A n c xs, e = .returned (itv K ng (.slice A n c) k bg ct) ∧ Wd w' w.heap.size A n c xs ∧ M.val xs = d ∧ n ≤ 2001 ∧ M.Nrm xs ∧ Up w w'
def Scv (K : Int) (ng : Bool) (d : Nat) (k bg : Int) (ct : Bool) (i er : Int) (w : World) (e : Ending) (w' : World) : Prop := ∃ A n c xs, e = .returned (.tuple #[itv K ng (.slice A n c) k bg ct, .int .i64 i, .int .i64 er]) ∧ Wd w' w.heap.size A n c xs ∧ M.val xs = d ∧ n ≤ 2001 ∧ M.Nrm xs ∧ Up w w'
theorem scan_val (w : World) (EW : Hid (ErrW w)) (A : Option Addr) (n c : Nat) (l : List UInt8) (hS : Sb w A n c l) (hn : n ≤ 100000000) (r : M.It) (i : Nat) (er : Int) (hr : Hid (M.rs l = (r, i, er)))
    (K : Int) (ng : Bool) (d : Nat) (k bg : Int) (ct : Bool) (I : Int) (e1 : (r.kind : Int) = K) (e2 : r.neg = ng) (e3 : r.n = ⟨d, k, bg, ct⟩) (e4 : (i : Int) = I) : Calls Tryz.prog 23 #[.slice A n c] w (Scv K ng d k bg ct I er w) := by
  refine (scan_any w EW A n c l hS hn r i er hr).mono ?_
  rintro e w' ⟨v, rfl, ⟨A, n, c, xs, rfl, h1, h2, h3, h4⟩, u⟩
  refine ⟨A, n, c, xs, by rw [e1, e2, e3, e4], h1, by rw [h2, e3], h3, h4, u⟩
theorem wd_nt {w : World} {lo n c d : Nat} {A : Option Addr} {xs : List Nat} (h1 : Wd w lo A n c xs) (h2 : M.val xs = d) (h3 : n ≤ 2001) (h4 : M.Nrm xs) : Nt w lo 2001 (.slice A n c) d := ⟨A, n, c, xs, rfl, h1, h2, h3, h4⟩
/-- A literal's bytes. -/
theorem sb_lit (w : World) (cs : Array Value) (m : Nat × Nat) (bs : List UInt8) (n : Nat) (hn : bs.length = n) (h : cs.toList = bs.map fun c => .int .u8 (c.toNat : Int)) : Sb (w.alloc (.cells cs 5 m)) (some ⟨w.heap.size, 0, none⟩) n n bs := by
  refine ⟨hn, Nat.le_refl _, (fun e => by cases e), fun ad e j hj => ?_⟩
  cases e
  rw [Addr.add_lit, Nat.zero_add]
  have hb : (w.alloc (.cells cs 5 m)).heap[w.heap.size]? = some (.cells cs 5 m) := Array.getElem?_push_size
  have hj2 : cs[j]? = some (.int .u8 ((bs.getD j 0).toNat : Int)) := by
    rw [← Array.getElem?_toList, h, List.getElem?_map, List.getD_eq_getElem?_getD, List.getElem?_eq_getElem (show j < bs.length by omega)]
    rfl
  show (match (w.alloc (.cells cs 5 m)).heap[w.heap.size]? with | some (.cells c _ _) => c[j]? | _ => none) = _
  rw [hb]
  exact hj2
theorem kc_any (w : World) (C : Array Value) (n c : Nat) : (convert 52 52 (.slice (some ⟨w.heap.size, 0, none⟩) n c)).run Tryz.prog (w.alloc (.cells C 5)) = .ok (.slice (some ⟨w.heap.size, 0, none⟩) n c) (w.alloc (.cells C 5 (C.size, C.size + 1))) :=
  Lib.run_convert_bytes_const (P := Tryz.prog) w 52 5 C n c Tryz.underlying52 Tryz.underlying5
theorem field_kind (W : World) (K : Int) (ng : Bool) (A : Option Addr) (m c : Nat) (k bg : Int) (ct : Bool) : (Instr.field 49 (itv K ng (.slice A m c) k bg ct) 0).run Tryz.prog W = .ok (.int .i64 K) W := by
  have e : ∀ W : World, (Go.isAgg 3).run Tryz.prog W = .ok false W := fun W => by simp [Go.isAgg, run_underlying Tryz.underlying3]
  simp [Instr.field, run_underlying Tryz.underlying49, asAgg, part, e]
end Go.Proofs.YtbbjlcgfaigmdaaGreatDoor
