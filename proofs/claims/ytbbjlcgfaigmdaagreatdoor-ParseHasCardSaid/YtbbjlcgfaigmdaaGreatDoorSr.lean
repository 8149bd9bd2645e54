/-
  Layer 9's laws: of: its contract; bytes of a text.
-/
import Derived.Test.YtbbjlcgfaigmdaaGreatDoorSq
import Derived.Test.YtbbjlcgfaigmdaaGreatDoorSr1
import Derived.Lib.ConvBytes
namespace Go.Proofs.YtbbjlcgfaigmdaaGreatDoor
open Go.RowKit Go.Shelf
set_option linter.unusedVariables false

/-- An item is told. -/
def Ofi (r : M.It) (w : World) (e : Ending) (w' : World) : Prop := ∃ v, e = .returned (itv (r.kind : Int) r.neg v r.n.k r.n.big r.n.cut) ∧ Nt w' w.heap.size 2001 v r.n.d ∧ Up w w'
theorem conv_str (w : World) (s : ByteArray) (l : List UInt8) (hl : s.data.toList = l) (_hs : s.size ≤ 100000000) :
    ∃ c W, (convert 9 52 (.string s)).run Tryz.prog w = .ok (.slice (some ⟨w.heap.size, 0, none⟩) s.size c) W ∧ Sb W (some ⟨w.heap.size, 0, none⟩) s.size c l ∧ Up w W := by
  refine ⟨grownCap w s.size 0 5, Lib.bytesWorld w 5 s, Lib.run_convert_string_bytes w 9 52 5 s Tryz.underlying9 Tryz.underlying52 Tryz.underlying5, ?_, ?_⟩
  · refine ⟨by rw [← hl]; exact Array.length_toList, grownCap_ge w _ 0 5, (fun e => by cases e), fun ad e j hj => ?_⟩
    cases e
    rw [Addr.add_lit, Nat.zero_add, Lib.bytesWorld_cell w 5 s j hj, hl]
  · exact ⟨rfl, rfl, rfl, by show w.heap.size ≤ _; rw [Lib.bytesWorld_size]; omega, fun k hk => Lib.bytesWorld_at_old w 5 s k hk⟩
end Go.Proofs.YtbbjlcgfaigmdaaGreatDoor
