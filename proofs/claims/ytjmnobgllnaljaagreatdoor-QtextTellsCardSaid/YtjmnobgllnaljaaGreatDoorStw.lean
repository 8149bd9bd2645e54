/-
  Words that came in, and may be written: how they are read (stage 16's rows: STF=Stw).
-/
import Derived.Test.YtjmnobgllnaljaaGreatDoorCc
import Derived.Test.YtjmnobgllnaljaaGreatDoorFld
import Derived.Deep.Slices
namespace Go.Proofs.YtjmnobgllnaljaaGreatDoor
open Go.ChangeShapes Go.WideShapes Go.ChangeAt Go.RowKit
set_option linter.unusedVariables false
set_option linter.unusedSimpArgs false

section
variable {H : Type} {enc : TypeId × Value → H} {w : World} {base : Nat} {held : Bool}
theorem words_fz {n : Nat} {v : Value} {y : DataW H × List MemPlace} (h : DataW.trod enc Tryz.prog w base (fun _ => true) held n 23 [v] = some y) (hz : w.noneFrozen y.2) :
    ∃ A len cap xs, v = .slice A len cap ∧ Src w A len cap xs ∧ Fz w A len := by
  obtain ⟨A, len, cap, xs, e, h1, _, h2⟩ := field_words_at h
  exact ⟨A, len, cap, xs, e, h1, fz_of hz h2⟩
end
end Go.Proofs.YtjmnobgllnaljaaGreatDoor
