/-
  What the rows' condition tells the walks of layer 12: the tables, both errors; how long digits' words may be.
-/
import Derived.Test.YtkhnobogaiaogaaGreatDoorSlaid
import Derived.Test.YtkhnobogaiaogaaGreatDoorHd
import Derived.Test.YtkhnobogaiaogaaGreatDoorFld
import Derived.SizedLaws
namespace Go.Proofs.YtkhnobogaiaogaaGreatDoor
open Go.ChangeShapes Go.WideShapes Go.ChangeAt Go.RowKit
set_option linter.unusedSimpArgs false

theorem gErrR : Tryz.prog.globalNamed "strconv.ErrRange" = some 5 := by kernel_rfl
theorem tErrR : (Tryz.prog.globals[5]?).map (·.type) = some 80 := by kernel_rfl
theorem of_laidT {W : World} (h : laidMetH Tryz.prog LstS W) : TabW W ∧ ErrB W := by
  obtain ⟨h1, h2⟩ := of_laidS h
  refine ⟨h1, h2, ?_⟩
  rw [MakeChecks.laidMetH_plain _ _ _ (by kernel_rfl)] at h
  obtain ⟨a, s, hv, _⟩ := laid_sentinel h.tail.tail.tail.tail gErrR tErrR Tryz.underlying80 rowErr Tryz.underlying169 Tryz.underlying171 rfl rfl Tryz.underlying9 (by kernel_rfl) (by kernel_rfl)
  exact ⟨_, _, hv⟩
theorem bytes_word : Tryz.prog.bytesOf 42 = 8 := by kernel_rfl
/-- Words of which the row says how long they may be. -/
theorem field_words_sz {H : Type} {enc : TypeId × Value → H} {w : World} {base : Nat} {held : Bool} {n : Nat} {v : Value} {y : DataW H × List MemPlace}
    (h : DataW.trod enc Tryz.prog w base (fun _ => true) held n 23 [v] = some y) (A : Option Addr) (len cap : Nat) (hv : v = .slice A len cap) (hz : ∀ x ∈ y.1.weights Tryz.prog 23, x ≤ reachBytes) : len ≤ 17592186044416 := by
  rcases open_ints Tryz.underlying23 Tryz.underlying42 (by kernel_rfl) h with ⟨hcs, _⟩ | ⟨x, l, c, zs, hcs, _, hl, hm, hzl, hy, hcell, hwz⟩
  · simp only [List.cons.injEq, and_true] at hcs
    rw [hcs] at hv
    cases hv
    exact Nat.zero_le _
  · simp only [List.cons.injEq, and_true] at hcs
    rw [hcs] at hv
    cases hv
    have hz2 : zs.length = cap := by simpa using hzl
    have h1 := hz ((zs.take len).length * 8 + (zs.drop len).length * 8) (by
      rw [hy]
      simp [DataW.weights, Tryz.underlying23, bytes_word, lits]
      omega)
    have h2 := reachBytes_lt
    rw [List.length_take, List.length_drop] at h1
    omega
theorem digits_sz {H : Type} {ts : List TypeId} {ds : List (DataW H)} (h : (DataW.weightsEach Tryz.prog ts ds).all (· ≤ reachBytes) = true) {j : Nat} {a b c : DataW H} (ht : ts[j]? = some 25) (hd : ds[j]? = some (.agg [a, b, c])) :
    ∀ x ∈ b.weights Tryz.prog 23, x ≤ reachBytes := by
  intro x hx
  have := List.all_eq_true.1 h x (DataW.weights_mem_each ht hd x (by simp [DataW.weights, Tryz.underlying25, DataW.weightsEach, hx]))
  simpa using this
end Go.Proofs.YtkhnobogaiaogaaGreatDoor
