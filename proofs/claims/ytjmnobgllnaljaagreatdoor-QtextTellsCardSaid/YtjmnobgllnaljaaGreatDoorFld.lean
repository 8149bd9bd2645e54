/-
  What came in, field by field: slices of words, bools, numbers; what may be written of it.
-/
import Derived.Lib.SmallJoins
import Derived.Test.YtjmnobgllnaljaaGreatDoorRows
import Derived.Test.YtjmnobgllnaljaaGreatDoorNa
import Derived.WalkKit
import Derived.ProofKit
import Derived.OpenShut
import Derived.ChangeOld
import Derived.Below
namespace Go.Proofs.YtjmnobgllnaljaaGreatDoor
open Go.ChangeShapes Go.WideShapes Go.ChangeAt Go.RowKit

/-- A slice of words that came in: nil, or a row of cells. -/
def IsRow (k : IntKind) (w : World) (a : Option Addr) (len cap : Nat) (zs : List Int) : Prop :=
  (a = none ∧ len = 0 ∧ cap = 0 ∧ zs = []) ∨
  ∃ x, a = some x ∧ len ≤ cap ∧ cap ≤ maxLen ∧ zs.length = cap ∧ (∀ i, i < zs.length → w.cell? (x.add i) = some (.int k (zs.getD i 0))) ∧ ∀ n ∈ zs, (Lit.int k n).wf = true

theorem IsRow.src {w : World} {a : Option Addr} {len cap : Nat} {zs : List Int} (h : IsRow .u64 w a len cap zs) : Src w a len cap ((zs.take len).map Int.toNat) := by
  rcases h with ⟨rfl, rfl, rfl, rfl⟩ | ⟨x, rfl, h1, h2, h3, h4, h5⟩
  · exact ⟨rfl, Nat.le_refl _, M.Wds.nil, fun _ => rfl, fun _ e => by cases e⟩
  · have hb : ∀ z ∈ zs, 0 ≤ z ∧ z < 18446744073709551616 := fun z hz => by
      have := h5 z hz
      have h6 : (0 : Int) ≤ z ∧ z ≤ 18446744073709551615 := by simpa [Lit.wf, IntKind.min, IntKind.max, IntKind.signed, IntKind.bits] using this
      omega
    refine ⟨by simp; omega, h1, fun y hy => ?_, (fun e => by cases e), fun ad e j hj => ?_⟩
    · obtain ⟨z, hz, rfl⟩ := List.mem_map.1 hy
      have := hb z (List.mem_of_mem_take hz)
      omega
    · cases e
      have hjl : j < zs.length := by omega
      rw [h4 j hjl]
      have hz := hb _ (List.getElem_mem hjl)
      have e1 : ((zs.take len).map Int.toNat).getD j 0 = (zs[j]).toNat := by
        rw [List.getD_eq_getElem?_getD, List.getElem?_map, List.getElem?_take_of_lt hj, List.getElem?_eq_getElem hjl]
        rfl
      have e2 : zs.getD j 0 = zs[j] := by rw [List.getD_eq_getElem?_getD, List.getElem?_eq_getElem hjl]; rfl
      rw [e1, e2, u64]
      congr 2
      omega
theorem field_bool {H : Type} {enc : TypeId × Value → H} {P : Program} {w : World} {base : Nat} {spare : Nat → Bool} {held : Bool} {n : Nat} {t : TypeId} {v : Value} {y : DataW H × List MemPlace}
    (ht : P.underlying t = some .bool) (h : DataW.trod enc P w base spare held n t [v] = some y) : ∃ b, v = .bool b := by
  cases n with
  | zero => simp [DataW.trod] at h
  | succ n =>
    cases v <;> simp [DataW.trod, ht] at h ⊢
theorem field_int {H : Type} {enc : TypeId × Value → H} {P : Program} {w : World} {base : Nat} {spare : Nat → Bool} {held : Bool} {n : Nat} {t : TypeId} {k : IntKind} {v : Value} {y : DataW H × List MemPlace}
    (ht : P.underlying t = some (.int k)) (h : DataW.trod enc P w base spare held n t [v] = some y) : ∃ z, v = .int k z ∧ (Lit.int k z).wf = true := by
  obtain ⟨z, h1, _, h2⟩ := DataW.trod_int ht h
  simp only [List.cons.injEq, and_true] at h1
  exact ⟨z, h1, h2⟩
/-- A slice of words, as a field. -/
theorem field_words {H : Type} {enc : TypeId × Value → H} {w : World} {base : Nat} {held : Bool} {n : Nat} {v : Value} {y : DataW H × List MemPlace}
    (h : DataW.trod enc Tryz.prog w base (fun _ => true) held n 23 [v] = some y) : ∃ A len cap xs, v = .slice A len cap ∧ Src w A len cap xs ∧ cap ≤ maxLen := by
  rcases open_ints Tryz.underlying23 Tryz.underlying37 (by kernel_rfl) h with ⟨hcs, _⟩ | ⟨x, l, c, zs, hcs, _, hl, hm, hz, _, hcell, hwz⟩
  · simp only [List.cons.injEq, and_true] at hcs
    subst hcs
    exact ⟨none, 0, 0, _, rfl, IsRow.src (zs := []) (.inl ⟨rfl, rfl, rfl, rfl⟩), Nat.zero_le _⟩
  · simp only [List.cons.injEq, and_true] at hcs
    subst hcs
    exact ⟨some x, l, c, _, rfl, IsRow.src (zs := zs) (.inr ⟨x, rfl, hl, hm, by simpa using hz, hcell, hwz⟩), hm⟩
/-- .. and where its words lie. -/
theorem field_words_at {H : Type} {enc : TypeId × Value → H} {w : World} {base : Nat} {held : Bool} {n : Nat} {v : Value} {y : DataW H × List MemPlace}
    (h : DataW.trod enc Tryz.prog w base (fun _ => true) held n 23 [v] = some y) : ∃ A len cap xs, v = .slice A len cap ∧ Src w A len cap xs ∧ cap ≤ maxLen ∧ ∀ ad, A = some ad → ∀ j, j < len → MemPlace.cell ad.block (ad.off + j) ∈ y.2 := by
  rcases open_ints Tryz.underlying23 Tryz.underlying37 (by kernel_rfl) h with ⟨hcs, _⟩ | ⟨x, l, c, zs, hcs, _, hl, hm, hz, hy, hcell, hwz⟩
  · simp only [List.cons.injEq, and_true] at hcs
    subst hcs
    exact ⟨none, 0, 0, _, rfl, IsRow.src (zs := []) (.inl ⟨rfl, rfl, rfl, rfl⟩), Nat.zero_le _, fun ad e => by cases e⟩
  · simp only [List.cons.injEq, and_true] at hcs
    subst hcs
    have hz2 : zs.length = c := by simpa using hz
    refine ⟨some x, l, c, _, rfl, IsRow.src (zs := zs) (.inr ⟨x, rfl, hl, hm, hz2, hcell, hwz⟩), hm, fun ad e j hj => ?_⟩
    cases e
    rw [hy]
    exact List.mem_map.2 ⟨j, List.mem_range.2 (by omega), rfl⟩
/-- What a row does not hold frozen may be written. -/
theorem fz_of {w : World} {ps : List MemPlace} (h : w.noneFrozen ps) {A : Option Addr} {n : Nat} (hm : ∀ ad, A = some ad → ∀ j, j < n → MemPlace.cell ad.block (ad.off + j) ∈ ps) : ∀ ad, A = some ad → ∀ j, j < n → w.frozen? (ad.add j) = false := by
  intro ad e j hj
  have h1 := h ad.block (ad.off + j) (hm ad e j hj)
  rw [← h1]
  unfold Addr.add
  by_cases e0 : j = 0
  · rw [if_pos e0, e0]
    rfl
  · rw [if_neg e0]
end Go.Proofs.YtjmnobgllnaljaaGreatDoor
