/-
  Texts of a number: with noughts at both ends.
-/
import Derived.Test.YtjmnobgllnaljaaGreatDoorCe
namespace Go.Proofs.YtjmnobgllnaljaaGreatDoor
open Go.RowKit Go.Shelf
set_option linter.unusedVariables false
set_option linter.unusedSimpArgs false

theorem and_15c (x : Int) : ∃ m : Nat, Go.bits BinOp.and IntKind.i64 x 15 = (m : Int) ∧ m ≤ 15 := by
  refine ⟨((BitVec.ofInt 64 x).toNat &&& 15), ?_, ?_⟩
  · show IntKind.i64.wrap ((BitVec.ofInt 64 x &&& BitVec.ofInt 64 15).toNat : Int) = _
    rw [BitVec.toNat_and, show (BitVec.ofInt 64 15).toNat = 15 from rfl]
    have : (BitVec.ofInt 64 x).toNat &&& 15 ≤ 15 := Nat.and_le_right
    exact IntWalk.i64_in _ (by omega)
  · exact Nat.and_le_right
theorem Tx.to16 {s : ByteArray} {l m : List UInt8} (h : Tx s l) (e : l = m) : Tx s m := e ▸ h
theorem cat16 (a b : ByteArray) (la lb : List UInt8) (K : Nat) (ha : Hid (Tx a la)) (hb : Hid (Tx b lb)) (hk : a.size + b.size ≤ K) : ∃ c, a ++ b = c ∧ Hid (Tx c (la ++ lb)) ∧ c.size ≤ K :=
  ⟨a ++ b, rfl, ha.out.cat hb.out, by rw [ByteArray.size_append]; exact hk⟩
theorem ext16 (s : ByteArray) (l : List UInt8) (h : Hid (Tx s l)) (i j : Nat) : ∃ c, s.extract i j = c ∧ Hid (Tx c ((l.drop i).take (j - i))) := ⟨_, rfl, h.out.ext i j⟩
/-- Is there a point among these? -/
def M.pnt (l : List UInt8) : Bool := l.any (· == 46)
/-- The text of that. -/
def ppt (b : Bool) : ByteArray := if b then ⟨#[46]⟩ else ⟨#[]⟩
theorem M.pnt_take {l : List UInt8} {i : Nat} (h : i < l.length) : M.pnt (l.take (i + 1)) = (M.pnt (l.take i) || l.getD i 0 == 46) := by
  have e : l.take (i + 1) = l.take i ++ [l.getD i 0] := by
    rw [List.take_add_one, List.getElem?_eq_getElem h, List.getD_eq_getElem?_getD, List.getElem?_eq_getElem h]
    rfl
  unfold M.pnt
  rw [e, List.any_append]
  simp
theorem M.pnt_dig {l : List UInt8} (h : M.allD l = true) : M.pnt l = false := by
  unfold M.pnt
  rw [List.any_eq_false]
  intro c hc hcc
  have := M.isD_rng (List.all_eq_true.1 h c hc)
  have e : c = 46 := by simpa using hcc
  rw [e] at this
  revert this; decide
theorem M.pnt_parts {W R : List UInt8} (hW : M.allD W = true) (hR : M.allD R = true) : M.pnt (W ++ (if R = [] then [] else 46 :: R)) = decide (R ≠ []) := by
  have e : ∀ a b : List UInt8, M.pnt (a ++ b) = (M.pnt a || M.pnt b) := fun a b => by unfold M.pnt; rw [List.any_append]
  rw [e, M.pnt_dig hW]
  by_cases h : R = []
  · rw [if_pos h, h]; rfl
  · rw [if_neg h, decide_eq_true h]; rfl
theorem M.qr_form {a n : Nat} {e k : Int} (hq : M.Qd a e n k) (ha : a < 2 ^ 2048) (he : -1200 ≤ e ∧ e ≤ 1200) {ng : Bool} (hng : (ng && decide (a ≠ 0)) = ng) {l : List UInt8} (hn : M.Isn l ng ⟨n, k, 0, false⟩) : M.Qr l e ng a 0 := by
  obtain ⟨g, m, x, hr⟩ := M.qr_ex l e
  rcases M.qr_num hr he hn with ⟨b, h3, h4, h5, h6, h7⟩ | ⟨b, h3, h4, _⟩ | ⟨h3, _⟩
  · have := M.ys_inj (h3.trans hq.eq)
    subst this
    rw [hng] at h7
    subst h5 h6 h7
    exact hr
  · exact absurd (M.ys_inj (h3.trans hq.eq) ▸ ha) h4
  · exact absurd hq.eq.symm (h3 a)
/-- A text with noughts at both ends, and an exponent. -/
def M.wide16 (ng : Bool) (z : Nat) (W R : List UInt8) : List UInt8 := M.sgt ng ++ ((List.replicate z 48 ++ W) ++ (46 :: ((R ++ List.replicate z 48) ++ [101, 48])))
theorem M.forms16 (x0 : Bool) {a : Nat} {e : Int} (ha : a < 2 ^ 2048) (he : -1200 ≤ e ∧ e ≤ 1200) :
    ∃ ng W R, M.Qt x0 a e (M.sgt ng ++ (W ++ (if R = [] then [] else 46 :: R))) 0 ∧ M.allD W = true ∧ W ≠ [] ∧ M.allD R = true ∧ (M.sgt ng ++ (W ++ (if R = [] then [] else 46 :: R))).length ≤ 5000 ∧
      M.Qr (M.sgt ng ++ (W ++ (if R = [] then [] else 46 :: R))) e ng a 0 ∧ ∀ z, M.Qr (M.wide16 ng z W R) e ng a 0 := by
  obtain ⟨n, k, hq⟩ := M.qd_ex ha he
  obtain ⟨W, R, hp⟩ := M.qpt_ex hq.lok
  have hng : ((x0 && decide (a ≠ 0)) && decide (a ≠ 0)) = (x0 && decide (a ≠ 0)) := by cases x0 <;> simp
  have e1 : M.qp (x0 && decide (a ≠ 0)) n k = M.sgt (x0 && decide (a ≠ 0)) ++ (W ++ (if R = [] then [] else 46 :: R)) := by
    rw [← hp.txt]; rfl
  refine ⟨x0 && decide (a ≠ 0), W, R, ?_, hp.wd, hp.wn, hp.rd, ?_, ?_, fun z => ?_⟩
  · rw [← e1]; exact .inr ⟨⟨ha, he⟩, rfl, n, k, hq, rfl⟩
  · rw [← e1]; exact M.qp_len hq _
  · rw [← e1]; exact M.qr_form hq ha he hng (M.isn_qp hq _)
  · refine M.qr_form hq ha he hng ?_
    have := M.isn_forms hq hp (x0 && decide (a ≠ 0)) z
    exact this
end Go.Proofs.YtjmnobgllnaljaaGreatDoor
