/-
  nat.divideByWord: its contract.
-/
import Derived.Test.YtdokioefcfcfnaaDoorDiv64
namespace Go.Proofs.YtdokioefcfcfnaaDoor
open Go.RowKit Go.Shelf

/-- What is so behind a division from the highest word down to word k. -/
def M.DivInv (xs : List Nat) (by_ k left : Nat) (zs : List Nat) : Prop :=
  zs.length = xs.length ∧ left < by_ ∧ (∀ j, j < k → zs.getD j 0 = xs.getD j 0) ∧ M.val (xs.drop k) = M.val (zs.drop k) * by_ + left
theorem M.val_drop {xs : List Nat} {k : Nat} (h : k < xs.length) : M.val (xs.drop k) = xs.getD k 0 + 18446744073709551616 * M.val (xs.drop (k + 1)) := by
  rw [List.drop_eq_getElem_cons h, M.val_cons]
  simp [List.getD_eq_getElem?_getD, List.getElem?_eq_getElem h]
theorem M.DivInv.start (xs : List Nat) (by_ : Nat) (h : 0 < by_) : M.DivInv xs by_ xs.length 0 xs := by
  refine ⟨rfl, h, fun _ _ => rfl, ?_⟩
  rw [List.drop_of_length_le (Nat.le_refl _)]
  simp [M.val]
theorem M.DivInv.step {xs zs : List Nat} {by_ k left x : Nat} (h : M.DivInv xs by_ (k + 1) left zs) (hk : k < xs.length) (hx : xs.getD k 0 = x) :
    M.DivInv xs by_ k ((left * 18446744073709551616 + x) % by_) (zs.set k ((left * 18446744073709551616 + x) / by_)) := by
  obtain ⟨h1, h2, h3, h4⟩ := h
  have hb : 0 < by_ := by omega
  refine ⟨by simp [h1], Nat.mod_lt _ hb, fun j hj => ?_, ?_⟩
  · rw [M.getD_set_ne (by omega)]; exact h3 j (by omega)
  · rw [M.val_drop hk, M.val_drop (xs := zs.set k _) (by simpa [h1] using hk), M.getD_set (by omega), M.drop_set_lt (by omega), hx, h4, Nat.add_mul, Nat.mul_assoc]
    have := Nat.div_add_mod (left * 18446744073709551616 + x) by_
    rw [Nat.mul_comm by_] at this
    rw [Nat.mul_add]
    omega

section
variable {w : World} {lo n c b o : Nat} {xs : List Nat}
theorem Wd.stored (h : Wd w lo (some ⟨b, o, none⟩) n c xs) {i x : Nat} (hi : i < n) (hx : x < 18446744073709551616) :
    Wd (w.setCell ⟨b, o + i, none⟩ (u64 x)) lo (some ⟨b, o, none⟩) n c (xs.set i x) := by
  refine ⟨by simp [h.num], h.len, h.small, h.wds.set i hx, fun hn => ?_⟩
  obtain ⟨b', o', e, hb, hc⟩ := h.at_ hn
  simp only [Option.some.injEq, Addr.mk.injEq, and_true] at e
  obtain ⟨rfl, rfl⟩ := e
  refine ⟨b, o, rfl, hb, fun j hj => ?_⟩
  obtain ⟨k1, k2⟩ := hc j hj
  refine ⟨?_, by rw [World.frozen?_setCell]; exact k2⟩
  by_cases hij : i = j
  · subst hij
    rw [M.getD_set (by rw [h.num]; exact hi)]
    exact World.cell?_setCell_same w _ _ k1
  · rw [M.getD_set_ne hij, World.cell?_setCell_other]
    · exact k1
    · intro e
      injection e with _ e2 _
      omega
end

/-- Below block lo nothing has turned, whatever the draws. -/
theorem below_drewN {B : Nat} {a w : World} (h : Below B a w) (n : Nat) : Below B a (w.drewN n) := ⟨h.os, h.tape, h.output, h.size, h.block⟩
theorem below_up {B : Nat} {a w w' : World} (h : Below B a w) (k : Up w w') (hB : B ≤ w.heap.size) : Below B a w' := h.trans (Below.mono k hB)

theorem only_up {a w w' : World} {row : Option Nat} (h : a.grownBy w row) (k : Up w w') : a.grownBy w' row :=
  ⟨k.os.trans h.os, k.tape.trans h.tape, k.output.trans h.output, Nat.le_trans h.size (Up.size k), fun i hi hne => (k.block i (Nat.lt_of_lt_of_le hi h.size)).trans (h.block i hi hne)⟩
theorem only_setCell {a w : World} {g : Nat} (h : a.grownBy w (some g)) (i : Nat) (u : Value) : a.grownBy (w.setCell ⟨g, i, none⟩ u) (some g) :=
  ⟨h.os, h.tape, h.output, by simpa [World.setCell] using h.size, fun k hk hne => (Below.heap_setCell w ⟨g, i, none⟩ u k (by
    rintro rfl
    exact hne rfl)).trans (h.block k hk hne)⟩

/-- Another block has been written. -/
theorem Wd.kept {w w' : World} {lo n c : Nat} {A : Option Addr} {xs : List Nat} {row : Option Nat} (h : Wd w lo A n c xs) (hg : w.grownBy w' row) (hne : 0 < n → ∀ b, A.map (·.block) = some b → row ≠ some b) : Wd w' lo A n c xs := by
  refine ⟨h.num, h.len, h.small, h.wds, fun hn => ?_⟩
  obtain ⟨b, o, rfl, hb, hc⟩ := h.at_ hn
  refine ⟨b, o, rfl, hb, fun j hj => ?_⟩
  obtain ⟨k1, k2⟩ := hc j hj
  have hbl := hg.block b (World.block_lt_of_cell? w _ k1) (fun e => hne hn b rfl e.symm)
  exact ⟨(World.cell?_of_block (w := w) hbl).trans k1, (World.frozen?_of_block (w := w) hbl).trans k2⟩

/-- What divideByWord comes to. -/
def DivByWord (lo : Nat) (A : Option Addr) (n c : Nat) (xs : List Nat) (b : Nat) (w : World) (e : Ending) (w' : World) : Prop :=
  ∃ zs, e = .returned (u64 (M.val xs % b)) ∧ Wd w' lo A n c zs ∧ M.val zs = M.val xs / b ∧ Below lo w w' ∧ w.grownBy w' (A.map (·.block))

set_option maxHeartbeats 400000 in
set_option maxRecDepth 100000 in
theorem divideByWord_any (w : World) (lo : Nat) (A : Option Addr) (n c : Nat) (xs : List Nat) (h : Wd w lo A n c xs) (b : Nat) (hb0 : 0 < b) (hb : b < 18446744073709551616) (hlo : lo ≤ w.heap.size) :
    Calls Tryd.prog 68 #[.slice A n c, u64 b] w (DivByWord lo A n c xs b w) := by
  have hn := h.num
  have hsm := h.small
  have HST : Hid (M.DivInv xs b n 0 xs) := by rw [← hn]; exact M.DivInv.start xs b hb0
  have hwx := h.wds
  clear hb0
  go_enter Tryd.func68, Tryd.ntmps68
  go_wp2_with fail
  go_loopw [5, 6] (fun l i wr => ∃ (k : Int) (q : Nat) (zs : List Nat), -1 ≤ k ∧ k < n ∧ l = u64 q ∧ i = .int .i64 k ∧ Below lo w wr ∧ w.grownBy wr (A.map (·.block)) ∧ Wd wr lo A n c zs ∧ Hid (M.DivInv xs b (k + 1).toNat q zs)) (fun _ i _ => (intOf i + 1).toNat)
  case atStart => exact ⟨(n : Int) - 1, 0, xs, by omega, by omega, rfl, rfl, Below.refl _ _, World.grownBy.refl _ _, h, by rw [show ((n : Int) - 1 + 1).toNat = n from by omega]; exact HST.out⟩
  case round =>
    obtain ⟨k, q, zs, hk1, hk2, rfl, rfl, hbl, hon, hz, HI⟩ := hrel
    clear h HST
    by_cases hk0 : k = -1
    · subst hk0
      go_wp2_with fail
      go_ret
      obtain ⟨i1, i2, _, i4⟩ := HI.out
      simp only [show ((-1 : Int) + 1).toNat = 0 from rfl, List.drop_zero] at i4
      have hbp : 0 < b := by omega
      refine ⟨zs, ?_, hz, ?_, hbl, hon⟩
      · refine ret_int ?_
        rw [i4, Nat.mul_comm, Nat.mul_add_mod, Nat.mod_eq_of_lt i2]
      · rw [i4, Nat.mul_comm, Nat.mul_add_div hbp, Nat.div_eq_of_lt i2, Nat.add_zero]
    · obtain ⟨i, rfl⟩ := Int.eq_ofNat_of_zero_le (show 0 ≤ k by omega)
      have hin : i < n := by omega
      have hI := HI.out
      rw [show ((i : Int) + 1).toNat = i + 1 from by omega] at hI
      have hq := hI.2.1
      have hx2 := hI.2.2.1 i (by omega)
      obtain ⟨x, hx⟩ : ∃ x, xs.getD i 0 = x := ⟨_, rfl⟩
      rw [hx] at hx2
      have hxb : x < 18446744073709551616 := by rw [← hx]; exact hwx.getD i
      obtain ⟨bb, oo, rfl, hlb, hc⟩ := hz.at_ (by omega)
      obtain ⟨hc1, hf1⟩ := hc i hin
      rw [hx2] at hc1
      have CW := Lib.hid (div64_any wr q x b hxb hb hq)
      have HN := Lib.hid (hI.step (by omega) hx)
      have hqb : (q * 18446744073709551616 + x) / b < 18446744073709551616 := by
        refine Nat.div_lt_of_lt_mul ?_
        have : (q + 1) * 18446744073709551616 ≤ b * 18446744073709551616 := by omega
        omega
      generalize (q * 18446744073709551616 + x) / b = q1 at *
      generalize (q * 18446744073709551616 + x) % b = r1 at *
      have HQB := Lib.hid hqb
      clear hI hq hx2 hx hxb hc hk0 hk1 HI hqb hwx
      go_wp2_with fail
      refine CW.out.mono ?_
      rintro _ W ⟨rfl, kk, hW⟩
      have hu : Up wr W := by rw [hW]; exact (Up.refl wr).drewN kk
      have hzW := hz.up hu
      have hblW := below_up hbl hu (Nat.le_trans hlo hbl.size)
      have honW := only_up hon hu
      obtain ⟨hc2, hf2⟩ : W.cell? ⟨bb, oo + i, none⟩ = some (u64 x) ∧ W.frozen? ⟨bb, oo + i, none⟩ = false := by
        rw [hW]; exact ⟨hc1, hf1⟩
      clear hW CW hbl hz hc1 hf1 hu hon
      go_wp2_with fail
      go_roundw
      case rel =>
        exact ⟨(i : Int) - 1, r1, zs.set i q1, by omega, by omega, rfl, rfl, hblW.setCell hlb _, only_setCell honW _ _, hzW.stored hin HQB.out, by rw [show ((i : Int) - 1 + 1).toNat = i from by omega]; exact HN.out⟩
      case measure => simp [intOf]
end Go.Proofs.YtdokioefcfcfnaaDoor
