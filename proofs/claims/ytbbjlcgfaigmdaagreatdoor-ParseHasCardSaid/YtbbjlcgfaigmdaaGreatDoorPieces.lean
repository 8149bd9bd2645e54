/-
  nat.piecesOf: its contract.
-/
import Derived.Test.YtbbjlcgfaigmdaaGreatDoorDiv
import Derived.Deep.LoopGhost
namespace Go.Proofs.YtbbjlcgfaigmdaaGreatDoor
open Go.RowKit Go.Shelf

namespace M
/-- The number of these pieces, the lowest first. -/
def pv : List Nat → Nat
  | [] => 0
  | p :: r => p + 10000000000000000000 * pv r
theorem pv_append (a b : List Nat) : pv (a ++ b) = pv a + 10000000000000000000 ^ a.length * pv b := by
  induction a with
  | nil => simp [pv]
  | cons x r ih =>
    simp only [List.cons_append, pv, ih, List.length_cons, Nat.pow_succ]
    rw [Nat.mul_add, Nat.add_assoc, ← Nat.mul_assoc, Nat.mul_comm (10000000000000000000 ^ r.length)]
/-- What is so while the pieces of a are taken, r the rest. -/
structure PInv (a : Nat) (ps : List Nat) (r : Nat) : Prop where
  eq : a = pv ps + 10000000000000000000 ^ ps.length * r
  lt : ∀ p ∈ ps, p < 10000000000000000000
  last : r = 0 → ps.getLast? ≠ some 0
theorem PInv.start (a : Nat) : PInv a [] a := ⟨by simp [pv], fun _ h => (by cases h), fun _ => by simp⟩
theorem PInv.step {a r : Nat} {ps : List Nat} (h : PInv a ps r) (hr : 0 < r) : PInv a (ps ++ [r % 10000000000000000000]) (r / 10000000000000000000) := by
  refine ⟨?_, fun p hp => ?_, fun h0 => ?_⟩
  · rw [h.eq, pv_append, List.length_append, List.length_singleton, Nat.pow_succ]
    simp only [pv, Nat.mul_zero, Nat.add_zero]
    rw [Nat.mul_assoc, Nat.add_assoc, ← Nat.mul_add, Nat.mod_add_div]
  · rcases List.mem_append.1 hp with e | e
    · exact h.lt p e
    · rw [List.mem_singleton.1 e]; exact Nat.mod_lt _ (by omega)
  · rw [List.getLast?_concat]
    intro e
    have : r % 10000000000000000000 = 0 := by simpa using e
    omega
theorem PInv.wds {a r : Nat} {ps : List Nat} (h : PInv a ps r) : Wds ps := fun p hp => Nat.lt_trans (h.lt p hp) (by omega)
end M

/-- What piecesOf comes to. -/
def Pieces (a : Nat) (w : World) (e : Ending) (w' : World) : Prop := ∃ v ps, e = .returned v ∧ Ow w' w.heap.size v ps.length ps ∧ M.PInv a ps 0 ∧ Up w w'

set_option maxHeartbeats 800000 in
set_option maxRecDepth 100000 in
theorem piecesOf_any (w : World) (lo s : Nat) (v : Value) (a : Nat) (h : Nw w lo s v a) (hlen : ∀ ps r, M.PInv a ps r → ps.length ≤ 1000000000) :
    Calls Tryz.prog 45 #[v] w (Pieces a w) := by
  have hn := Lib.hid (norm_any w lo s v a h)
  have HLEN := Lib.hid hlen
  clear h hlen
  go_enter Tryz.func45, Tryz.ntmps45
  go_wp2_with fail
  refine hn.out.mono ?_
  rintro _ w1 ⟨v1, rfl, ⟨A, n, c, zs, rfl, hz, hzv, hzs, hzn⟩, hu1⟩
  have hAb : Hid (∀ b o, 0 < n → A = some ⟨b, o, none⟩ → b < w1.heap.size) := by
    intro b o hn0 hA
    obtain ⟨b', o', e, _, hc⟩ := hz.at_ hn0
    rw [hA] at e
    simp only [Option.some.injEq, Addr.mk.injEq, and_true] at e
    obtain ⟨rfl, rfl⟩ := e
    exact World.block_lt_of_cell? w1 _ (hc 0 hn0).1
  have HZV := Lib.hid hzv
  clear hzv hn
  go_wp2_with fail
  go_loopg [3, 4] a (fun g p r wr => ∃ (ps : List Nat) (k : Nat) (xs : List Nat), Up w wr ∧ w1.heap.size ≤ wr.heap.size ∧ Ow wr w1.heap.size p ps.length ps ∧ r = .slice A k c ∧ k ≤ n ∧ Wd wr w.heap.size A k c xs ∧ M.Nrm xs ∧ M.PInv a ps (M.val xs) ∧ M.val xs ≤ g)
  case atStart => exact ⟨[], n, zs, hu1, Nat.le_refl _, World.ownsRow_nil _ _ _ _, rfl, Nat.le_refl _, hz, hzn, by rw [HZV.out]; exact M.PInv.start a, by rw [HZV.out]; exact Nat.le_refl _⟩
  case round =>
    obtain ⟨ps, k, xs, hu, hw1, hown, rfl, hkn, hx, hxn, hP, hg⟩ := hrel
    clear hz hzn
    rcases Nat.eq_zero_or_pos k with hk0 | hk0
    · subst hk0
      have hxs : xs = [] := List.eq_nil_of_length_eq_zero hx.num
      subst hxs
      go_wp2_with fail
      go_ret
      refine ⟨_, ps, rfl, ?_, hP, hu⟩
      obtain ⟨o1, o2⟩ := hown
      refine ⟨o1, ?_⟩
      rcases o2 with o2 | ⟨g, cap, cur, e1, e2, e3⟩
      · exact Or.inl o2
      · exact Or.inr ⟨g, cap, cur, e1, Nat.le_trans hu1.size e2, e3⟩
    · have hlen := HLEN.out ps _ hP
      have hvp : 0 < M.val xs := M.val_pos hxn (by intro e; rw [e] at hx; have := hx.num; simp at this; omega)
      have hP2 := Lib.hid (hP.step hvp)
      have hsz := hu1.size
      have CW := Lib.hid (divideByWord_any wr w.heap.size A k c xs hx 10000000000000000000 (by omega) (by omega) hu.size)
      simp only [u64, Int.cast_ofNat_Int] at CW
      have hmod : M.val xs % 10000000000000000000 < 18446744073709551616 := by omega
      have hdiv : M.val xs / 10000000000000000000 < M.val xs := Nat.div_lt_self hvp (by omega)
      have HDIV := Lib.hid hdiv
      have HMOD := Lib.hid hmod
      have HWP := Lib.hid hP.wds
      have HG := Lib.hid hg
      have HBL : Hid (∀ b, A.map (·.block) = some b → b < w1.heap.size) := by
        intro b hb
        obtain ⟨b', o', e, _, hc⟩ := hx.at_ hk0
        rw [e] at hb
        simp at hb
        subst hb
        exact hAb.out b' o' (by omega) e
      clear hmod hdiv hP hvp hg
      go_wp2_with fail
      refine CW.out.mono ?_
      rintro _ w2 ⟨zs2, rfl, hz2, hzv2, hbl2, hon2⟩
      generalize M.val xs % 10000000000000000000 = d at *
      rw [← hzv2] at hP2 HDIV
      have hown2 : Ow w2 w1.heap.size u3 ps.length ps := hown.kept hon2 (by
        rcases hob : u3.ownBlock with _ | g
        · exact Or.inl rfl
        · refine Or.inr (fun e => ?_)
          have h1 := (hown.lt g hob).1
          have h2 := HBL.out g e.symm
          omega)
      have hu2 : Up w w2 := (show Below w.heap.size w wr from hu).trans hbl2
      have hw2 : w1.heap.size ≤ w2.heap.size := Nat.le_trans hw1 hbl2.size
      have hd64 : d < 18446744073709551616 := HMOD.out
      have hsrc : Ow (w2.alloc (.cells #[u64 d] 23)) w2.heap.size (.slice (some ⟨w2.heap.size, 0, none⟩) 1 1) 1 [d] := World.ownsRow_lit w2 #[u64 d] 1 (Nat.le_refl _) (by simp only [maxLen]; omega) rfl
      have hsrcw := Ow.wd_ hsrc (M.Wds.cons hd64 M.Wds.nil) (by omega)
      have hown3 := World.ownsRow.alloc hown2 (.cells #[u64 d] 23)
      have hz3 := hz2.up ((Up.refl w2).alloc (.cells #[u64 d] 23))
      clear CW hown hx hzv2 hon2 hbl2 hd64 hsrc hz2
      go_wp2_with (at_builtin; refine wpList_append_wd _ rfl (.tmp 10) (.tmp 13) _ rfl info_u64 w1.heap.size Tryz.underlying38 u3 ps.length ps rfl hown3 _ _ 1 1 [d] rfl hsrcw (by omega) (by simp; omega) ?_; intro v4 w4 hown4 hg4 hat4)
      have hup4 : Up w w4 := by
        have ha := hu2.alloc (.cells #[u64 d] 23)
        exact ha.grown hg4 (fun b hb => by have := (hown2.lt b hb).1; omega)
      have hw4 : w1.heap.size ≤ w4.heap.size := Nat.le_trans hw2 (Nat.le_trans (by simp) hg4.size)
      have hz4 := hz3.kept hg4 (fun _ b hb e => by
        have h1 := (hown2.lt b e).1
        have h2 := HBL.out b hb
        omega)
      clear hz3 hg4 hat4 hown3 hsrcw
      refine (trim_any w4 _ A k c zs2 hz4).mono ?_
      rintro _ _ ⟨m5, zz, rfl, rfl, hd5, hn5, hv5, hm5⟩
      have HP5 : Hid (M.PInv a (ps ++ [d]) (M.val zz)) := by show M.PInv a _ _; rw [hv5]; exact hP2.out
      have HD5 : Hid (M.val zz < M.val xs) := by show _ < _; rw [hv5]; exact HDIV.out
      clear hv5 hP2 hz4
      go_wp2_with fail
      go_roundg (M.val zz)
      case measure => exact Nat.lt_of_lt_of_le HD5.out HG.out
      case rel =>
        refine ⟨ps ++ [d], m5, zz, hup4, hw4, ?_, rfl, by omega, hd5, hn5, HP5.out, Nat.le_refl _⟩
        rw [List.length_append, List.length_singleton]
        exact hown4
end Go.Proofs.YtbbjlcgfaigmdaaGreatDoor
