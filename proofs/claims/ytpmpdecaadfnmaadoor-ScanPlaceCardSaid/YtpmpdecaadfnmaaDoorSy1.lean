/-
  Bytes and texts appended, as equations (for regions that draw their order).
-/
import Derived.Test.YtpmpdecaadfnmaaDoorSy0
import Derived.Deep.RegionHeld3
namespace Go.Proofs.YtpmpdecaadfnmaaDoor
open Go.RowKit Go.Shelf
set_option linter.unusedVariables false

theorem append_sb_ex (w : World) (ty : TypeId) (base : Nat) (v : Value) (bs : List UInt8) (hown : Rb w base v bs) (A : Option Addr) (m c : Nat) (cs : List UInt8) (hS : Sb w A m c cs) (hn : bs.length + m ≤ 1000000000000) (hbase : base ≤ w.heap.size) :
    ∃ v' w', (Builtin.append_ #[22, 22] ty #[v, .slice A m c]).run Tryd.prog w = .ok v' w' ∧ Rb w' base v' (bs ++ cs) ∧ w.grownBy w' v.ownBlock := by
  obtain ⟨i, hi, hz0, hz1, hz2⟩ := info_parts info_u8
  have hm := hS.num
  cases A with
  | none =>
    have hc0 := hS.none_ rfl
    have hlen := hS.len
    have hm0 : m = 0 := by omega
    subst hm0
    obtain rfl : cs = [] := List.eq_nil_of_length_eq_zero hm
    exact ⟨v, w, append_of_none (P := Tryd.prog) w base 22 ty _ i 1 Tryd.underlying22 hi v bs.length _ hown c, by rw [List.append_nil]; exact hown, World.grownBy.refl w _⟩
  | some ad =>
    have hy : ∀ j u, (Lib.byteCells cs)[j]? = some u → w.cell? (ad.add j) = some u := by
      intro j u hu
      have hj : j < m := by
        have := (List.getElem?_eq_some_iff.1 hu).1
        rw [Lib.byteCells_length] at this; omega
      rw [hS.at_ ad rfl j hj, ← hu]
      simp [Lib.byteCells, List.getD_eq_getElem?_getD, List.getElem?_eq_getElem (show j < cs.length by omega)]
    obtain ⟨v', w', hr, h2, h3, _, _⟩ := run_append_own_at (P := Tryd.prog) w base 22 ty 5 i _ 1 1 Tryd.underlying22 hi hz0 hz1 hz2 rfl (by omega) v bs.length _ hown ad m c (Lib.byteCells cs) (by rw [Lib.byteCells_length]; omega) hy (Lib.byteCells_one _)
      (by simp only [maxLen]; omega) (by omega) hbase
    refine ⟨v', w', hr, ?_, h3⟩
    rw [Rb, By, List.length_append, Lib.byteCells_append, hm]
    exact h2
theorem append_str_ex (w : World) (ty : TypeId) (base : Nat) (v : Value) (bs : List UInt8) (hown : Rb w base v bs) (s : ByteArray) (cs : List UInt8) (hcs : s.data.toList = cs) (hn : bs.length + cs.length ≤ 1000000000000) (hbase : base ≤ w.heap.size) :
    ∃ v' w', (Builtin.append_ #[22, 9] ty #[v, .string s]).run Tryd.prog w = .ok v' w' ∧ Rb w' base v' (bs ++ cs) ∧ w.grownBy w' v.ownBlock := by
  obtain ⟨i, hi, hz0, hz1, hz2⟩ := info_parts info_u8
  have hsz : s.size = cs.length := by rw [← hcs]; exact (Array.length_toList).symm
  obtain ⟨v', w', hr, h1, h2, _⟩ := Lib.run_append_own_string (P := Tryd.prog) w base 22 9 ty 5 i Tryd.underlying22 Tryd.underlying9 hi hz0 hz1 hz2 v bs.length _ hown s (by rw [hsz]; simp only [maxLen]; omega) (by rw [hsz]; omega) hbase
  refine ⟨v', w', hr, ?_, h2⟩
  rw [Lib.strCells_eq, hcs, ← Lib.byteCells_append, hsz] at h1
  rw [Rb, By, List.length_append]
  exact h1
theorem wp_append_run {P : Program} {o : Oper} {a : Act} {w : World} {K : Act → World → Prop} {Q : Exit → Act → World → Prop} (sl x : Operand) (t u : TypeId)
    (ho : o.op = .call { callee := .builtin .append, args := #[sl, x], argTypes := #[t, u] }) (v y : Value) (hs : a.eval sl = v) (hx : a.eval x = y) (v' : Value) (w' : World)
    (hr : (Builtin.append_ #[t, u] o.type #[v, y]).run P w = .ok v' w') (h : K (a.put o.dst v') w') : o.wp P a w K Q := by
  unfold Oper.wp execOp
  simp only [ho, resolve, invoke, builtin, Sem.run_bind, Sem.run_pure, Result.andThen_ok, List.map_toArray, List.map_cons, List.map_nil, hs, hx, hr]
  exact h
end Go.Proofs.YtpmpdecaadfnmaaDoor
