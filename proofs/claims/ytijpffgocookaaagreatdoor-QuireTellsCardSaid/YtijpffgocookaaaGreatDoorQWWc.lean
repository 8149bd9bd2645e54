import Derived.Test.YtijpffgocookaaaGreatDoorQWWa
import Derived.Test.YtijpffgocookaaaGreatDoorQWNa
set_option maxHeartbeats 32000000
set_option linter.unusedVariables false
set_option linter.unusedSimpArgs false
namespace Go.Proofs.YtijpffgocookaaaGreatDoor
open Go.RowKit
structure Rb (w : World) (lo : Nat) (A : Option Addr) (n c : Nat) (l : List Bool) : Prop where
 num : l.length = n
 len : n ≤ c
 at_ : 0 < n → ∃ b o, A = some ⟨b, o, none⟩ ∧ lo ≤ b ∧ ∀ j, j < n → w.cell? ⟨b, o + j, none⟩ = some (.bool (l.getD j false)) ∧ w.frozen? ⟨b, o + j, none⟩ = false
theorem Rb.up {w w' : World} {lo n c : Nat} {A : Option Addr} {l : List Bool} (h : Rb w lo A n c l) (hb : Up w w') : Rb w' lo A n c l :=
 ⟨h.num, h.len, fun hn => by
  obtain ⟨b, o, e, hlo, hc⟩ := h.at_ hn
  refine ⟨b, o, e, hlo, fun j hj => ?_⟩
  obtain ⟨h1, h2⟩ := hc j hj
  have hlt := World.block_lt_of_cell? w _ h1
  exact ⟨(Below.cell hb hlt).trans h1, (Below.frozen hb hlt).trans h2⟩⟩
theorem Rb.lower {w : World} {lo lo' n c : Nat} {A : Option Addr} {l : List Bool} (h : Rb w lo A n c l) (hl : lo' ≤ lo) : Rb w lo' A n c l :=
 ⟨h.num, h.len, fun hn => by
  obtain ⟨b, o, e, hb, hc⟩ := h.at_ hn
  exact ⟨b, o, e, Nat.le_trans hl hb, hc⟩⟩
theorem Rb.nil (w : World) (lo : Nat) (A : Option Addr) (c : Nat) : Rb w lo A 0 c [] := ⟨rfl, by omega, fun h => by omega⟩
theorem Rb.drop {w : World} {lo n c b o : Nat} {l : List Bool} (h : Rb w lo (some ⟨b, o, none⟩) n c l) {k : Nat} (hk : k ≤ n) : Rb w lo (some ⟨b, o + k, none⟩) (n - k) (c - k) (l.drop k) := by
 refine ⟨by rw [List.length_drop, h.num], by have := h.len; omega, fun hn => ?_⟩
 obtain ⟨b', o', e, hb, hc⟩ := h.at_ (by omega)
 injection e with e
 injection e with e1 e2
 subst e1 e2
 refine ⟨b, o + k, rfl, hb, fun j hj => ?_⟩
 have := hc (k + j) (by omega)
 rw [Nat.add_assoc, List.getD_eq_getElem?_getD, List.getElem?_drop, ← List.getD_eq_getElem?_getD]
 exact this
def cb (l : List Bool) : List Value := l.map .bool
theorem cb_append (a b : List Bool) : cb a ++ cb b = cb (a ++ b) := by simp [cb]
theorem cb_set (a : List Bool) (i : Nat) (x : Bool) : (cb a).set i (.bool x) = cb (a.set i x) := by simp [cb, List.map_set]
theorem cb_length (a : List Bool) : (cb a).length = a.length := by simp [cb]
theorem cb_get {a : List Bool} {j : Nat} (h : j < a.length) : (cb a)[j]? = some (.bool (a.getD j false)) := by
 simp [cb, List.getD_eq_getElem?_getD, List.getElem?_eq_getElem h]
theorem cb_one (a : List Bool) : ∀ u ∈ cb a, u.oneCell' = true := by
 intro u hu
 obtain ⟨_, _, rfl⟩ := List.mem_map.1 hu
 rfl
theorem info_bool : (Tryz.prog.info? 4).map (fun i => (i.zero, i.size, i.bytes)) = some (some (.bool false), 1, 1) := by kernel_rfl
abbrev Obw (w : World) (base : Nat) (v : Value) (n : Nat) (l : List Bool) : Prop := w.ownsRow base 4 1 v n (cb l)
section
variable {w w' : World} {base : Nat} {v : Value} {n : Nat} {l : List Bool}
theorem Obw.num (h : Obw w base v n l) : l.length = n := by have := h.1; rw [cb_length] at this; omega
theorem Obw.up (h : Obw w base v n l) (hu : Up w w') : Obw w' base v n l :=
 World.ownsRow.kept (row := none) h ⟨Below.os hu, Below.tape hu, Below.output hu, Below.size hu, fun j hj _ => Below.block hu j hj⟩ (by cases h : v.ownBlock <;> simp)
theorem Obw.rb (h : Obw w base v n l) : ∃ A c, v = .slice A n c ∧ Rb w base A n c l := by
 have hl := h.num
 rcases h.2 with ⟨rfl, rfl⟩ | ⟨g, cap, cur, rfl, hb, hg, hnc, hcm, hcs, htake⟩
 ·have : l = [] := List.eq_nil_of_length_eq_zero hl
  subst this
  exact ⟨none, 0, rfl, Rb.nil _ _ _ _⟩
 ·refine ⟨_, _, rfl, hl, hnc, fun hn => ⟨g, 0, rfl, hb, fun j hj => ?_⟩⟩
  have h1 := h.cellAt j (by omega)
  rw [cb_get (by omega)] at h1
  rw [Nat.zero_add]
  exact ⟨h1, h.frozenAt j⟩
theorem Obw.rb_ {A : Option Addr} {c : Nat} (h : Obw w base (.slice A n c) n l) : Rb w base A n c l := by
 obtain ⟨A', c', e, hd⟩ := h.rb
 injection e with e1 _ e2
 subst e1 e2
 exact hd
end
section
variable {P : Program} (w : World)
theorem append_rb (hP : (P.info? 4).map (fun i => (i.zero, i.size, i.bytes)) = some (some (.bool false), 1, 1)) (base : Nat) (t ty : TypeId) (ht : P.underlying t = some (.slice 4))
  (v : Value) (n : Nat) (xs : List Bool) (hown : Obw w base v n xs) (lo : Nat) (A : Option Addr) (m c : Nat) (ys : List Bool) (hy : Rb w lo A m c ys)
  (hn : n + m ≤ 1099511627776) (hbase : base ≤ w.heap.size) :
  ∃ v' w', (Builtin.append_ #[t, t] ty #[v, .slice A m c]).run P w = .ok v' w' ∧ Obw w' base v' (n + m) (xs ++ ys) ∧ w.grownBy w' v.ownBlock ∧ (v'.ownBlock = v.ownBlock ∨ v'.ownBlock = some w.heap.size) := by
 obtain ⟨i, hi, hz0, hz1, hz2⟩ := info_parts hP
 have hyn := hy.num
 have hsrc : ∀ ad, A = some ad → ∀ j u, (cb ys)[j]? = some u → w.cell? (ad.add j) = some u := by
  intro ad had j u hu
  have hj : j < m := by
   have := (List.getElem?_eq_some_iff.1 hu).1
   rw [cb_length] at this; omega
  obtain ⟨b, o, e, _, hc⟩ := hy.at_ (by omega)
  rw [e] at had
  obtain rfl := Option.some.inj had
  rw [Addr.add_lit, (hc j hj).1, ← cb_get (by omega)]
  exact hu
 rcases A with _ | ad
 ·have hm : m = 0 := by
   rcases Nat.eq_zero_or_pos m with h0 | h0
   ·exact h0
   ·obtain ⟨_, _, h, _⟩ := hy.at_ h0
    cases h
  subst hm
  have hys : ys = [] := List.eq_nil_of_length_eq_zero hyn
  subst hys
  exact ⟨v, w, append_of_none w base t ty _ i 1 ht hi v n _ hown c, by simpa using hown, World.grownBy.refl w _, .inl rfl⟩
 ·obtain ⟨v', w', hrun, h2, h3, _, h5⟩ := run_append_own_at (P := P) w base t ty _ i _ 1 1 ht hi hz0 hz1 hz2 rfl (by omega) v n _ hown ad m c (cb ys) (by rw [cb_length]; omega) (hsrc ad rfl) (cb_one _)
   (by simp only [maxLen]; omega) (by omega) hbase
  exact ⟨v', w', hrun, by rw [cb_append] at h2; exact h2, h3, h5⟩
theorem wpList_append_rb {ops : Array Oper} {rest : List Oper} {o : Oper} {a : Act} {Q : Exit → Act → World → Prop} (hgd : o.guard = none) (s x : Operand) (t : TypeId)
  (ho : o.op = .call { callee := .builtin .append, args := #[s, x], argTypes := #[t, t] })
  (hP : (P.info? 4).map (fun i => (i.zero, i.size, i.bytes)) = some (some (.bool false), 1, 1)) (base : Nat) (ht : P.underlying t = some (.slice 4))
  (v : Value) (n : Nat) (xs : List Bool) (hs : a.eval s = v) (hown : Obw w base v n xs) (lo : Nat) (A : Option Addr) (m c : Nat) (ys : List Bool) (hx : a.eval x = .slice A m c) (hy : Rb w lo A m c ys)
  (hn : n + m ≤ 1099511627776) (hbase : base ≤ w.heap.size)
  (h : ∀ v' w', Obw w' base v' (n + m) (xs ++ ys) → w.grownBy w' v.ownBlock → (v'.ownBlock = v.ownBlock ∨ v'.ownBlock = some w.heap.size) → wpList P ops Q rest (a.put o.dst v') w') :
  wpList P ops Q (o :: rest) a w := by
 refine wpList_plain hgd fun K hK => ?_
 obtain ⟨v', w', hr, h2, h3, h4⟩ := append_rb (P := P) w hP base t o.type ht v n xs hown lo A m c ys hy hn hbase
 unfold Oper.wp execOp
 simp only [ho, resolve, invoke, builtin, Sem.run_bind, Sem.run_pure, Result.andThen_ok, List.map_toArray, List.map_cons, List.map_nil, hs, hx, hr]
 exact hK _ _ (h v' w' h2 h3 h4)
end
theorem made_false (n : Nat) : (madeCells (Value.bool false).cells (n * 1)).toList = cb (List.replicate n false) := by
 have := toList_madeCells_one (.bool false) n
 rw [Nat.mul_one]
 refine Eq.trans (show _ = (madeCells #[Value.bool false] n).toList from rfl) (this.trans ?_)
 simp [cb]
theorem wpList_make_rb {P : Program} (w : World) {ops : Array Oper} {rest : List Oper} {o : Oper} {a : Act} {Q : Exit → Act → World → Prop}
  (hg : o.guard = none) (l c : Operand) (t : TypeId) (hop : o.op = Op.makeSlice t l c)
  (hP : (P.info? 4).map (fun i => (i.zero, i.size, i.bytes)) = some (some (.bool false), 1, 1)) (h1 : P.underlying t = some (.slice 4))
  (L C : Int) (n : Nat) (hl : a.eval l = .int .i64 L) (hc : a.eval c = .int .i64 C) (hL : L = (n : Int)) (hC : C = (n : Int)) (hn : n ≤ 1099511627776)
  (hK : ∀ w', Obw w' w.heap.size (.slice (some ⟨w.heap.size, 0, none⟩) n n) n (List.replicate n false) → w.grownBy w' none → wpList P ops Q rest (a.put o.dst (.slice (some ⟨w.heap.size, 0, none⟩) n n)) w') :
  wpList P ops Q (o :: rest) a w := by
 obtain ⟨i, hi, hz0, hz1, hz2⟩ := info_parts hP
 refine wpList_make_full w hg l c t hop w.heap.size 4 i _ 1 h1 hi hz0 hz1 .i64 .i64 L C n hl hc hL hC (by rw [hz2]; omega) (by simp only [maxLen]; omega) (Nat.le_refl _) fun w' k1 k2 => ?_
 exact hK w' (by rw [made_false] at k1; exact k1) k2
end Go.Proofs.YtijpffgocookaaaGreatDoor
