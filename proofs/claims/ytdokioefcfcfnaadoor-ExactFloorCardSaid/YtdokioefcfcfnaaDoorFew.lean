/-
  few: words that come in, cut and copied.
-/
import Derived.Test.YtdokioefcfcfnaaDoorShown
namespace Go.Proofs.YtdokioefcfcfnaaDoor
open Go.RowKit Go.Shelf

/-- The slice '.slice A n c', wherever it lies, reads as the words xs. -/
structure Src (w : World) (A : Option Addr) (n c : Nat) (xs : List Nat) : Prop where
  num : xs.length = n
  len : n ≤ c
  wds : M.Wds xs
  none_ : A = none → c = 0
  at_ : ∀ ad, A = some ad → ∀ j, j < n → w.cell? (ad.add j) = some (u64 (xs.getD j 0))
theorem Src.take {w : World} {A : Option Addr} {n c : Nat} {xs : List Nat} (h : Src w A n c xs) {m : Nat} (hm : m ≤ n) : Src w A m c (xs.take m) := by
  refine ⟨by rw [List.length_take, h.num, Nat.min_eq_left hm], Nat.le_trans hm h.len, h.wds.take m, h.none_, fun ad hA j hj => ?_⟩
  rw [h.at_ ad hA j (by omega), List.getD_eq_getElem?_getD, List.getD_eq_getElem?_getD, List.getElem?_take_of_lt hj]
theorem Src.up {w w' : World} {A : Option Addr} {n c : Nat} {xs : List Nat} (h : Src w A n c xs) (hu : Up w w') : Src w' A n c xs := by
  refine ⟨h.num, h.len, h.wds, h.none_, fun ad hA j hj => ?_⟩
  have h1 := h.at_ ad hA j hj
  rw [Below.cell hu (World.block_lt_of_cell? w _ h1)]
  exact h1

section
variable {P : Program} (w : World)
theorem append_src (hP : (P.info? 24).map (fun i => (i.zero, i.size, i.bytes)) = some (some (.int .u64 0), 1, 8)) (base : Nat) (t ty : TypeId) (ht : P.underlying t = some (.slice 24))
    (v : Value) (n : Nat) (xs : List Nat) (hown : Ow w base v n xs) (A : Option Addr) (m c : Nat) (ys : List Nat) (hy : Src w A m c ys)
    (hn : n + m ≤ 1099511627776) (hbase : base ≤ w.heap.size) :
    ∃ v' w', (Builtin.append_ #[t, t] ty #[v, .slice A m c]).run P w = .ok v' w' ∧ Ow w' base v' (n + m) (xs ++ ys) ∧ w.grownBy w' v.ownBlock ∧ (v'.ownBlock = v.ownBlock ∨ v'.ownBlock = some w.heap.size) := by
  obtain ⟨i, hi, hz0, hz1, hz2⟩ := info_parts hP
  have hyn := hy.num
  have hsrc : ∀ ad, A = some ad → ∀ j u, (cu ys)[j]? = some u → w.cell? (ad.add j) = some u := by
    intro ad had j u hu
    have hj : j < m := by
      have := (List.getElem?_eq_some_iff.1 hu).1
      rw [cu_length] at this; omega
    rw [hy.at_ ad had j hj, ← cu_get (by omega)]
    exact hu
  rcases A with _ | ad
  · have hm : m = 0 := by have := hy.len; have := hy.none_ rfl; omega
    subst hm
    have hys : ys = [] := List.eq_nil_of_length_eq_zero hyn
    subst hys
    exact ⟨v, w, append_of_none w base t ty _ i 1 ht hi v n _ hown c, by simpa using hown, World.grownBy.refl w _, .inl rfl⟩
  · obtain ⟨v', w', hrun, h2, h3, _, h5⟩ := run_append_own_at (P := P) w base t ty _ i _ 1 8 ht hi hz0 hz1 hz2 rfl (by omega) v n _ hown ad m c (cu ys) (by rw [cu_length]; omega) (hsrc ad rfl) (cu_one _)
      (by simp only [maxLen]; omega) (by omega) hbase
    exact ⟨v', w', hrun, by rw [cu_append] at h2; exact h2, h3, h5⟩
theorem wpList_append_src {ops : Array Oper} {rest : List Oper} {o : Oper} {a : Act} {Q : Exit → Act → World → Prop} (hgd : o.guard = none) (s x : Operand) (t : TypeId)
    (ho : o.op = .call { callee := .builtin .append, args := #[s, x], argTypes := #[t, t] })
    (hP : (P.info? 24).map (fun i => (i.zero, i.size, i.bytes)) = some (some (.int .u64 0), 1, 8)) (base : Nat) (ht : P.underlying t = some (.slice 24))
    (v : Value) (n : Nat) (xs : List Nat) (hs : a.eval s = v) (hown : Ow w base v n xs) (A : Option Addr) (m c : Nat) (ys : List Nat) (hx : a.eval x = .slice A m c) (hy : Src w A m c ys)
    (hn : n + m ≤ 1099511627776) (hbase : base ≤ w.heap.size)
    (h : ∀ v' w', Ow w' base v' (n + m) (xs ++ ys) → w.grownBy w' v.ownBlock → (v'.ownBlock = v.ownBlock ∨ v'.ownBlock = some w.heap.size) → wpList P ops Q rest (a.put o.dst v') w') :
    wpList P ops Q (o :: rest) a w := by
  refine wpList_plain hgd fun K hK => ?_
  obtain ⟨v', w', hr, h2, h3, h4⟩ := append_src (P := P) w hP base t o.type ht v n xs hown A m c ys hy hn hbase
  unfold Oper.wp execOp
  simp only [ho, resolve, invoke, builtin, Sem.run_bind, Sem.run_pure, Result.andThen_ok, List.map_toArray, List.map_cons, List.map_nil, hs, hx, hr]
  exact hK _ _ (h v' w' h2 h3 h4)
end

/-- What few comes to: some number of at most so many words. -/
def Few (s : Nat) (w : World) (e : Ending) (w' : World) : Prop := ∃ v a, e = .returned v ∧ Nw w' w.heap.size s v a ∧ Up w w'

set_option maxHeartbeats 400000 in
set_option maxRecDepth 100000 in
theorem few_any (w : World) (A : Option Addr) (n c : Nat) (xs : List Nat) (h : Src w A n c xs) (L : Nat) (hL : L ≤ 100) :
    Calls Tryd.prog 15 #[.slice A n c, .int .i64 L] w (Few L w) := by
  obtain ⟨k, hk, hk1, hk2⟩ : ∃ k : Nat, min (n : Int) (L : Int) = (k : Int) ∧ k ≤ n ∧ k ≤ L := ⟨min n L, by omega, by omega, by omega⟩
  have hc := h.len
  have hs := h.take hk1
  have hs2 := hs.up ((Up.refl w).alloc (.cells #[] 24))
  have hown : Ow (w.alloc (.cells #[] 24)) w.heap.size (.slice (some ⟨w.heap.size, 0, none⟩) 0 0) 0 [] := World.ownsRow_lit w #[] 0 (Nat.le_refl _) (by simp only [maxLen]; omega) rfl
  clear h hs
  go_enter Tryd.func15, Tryd.ntmps15
  go_wp2_with (at_builtin; refine wpList_append_src _ rfl (.tmp 5) (.tmp 11) _ rfl info_u64 w.heap.size Tryd.underlying23 _ 0 [] rfl hown A k c _ rfl hs2 (by omega) (by simp) ?_; intro v1 w1 hown1 hg1 hat1)
  go_ret
  have hup : Up w w1 := ((Up.refl w).alloc (.cells #[] 24)).grown hg1 (fun b hb => (World.ownsRow.lt hown b hb).1)
  have hnw := Ow.nw hown1 (M.Wds.append M.Wds.nil hs2.wds) (by omega)
  exact ⟨v1, _, rfl, hnw.more (by omega), hup⟩
theorem few_lit (w : World) (A : Option Addr) (n c : Nat) (xs : List Nat) (h : Src w A n c xs) (L : Nat) (LL : Int) (hLL : LL = (L : Int)) (hL : L ≤ 100) :
    Calls Tryd.prog 15 #[.slice A n c, .int .i64 LL] w (Few L w) := by
  subst hLL
  exact few_any w A n c xs h L hL
end Go.Proofs.YtdokioefcfcfnaaDoor
