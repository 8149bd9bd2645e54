/-
  Rows of words that a call has made itself: append, make, stores.
-/
import Derived.Test.YteeepfhjbemgoaaDoorMem
import Derived.Maps.AppendAt
namespace Go.Proofs.YteeepfhjbemgoaaDoor
open Go.RowKit

/-- The cells of these words. -/
def cu (xs : List Nat) : List Value := xs.map u64
theorem cu_nil : cu [] = [] := rfl
theorem cu_append (a b : List Nat) : cu a ++ cu b = cu (a ++ b) := by simp [cu]
theorem cu_set (a : List Nat) (i x : Nat) : (cu a).set i (u64 x) = cu (a.set i x) := by simp [cu, List.map_set]
theorem cu_length (a : List Nat) : (cu a).length = a.length := by simp [cu]
theorem cu_get {a : List Nat} {j : Nat} (h : j < a.length) : (cu a)[j]? = some (u64 (a.getD j 0)) := by
  simp [cu, List.getD_eq_getElem?_getD, List.getElem?_eq_getElem h]
theorem cu_one (a : List Nat) : ∀ u ∈ cu a, u.oneCell' = true := by
  intro u hu
  obtain ⟨_, _, rfl⟩ := List.mem_map.1 hu
  rfl

theorem info_u64 : (Tryd.prog.info? 41).map (fun i => (i.zero, i.size, i.bytes)) = some (some (.int .u64 0), 1, 8) := by kernel_rfl

section
variable {w w' : World} {base : Nat} {v : Value} {n : Nat} {xs : List Nat} {t : TypeId}
/-- The row's own words: what the rest of the proof asks of them. -/
abbrev Ow (w : World) (base : Nat) (v : Value) (n : Nat) (xs : List Nat) : Prop := w.ownsRow base 41 1 v n (cu xs)

theorem Ow.num (h : Ow w base v n xs) : xs.length = n := by have := h.1; rw [cu_length] at this; omega
theorem Ow.wd (h : Ow w base v n xs) (hw : M.Wds xs) (hs : n ≤ 1099511627776) : ∃ A c, v = .slice A n c ∧ Wd w base A n c xs := by
  have hl := h.num
  rcases h.2 with ⟨rfl, rfl⟩ | ⟨g, cap, cur, rfl, hb, hg, hnc, hcm, hcs, htake⟩
  · have : xs = [] := List.eq_nil_of_length_eq_zero hl
    subst this
    exact ⟨none, 0, rfl, Wd.nil _ _ _ _⟩
  · refine ⟨_, _, rfl, hl, hnc, hs, hw, fun hn => ⟨g, 0, rfl, hb, fun j hj => ?_⟩⟩
    have h1 := h.cellAt j (by omega)
    rw [cu_get (by omega)] at h1
    rw [Nat.zero_add]
    exact ⟨h1, h.frozenAt j⟩
theorem Ow.wd_ {A : Option Addr} {c : Nat} (h : Ow w base (.slice A n c) n xs) (hw : M.Wds xs) (hs : n ≤ 1099511627776) : Wd w base A n c xs := by
  obtain ⟨A', c', e, hd⟩ := h.wd hw hs
  injection e with e1 _ e2
  subst e1 e2
  exact hd
theorem Ow.nw (h : Ow w base v n xs) (hw : M.Wds xs) (hs : n ≤ 1099511627776) : Nw w base n v (M.val xs) := by
  obtain ⟨A, c, rfl, hd⟩ := h.wd hw hs
  exact ⟨A, n, c, xs, rfl, hd, rfl, Nat.le_refl _⟩
end

section
variable {P : Program} (w : World)
theorem append_of_none (base : Nat) (t ty e : TypeId) (i : TypeInfo) (size : Nat) (ht : P.underlying t = some (.slice e)) (hi : P.info? e = some i)
    (v : Value) (n : Nat) (xs : List Value) (hown : w.ownsRow base e size v n xs) (c : Nat) : (Builtin.append_ #[t, t] ty #[v, .slice none 0 c]).run P w = .ok v w := by
  rcases hown.2 with ⟨rfl, rfl⟩ | ⟨g, cap, cur, rfl, _, _, hnc, _⟩
  · simp [Builtin.append_, run_underlying ht, sizeOf, typeInfo, hi, Builtin.lenOf, Builtin.firstCells]
  · simp [Builtin.append_, run_underlying ht, sizeOf, typeInfo, hi, Builtin.lenOf, Builtin.firstCells, hnc, storeCells]

/-- 'append(out, ys...)', both words: the source wherever it lies, nil too. -/
theorem append_wd (hP : (P.info? 41).map (fun i => (i.zero, i.size, i.bytes)) = some (some (.int .u64 0), 1, 8)) (base : Nat) (t ty : TypeId) (ht : P.underlying t = some (.slice 41))
    (v : Value) (n : Nat) (xs : List Nat) (hown : Ow w base v n xs) (lo : Nat) (A : Option Addr) (m c : Nat) (ys : List Nat) (hy : Wd w lo A m c ys)
    (hn : n + m ≤ 1099511627776) (hbase : base ≤ w.heap.size) :
    ∃ v' w', (Builtin.append_ #[t, t] ty #[v, .slice A m c]).run P w = .ok v' w' ∧ Ow w' base v' (n + m) (xs ++ ys) ∧ w.grownBy w' v.ownBlock ∧ (v'.ownBlock = v.ownBlock ∨ v'.ownBlock = some w.heap.size) := by
  obtain ⟨i, hi, hz0, hz1, hz2⟩ := info_parts hP
  have hyn := hy.num
  have hsrc : ∀ ad, A = some ad → ∀ j u, (cu ys)[j]? = some u → w.cell? (ad.add j) = some u := by
    intro ad had j u hu
    have hj : j < m := by
      have := (List.getElem?_eq_some_iff.1 hu).1
      rw [cu_length] at this; omega
    obtain ⟨b, o, e, _, hc⟩ := hy.at_ (by omega)
    rw [e] at had
    obtain rfl := Option.some.inj had
    rw [Addr.add_lit, (hc j hj).1, ← cu_get (by omega)]
    exact hu
  rcases A with _ | ad
  · have hm : m = 0 := by
      rcases Nat.eq_zero_or_pos m with h0 | h0
      · exact h0
      · obtain ⟨_, _, h, _⟩ := hy.at_ h0
        cases h
    subst hm
    have hys : ys = [] := List.eq_nil_of_length_eq_zero hyn
    subst hys
    exact ⟨v, w, append_of_none w base t ty _ i 1 ht hi v n _ hown c, by simpa using hown, World.grownBy.refl w _, .inl rfl⟩
  · obtain ⟨v', w', hrun, h2, h3, _, h5⟩ := run_append_own_at (P := P) w base t ty _ i _ 1 8 ht hi hz0 hz1 hz2 rfl (by omega) v n _ hown ad m c (cu ys) (by rw [cu_length]; omega) (hsrc ad rfl) (cu_one _)
      (by simp only [maxLen]; omega) (by omega) hbase
    exact ⟨v', w', hrun, by rw [cu_append] at h2; exact h2, h3, h5⟩

theorem wpList_append_wd {ops : Array Oper} {rest : List Oper} {o : Oper} {a : Act} {Q : Exit → Act → World → Prop} (hgd : o.guard = none) (s x : Operand) (t : TypeId)
    (ho : o.op = .call { callee := .builtin .append, args := #[s, x], argTypes := #[t, t] })
    (hP : (P.info? 41).map (fun i => (i.zero, i.size, i.bytes)) = some (some (.int .u64 0), 1, 8)) (base : Nat) (ht : P.underlying t = some (.slice 41))
    (v : Value) (n : Nat) (xs : List Nat) (hs : a.eval s = v) (hown : Ow w base v n xs) (lo : Nat) (A : Option Addr) (m c : Nat) (ys : List Nat) (hx : a.eval x = .slice A m c) (hy : Wd w lo A m c ys)
    (hn : n + m ≤ 1099511627776) (hbase : base ≤ w.heap.size)
    (h : ∀ v' w', Ow w' base v' (n + m) (xs ++ ys) → w.grownBy w' v.ownBlock → (v'.ownBlock = v.ownBlock ∨ v'.ownBlock = some w.heap.size) → wpList P ops Q rest (a.put o.dst v') w') :
    wpList P ops Q (o :: rest) a w := by
  refine wpList_plain hgd fun K hK => ?_
  obtain ⟨v', w', hr, h2, h3, h4⟩ := append_wd (P := P) w hP base t o.type ht v n xs hown lo A m c ys hy hn hbase
  unfold Oper.wp execOp
  simp only [ho, resolve, invoke, builtin, Sem.run_bind, Sem.run_pure, Result.andThen_ok, List.map_toArray, List.map_cons, List.map_nil, hs, hx, hr]
  exact hK _ _ (h v' w' h2 h3 h4)
end

set_option maxHeartbeats 400000 in
theorem norm_any (w : World) (lo s : Nat) (v : Value) (a : Nat) (h : Nw w lo s v a) : Calls Tryd.prog 29 #[v] w (Res s a w) := by
  obtain ⟨A, n, c, xs, rfl, hx, ha, hns⟩ := h
  have HA := Lib.hid ha
  clear ha
  go_enter Tryd.func29, Tryd.ntmps29
  go_wp2_with fail
  refine (trim_any w lo A n c xs hx).mono ?_
  rintro _ _ ⟨m, ys, rfl, rfl, hy, hny, hv, hmn⟩
  have HV : Hid (M.val ys = a) := hv.trans HA.out
  clear hv HA hx
  have hs := hy.small
  go_wp2_with (at_builtin; refine wpList_append_wd _ rfl (.const (.slice none 0 0)) (.tmp 4) _ rfl info_u64 w.heap.size Tryd.underlying23 (.slice none 0 0) 0 [] rfl (World.ownsRow_nil _ _ _ _) lo A m c ys rfl hy (by omega) (Nat.le_refl _) ?_; intro v1 w1 hown1 hg1 hat1)
  go_ret
  have hup : Up w w1 := (Up.refl w).grown hg1 (by simp [Value.ownBlock])
  obtain ⟨A', c', rfl, hd⟩ := Ow.wd hown1 (M.Wds.append M.Wds.nil hy.wds) (by omega)
  exact ⟨_, rfl, ⟨A', _, c', _, rfl, hd, HV.out, by omega, hny⟩, hup⟩

set_option maxHeartbeats 400000 in
theorem of_any (w : World) (x : Nat) (hx : x < 18446744073709551616) : Calls Tryd.prog 53 #[u64 x] w (Res 1 x w) := by
  have hown : Ow (w.alloc (.cells #[u64 x] 41)) w.heap.size (.slice (some ⟨w.heap.size, 0, none⟩) 1 1) 1 [x] := World.ownsRow_lit w #[u64 x] 1 (Nat.le_refl _) (by simp only [maxLen]; omega) rfl
  have hnw : Nw (w.alloc (.cells #[u64 x] 41)) w.heap.size 1 (.slice (some ⟨w.heap.size, 0, none⟩) 1 1) x := by
    have := Ow.nw hown (M.Wds.cons hx M.Wds.nil) (by omega)
    rwa [show M.val [x] = x from by simp [M.val]] at this
  clear hown hx
  go_enter Tryd.func53, Tryd.ntmps53
  go_wp2_with fail
  refine (norm_any _ _ _ _ x hnw).mono ?_
  rintro _ w1 ⟨v1, rfl, h1, h2⟩
  clear hnw
  go_wp2_with fail
  go_ret
  have hu := (Up.refl w).alloc (.cells #[u64 x] 41)
  exact ⟨_, rfl, h1.lower hu.size, hu.trans h2⟩

set_option maxHeartbeats 400000 in
theorem word_any (w : World) (lo s : Nat) (v : Value) (a : Nat) (h : Nw w lo s v a) :
    Calls Tryd.prog 54 #[v] w (Same (.tuple #[u64 (a % 18446744073709551616), .bool (decide (a < 18446744073709551616))]) w) := by
  obtain ⟨A, n, c, xs, rfl, hx, ha, hns⟩ := h
  have e1 : xs.getD (0 : Int).toNat 0 = a % 18446744073709551616 := by
    rw [← ha]; exact M.getD_zero hx.wds
  go_enter Tryd.func54, Tryd.ntmps54
  have E1 := Lib.hid e1
  have HA := Lib.hid ha
  clear ha e1
  go_wp2_with fail
  refine (wordAt_any w lo A n c xs hx 0 (by omega) (by omega)).mono ?_
  rintro _ _ ⟨rfl, rfl⟩
  rw [E1.out]
  go_wp2_with fail
  refine (trim_any w lo A n c xs hx).mono ?_
  rintro _ _ ⟨m, ys, rfl, rfl, hy, hny, hv, hmn⟩
  have e2 : decide ((m : Int) ≤ 1) = decide (a < 18446744073709551616) := by
    rw [← HA.out, ← hv]; exact (M.len_le_one hy.wds hny hy.num)
  have E2 := Lib.hid e2
  clear e2 hv hx
  go_wp2_with fail
  go_ret2
  exact ⟨by rw [← E2.out]; rfl, rfl⟩
end Go.Proofs.YteeepfhjbemgoaaDoor
