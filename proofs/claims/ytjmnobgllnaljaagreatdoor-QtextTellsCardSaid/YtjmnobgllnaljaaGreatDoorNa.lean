/-
  Package nat: what compares, adds, multiplies, shifts, as its contracts; slices that came in.
-/
import Derived.Test.YtjmnobgllnaljaaGreatDoorMem
import Derived.Maps.AppendAt
import Derived.Test.YtjmnobgllnaljaaGreatDoorShelf
import Derived.Shelf.Spec.BitsCarry
import Derived.Test.YtjmnobgllnaljaaGreatDoorMath2
import Derived.RegionTactic
/-
  cmp.Compare, nat.Cmp: their contracts.
-/
namespace Go.Proofs.YtjmnobgllnaljaaGreatDoor
open Go.RowKit

set_option maxHeartbeats 400000 in
theorem compare_u64 (w : World) (x y : Nat) : Calls Tryz.prog 37 #[u64 x, u64 y] w (Same (.int .i64 (M.cmp x y)) w) := by
  rcases Nat.lt_trichotomy x y with h | h | h
  · rw [M.cmp_lt h]
    go_enter Tryz.func37, Tryz.ntmps37
    go_wp2
    go_ret
    exact ⟨rfl, rfl⟩
  · rw [M.cmp_eq h]
    subst h
    go_enter Tryz.func37, Tryz.ntmps37
    go_wp2
    go_ret
    exact ⟨rfl, rfl⟩
  · rw [M.cmp_gt h]
    go_enter Tryz.func37, Tryz.ntmps37
    go_wp2
    go_ret
    exact ⟨rfl, rfl⟩

set_option maxHeartbeats 400000 in
theorem compare_int (w : World) (x y : Nat) : Calls Tryz.prog 36 #[.int .i64 x, .int .i64 y] w (Same (.int .i64 (M.cmp x y)) w) := by
  rcases Nat.lt_trichotomy x y with h | h | h
  · rw [M.cmp_lt h]
    go_enter Tryz.func36, Tryz.ntmps36
    go_wp2
    go_ret
    exact ⟨rfl, rfl⟩
  · rw [M.cmp_eq h]
    subst h
    go_enter Tryz.func36, Tryz.ntmps36
    go_wp2
    go_ret
    exact ⟨rfl, rfl⟩
  · rw [M.cmp_gt h]
    go_enter Tryz.func36, Tryz.ntmps36
    go_wp2
    go_ret
    exact ⟨rfl, rfl⟩

/-- cmp.Compare of lengths. -/
theorem M.cmp_of_lt {xs ys : List Nat} (hx : M.Wds xs) (hy : M.Nrm ys) (h : xs.length < ys.length) : M.cmp (M.val xs) (M.val ys) = M.cmp xs.length ys.length := by
  rw [M.cmp_lt h, M.cmp_lt (M.val_lt_of_length hx hy h)]
theorem M.cmp_of_ne {xs ys : List Nat} (hx : M.Wds xs) (hy : M.Wds ys) (hnx : M.Nrm xs) (hny : M.Nrm ys) (h : xs.length ≠ ys.length) : M.cmp (M.val xs) (M.val ys) = M.cmp xs.length ys.length := by
  rcases Nat.lt_or_gt_of_ne h with h | h
  · exact M.cmp_of_lt hx hny h
  · rw [M.cmp_gt h, M.cmp_gt (M.val_lt_of_length hy hnx h)]

set_option maxHeartbeats 400000 in
theorem cmp_any (w : World) (lo lo' s s' : Nat) (v v' : Value) (a b : Nat) (h : Nw w lo s v a) (h' : Nw w lo' s' v' b) :
    Calls Tryz.prog 15 #[v, v'] w (Val (.int .i64 (M.cmp a b)) w) := by
  obtain ⟨A, n, c, xs, rfl, hx, ha, _⟩ := h
  obtain ⟨A', n', c', xs', rfl, hx', hb, _⟩ := h'
  have HA := Lib.hid ha
  have HB := Lib.hid hb
  clear ha hb
  go_enter Tryz.func15, Tryz.ntmps15
  go_wp2_with fail
  refine (trim_any w lo A n c xs hx).mono ?_
  rintro _ _ ⟨m, ys, rfl, rfl, hy, hny, hv, hmn⟩
  have HV : Hid (M.val ys = a) := hv.trans HA.out
  clear hx hv HA
  go_wp2_with fail
  refine (trim_any w lo' A' n' c' xs' hx').mono ?_
  rintro _ _ ⟨m', ys', rfl, rfl, hy', hny', hv', hmn'⟩
  have HV' : Hid (M.val ys' = b) := hv'.trans HB.out
  clear hx' hv' HB
  have b1 := hy.len
  have b2 := hy.small
  have b3 := hy'.len
  have b4 := hy'.small
  by_cases hm : m = m'
  · subst hm
    have hneq : ((m : Int) != (m : Int)) = false := by simp
    have fin0 : (∀ j, 0 ≤ j → j < m → ys.getD j 0 = ys'.getD j 0) → M.cmp a b = 0 := by
      intro hz
      have e : ys = ys' := M.ext_getD (by rw [hy.num, hy'.num]) (fun j hj => hz j (by omega) (by rw [← hy.num]; exact hj))
      rw [← HV.out, ← HV'.out, e]
      exact M.cmp_eq rfl
    have fin1 : ∀ k, k < m → ys.getD k 0 ≠ ys'.getD k 0 → (∀ j, k + 1 ≤ j → j < m → ys.getD j 0 = ys'.getD j 0) → M.cmp (ys.getD k 0) (ys'.getD k 0) = M.cmp a b := by
      intro k hk hne hz
      rw [← HV.out, ← HV'.out]
      exact (M.cmp_of_get hy.wds hy'.wds (by rw [hy.num, hy'.num]) (by rw [hy.num]; exact hk) hne (fun j h1 h2 => hz j h1 (by rw [← hy.num]; exact h2))).symm
    have F0 := Lib.hid fin0
    have F1 := Lib.hid fin1
    have h4 := hy.at_
    have h4' := hy'.at_
    clear fin0 fin1 HV HV' hy hy' hny hny'
    go_wp2_with fail
    go_loopw [5] (fun i wr => ∃ (k : Int) (q : Nat), -1 ≤ k ∧ k < m ∧ i = .int .i64 k ∧ wr = w.drewN q ∧ Hid (∀ j : Nat, k + 1 ≤ j → j < m → ys.getD j 0 = ys'.getD j 0)) (fun i _ => (intOf i + 1).toNat)
    case atStart => exact ⟨(m : Int) - 1, 0, by omega, by omega, rfl, rfl, fun j _ _ => by omega⟩
    case round =>
      obtain ⟨k, q, hk1, hk2, rfl, rfl, HZ⟩ := hrel
      by_cases hk0 : k = -1
      · subst hk0
        go_wp2
        go_ret
        exact ⟨ret_int (F0.out fun j _ h2 => HZ.out j (by omega) h2).symm, q, rfl⟩
      · obtain ⟨i, rfl⟩ := Int.eq_ofNat_of_zero_le (show 0 ≤ k by omega)
        obtain ⟨b, o, rfl, hb, hc⟩ := h4 (by omega)
        obtain ⟨b', o', rfl, hb', hc'⟩ := h4' (by omega)
        have hc1 := (hc i (by omega)).1
        have hc1' := (hc' i (by omega)).1
        clear hc hc' hk0 h4 h4' hk1
        have FF := F1.out i (by omega)
        obtain ⟨x, hx⟩ : ∃ x, ys.getD i 0 = x := ⟨_, rfl⟩
        obtain ⟨y, hy⟩ : ∃ y, ys'.getD i 0 = y := ⟨_, rfl⟩
        rw [hx] at hc1
        rw [hy] at hc1'
        rw [hx, hy] at FF
        have FH := Lib.hid FF
        have HX := Lib.hid hx
        have HY := Lib.hid hy
        clear FF hx hy F1
        by_cases hxy : x = y
        · subst hxy
          have ht : ((x : Int) != (x : Int)) = false := by simp
          go_wp2_with fail
          go_quiet (fail)
          go_wp2
          go_roundw
          case rel =>
            refine ⟨(i : Int) - 1, _, by omega, by omega, rfl, rfl, fun j h1 h2 => ?_⟩
            by_cases hj : j = i
            · rw [hj, HX.out, HY.out]
            · exact HZ.out j (by omega) h2
          case measure => simp [intOf]
        · have ht : ((x : Int) != (y : Int)) = true := by rw [bne_iff_ne]; omega
          have FIN := Lib.hid (FH.out hxy (fun j h1 h2 => HZ.out j (by omega) h2))
          clear FH hxy
          go_wp2_with fail
          go_quiet (fail)
          go_wp2_with fail
          go_quiet ((go_at_call 37; exact Same.quiet2 (compare_u64 _ _ _)))
          go_wp2_with fail
          go_ret
          exact ⟨ret_int FIN.out, _, by rw [World.drewN_drewN, World.drewN_drewN]⟩
  · have hneq : ((m : Int) != (m' : Int)) = true := by rw [bne_iff_ne]; omega
    have fin : M.cmp m m' = M.cmp a b := by
      rw [← HV.out, ← HV'.out, M.cmp_of_ne hy.wds hy'.wds hny hny' (by rw [hy.num, hy'.num]; exact hm), hy.num, hy'.num]
    have FIN := Lib.hid fin
    clear HV HV' hy hy' hny hny' fin
    go_wp2_with fail
    refine (compare_int w m m').mono ?_
    rintro _ _ ⟨rfl, rfl⟩
    go_wp2_with fail
    go_ret
    exact ⟨ret_int FIN.out, 0, rfl⟩
end Go.Proofs.YtjmnobgllnaljaaGreatDoor
/-
  Rows of words that a call has made itself: append, make, stores.
-/
namespace Go.Proofs.YtjmnobgllnaljaaGreatDoor
open Go.RowKit

/-- The cells of these words. -/
def cu (xs : List Nat) : List Value := xs.map u64
theorem cu_nil : cu [] = [] := rfl
theorem cu_append (a b : List Nat) : cu a ++ cu b = cu (a ++ b) := by simp [cu]
theorem cu_set (a : List Nat) (i x : Nat) : (cu a).set i (u64 x) = cu (a.set i x) := by simp [cu, List.map_set]
theorem cu_length (a : List Nat) : (cu a).length = a.length := by simp [cu]
theorem cu_get {a : List Nat} {j : Nat} (h : j < a.length) : (cu a)[j]? = some (u64 (a.getD j 0)) := by
  simp [cu, List.getD_eq_getElem?_getD, List.getElem?_eq_getElem h]
theorem cu_one (a : List Nat) : ∀ u ∈ cu a, u.oneCell' = true := by
  intro u hu
  obtain ⟨_, _, rfl⟩ := List.mem_map.1 hu
  rfl

theorem info_u64 : (Tryz.prog.info? 37).map (fun i => (i.zero, i.size, i.bytes)) = some (some (.int .u64 0), 1, 8) := by kernel_rfl

section
variable {w w' : World} {base : Nat} {v : Value} {n : Nat} {xs : List Nat} {t : TypeId}
/-- The row's own words: what the rest of the proof asks of them. -/
abbrev Ow (w : World) (base : Nat) (v : Value) (n : Nat) (xs : List Nat) : Prop := w.ownsRow base 37 1 v n (cu xs)

theorem Ow.num (h : Ow w base v n xs) : xs.length = n := by have := h.1; rw [cu_length] at this; omega
theorem Ow.wd (h : Ow w base v n xs) (hw : M.Wds xs) (hs : n ≤ 1099511627776) : ∃ A c, v = .slice A n c ∧ Wd w base A n c xs := by
  have hl := h.num
  rcases h.2 with ⟨rfl, rfl⟩ | ⟨g, cap, cur, rfl, hb, hg, hnc, hcm, hcs, htake⟩
  · have : xs = [] := List.eq_nil_of_length_eq_zero hl
    subst this
    exact ⟨none, 0, rfl, Wd.nil _ _ _ _⟩
  · refine ⟨_, _, rfl, hl, hnc, hs, hw, fun hn => ⟨g, 0, rfl, hb, fun j hj => ?_⟩⟩
    have h1 := h.cellAt j (by omega)
    rw [cu_get (by omega)] at h1
    rw [Nat.zero_add]
    exact ⟨h1, h.frozenAt j⟩
theorem Ow.wd_ {A : Option Addr} {c : Nat} (h : Ow w base (.slice A n c) n xs) (hw : M.Wds xs) (hs : n ≤ 1099511627776) : Wd w base A n c xs := by
  obtain ⟨A', c', e, hd⟩ := h.wd hw hs
  injection e with e1 _ e2
  subst e1 e2
  exact hd
theorem Ow.nw (h : Ow w base v n xs) (hw : M.Wds xs) (hs : n ≤ 1099511627776) : Nw w base n v (M.val xs) := by
  obtain ⟨A, c, rfl, hd⟩ := h.wd hw hs
  exact ⟨A, n, c, xs, rfl, hd, rfl, Nat.le_refl _⟩
end

section
variable {P : Program} (w : World)
theorem append_of_none (base : Nat) (t ty e : TypeId) (i : TypeInfo) (size : Nat) (ht : P.underlying t = some (.slice e)) (hi : P.info? e = some i)
    (v : Value) (n : Nat) (xs : List Value) (hown : w.ownsRow base e size v n xs) (c : Nat) : (Builtin.append_ #[t, t] ty #[v, .slice none 0 c]).run P w = .ok v w := by
  rcases hown.2 with ⟨rfl, rfl⟩ | ⟨g, cap, cur, rfl, _, _, hnc, _⟩
  · simp [Builtin.append_, run_underlying ht, sizeOf, typeInfo, hi, Builtin.lenOf, Builtin.firstCells]
  · simp [Builtin.append_, run_underlying ht, sizeOf, typeInfo, hi, Builtin.lenOf, Builtin.firstCells, hnc, storeCells]

/-- 'append(out, ys...)', both words: the source wherever it lies, nil too. -/
theorem append_wd (hP : (P.info? 37).map (fun i => (i.zero, i.size, i.bytes)) = some (some (.int .u64 0), 1, 8)) (base : Nat) (t ty : TypeId) (ht : P.underlying t = some (.slice 37))
    (v : Value) (n : Nat) (xs : List Nat) (hown : Ow w base v n xs) (lo : Nat) (A : Option Addr) (m c : Nat) (ys : List Nat) (hy : Wd w lo A m c ys)
    (hn : n + m ≤ 1099511627776) (hbase : base ≤ w.heap.size) :
    ∃ v' w', (Builtin.append_ #[t, t] ty #[v, .slice A m c]).run P w = .ok v' w' ∧ Ow w' base v' (n + m) (xs ++ ys) ∧ w.grownBy w' v.ownBlock ∧ (v'.ownBlock = v.ownBlock ∨ v'.ownBlock = some w.heap.size) := by
  obtain ⟨i, hi, hz0, hz1, hz2⟩ := info_parts hP
  have hyn := hy.num
  have hsrc : ∀ ad, A = some ad → ∀ j u, (cu ys)[j]? = some u → w.cell? (ad.add j) = some u := by
    intro ad had j u hu
    have hj : j < m := by
      have := (List.getElem?_eq_some_iff.1 hu).1
      rw [cu_length] at this; omega
    obtain ⟨b, o, e, _, hc⟩ := hy.at_ (by omega)
    rw [e] at had
    obtain rfl := Option.some.inj had
    rw [Addr.add_lit, (hc j hj).1, ← cu_get (by omega)]
    exact hu
  rcases A with _ | ad
  · have hm : m = 0 := by
      rcases Nat.eq_zero_or_pos m with h0 | h0
      · exact h0
      · obtain ⟨_, _, h, _⟩ := hy.at_ h0
        cases h
    subst hm
    have hys : ys = [] := List.eq_nil_of_length_eq_zero hyn
    subst hys
    exact ⟨v, w, append_of_none w base t ty _ i 1 ht hi v n _ hown c, by simpa using hown, World.grownBy.refl w _, .inl rfl⟩
  · obtain ⟨v', w', hrun, h2, h3, _, h5⟩ := run_append_own_at (P := P) w base t ty _ i _ 1 8 ht hi hz0 hz1 hz2 rfl (by omega) v n _ hown ad m c (cu ys) (by rw [cu_length]; omega) (hsrc ad rfl) (cu_one _)
      (by simp only [maxLen]; omega) (by omega) hbase
    exact ⟨v', w', hrun, by rw [cu_append] at h2; exact h2, h3, h5⟩

theorem wpList_append_wd {ops : Array Oper} {rest : List Oper} {o : Oper} {a : Act} {Q : Exit → Act → World → Prop} (hgd : o.guard = none) (s x : Operand) (t : TypeId)
    (ho : o.op = .call { callee := .builtin .append, args := #[s, x], argTypes := #[t, t] })
    (hP : (P.info? 37).map (fun i => (i.zero, i.size, i.bytes)) = some (some (.int .u64 0), 1, 8)) (base : Nat) (ht : P.underlying t = some (.slice 37))
    (v : Value) (n : Nat) (xs : List Nat) (hs : a.eval s = v) (hown : Ow w base v n xs) (lo : Nat) (A : Option Addr) (m c : Nat) (ys : List Nat) (hx : a.eval x = .slice A m c) (hy : Wd w lo A m c ys)
    (hn : n + m ≤ 1099511627776) (hbase : base ≤ w.heap.size)
    (h : ∀ v' w', Ow w' base v' (n + m) (xs ++ ys) → w.grownBy w' v.ownBlock → (v'.ownBlock = v.ownBlock ∨ v'.ownBlock = some w.heap.size) → wpList P ops Q rest (a.put o.dst v') w') :
    wpList P ops Q (o :: rest) a w := by
  refine wpList_plain hgd fun K hK => ?_
  obtain ⟨v', w', hr, h2, h3, h4⟩ := append_wd (P := P) w hP base t o.type ht v n xs hown lo A m c ys hy hn hbase
  unfold Oper.wp execOp
  simp only [ho, resolve, invoke, builtin, Sem.run_bind, Sem.run_pure, Result.andThen_ok, List.map_toArray, List.map_cons, List.map_nil, hs, hx, hr]
  exact hK _ _ (h v' w' h2 h3 h4)
end

set_option maxHeartbeats 400000 in
theorem norm_any (w : World) (lo s : Nat) (v : Value) (a : Nat) (h : Nw w lo s v a) : Calls Tryz.prog 20 #[v] w (Res s a w) := by
  obtain ⟨A, n, c, xs, rfl, hx, ha, hns⟩ := h
  have HA := Lib.hid ha
  clear ha
  go_enter Tryz.func20, Tryz.ntmps20
  go_wp2_with fail
  refine (trim_any w lo A n c xs hx).mono ?_
  rintro _ _ ⟨m, ys, rfl, rfl, hy, hny, hv, hmn⟩
  have HV : Hid (M.val ys = a) := hv.trans HA.out
  clear hv HA hx
  have hs := hy.small
  go_wp2_with (at_builtin; refine wpList_append_wd _ rfl (.const (.slice none 0 0)) (.tmp 4) _ rfl info_u64 w.heap.size Tryz.underlying23 (.slice none 0 0) 0 [] rfl (World.ownsRow_nil _ _ _ _) lo A m c ys rfl hy (by omega) (Nat.le_refl _) ?_; intro v1 w1 hown1 hg1 hat1)
  go_ret
  have hup : Up w w1 := (Up.refl w).grown hg1 (by simp [Value.ownBlock])
  obtain ⟨A', c', rfl, hd⟩ := Ow.wd hown1 (M.Wds.append M.Wds.nil hy.wds) (by omega)
  exact ⟨_, rfl, ⟨A', _, c', _, rfl, hd, HV.out, by omega, hny⟩, hup⟩

set_option maxHeartbeats 400000 in
theorem of_any (w : World) (x : Nat) (hx : x < 18446744073709551616) : Calls Tryz.prog 91 #[u64 x] w (Res 1 x w) := by
  have hown : Ow (w.alloc (.cells #[u64 x] 37)) w.heap.size (.slice (some ⟨w.heap.size, 0, none⟩) 1 1) 1 [x] := World.ownsRow_lit w #[u64 x] 1 (Nat.le_refl _) (by simp only [maxLen]; omega) rfl
  have hnw : Nw (w.alloc (.cells #[u64 x] 37)) w.heap.size 1 (.slice (some ⟨w.heap.size, 0, none⟩) 1 1) x := by
    have := Ow.nw hown (M.Wds.cons hx M.Wds.nil) (by omega)
    rwa [show M.val [x] = x from by simp [M.val]] at this
  clear hown hx
  go_enter Tryz.func91, Tryz.ntmps91
  go_wp2_with fail
  refine (norm_any _ _ _ _ x hnw).mono ?_
  rintro _ w1 ⟨v1, rfl, h1, h2⟩
  clear hnw
  go_wp2_with fail
  go_ret
  have hu := (Up.refl w).alloc (.cells #[u64 x] 37)
  exact ⟨_, rfl, h1.lower hu.size, hu.trans h2⟩

end Go.Proofs.YtjmnobgllnaljaaGreatDoor
/-
  The library's calls, in the form in which the walks of this seat take them.
-/
namespace Go.Proofs.YtjmnobgllnaljaaGreatDoor
open Go.RowKit Go.Shelf

theorem wrap_u64 {n : Int} {k : Nat} (e : n = (k : Int)) (h : k < 18446744073709551616) : IntKind.u64.wrap n = (k : Int) := by
  subst e
  simp [IntKind.wrap, IntKind.bits, IntKind.signed]
  omega
/-- math/bits.Add64: the sum's word and what is carried. -/
theorem add64_ex (x y c : Nat) (hx : x < 18446744073709551616) (hy : y < 18446744073709551616) (hc : c ≤ 1) :
    ∃ s d : Nat, s < 18446744073709551616 ∧ d ≤ 1 ∧ x + y + c = s + 18446744073709551616 * d ∧
      ∀ w, (callFunc 112 #[u64 x, u64 y, u64 c]).run Tryz.prog w = .ok (.value (.tuple #[u64 s, u64 d])) w := by
  refine ⟨(x + y + c) % 18446744073709551616, (x + y + c) / 18446744073709551616, by omega, by omega, by omega, fun w => ?_⟩
  rw [run_callFunc_extern Tryz.func112 (by kernel_rfl) (by kernel_rfl) (by kernel_rfl) (e := add64Entry) (by kernel_rfl), run_add64 x y c (by omega) (by omega) (by omega) (by omega)]
  simp only [Result.andThen]
  congr 5 <;> omega
/-- math/bits.Sub64: the difference's word and what is borrowed. -/
theorem sub64_ex (x y b : Nat) (hx : x < 18446744073709551616) (hy : y < 18446744073709551616) (hb : b ≤ 1) :
    ∃ s d : Nat, s < 18446744073709551616 ∧ d ≤ 1 ∧ x + 18446744073709551616 * d = s + y + b ∧
      ∀ w, (callFunc 72 #[u64 x, u64 y, u64 b]).run Tryz.prog w = .ok (.value (.tuple #[u64 s, u64 d])) w := by
  refine ⟨(x + 18446744073709551616 - y - b) % 18446744073709551616, if x < y + b then 1 else 0, by omega, by split <;> omega, by split <;> omega, fun w => ?_⟩
  rw [run_callFunc_extern Tryz.func72 (by kernel_rfl) (by kernel_rfl) (by kernel_rfl) (e := sub64Entry) (by kernel_rfl), run_sub64 x y b hb]
  rfl
theorem mul64_ex (x y : Nat) (hx : x < 18446744073709551616) (hy : y < 18446744073709551616) :
    ∃ hi lo : Nat, lo < 18446744073709551616 ∧ hi < 18446744073709551615 ∧ x * y = lo + 18446744073709551616 * hi ∧
      ∀ w, Calls Tryz.prog 86 #[u64 x, u64 y] w (Same (.tuple #[u64 hi, u64 lo]) w) := by
  have h1 : x * y ≤ 18446744073709551615 * 18446744073709551615 := Nat.mul_le_mul (by omega) (by omega)
  refine ⟨x * y / 18446744073709551616, x * y % 18446744073709551616, by omega, by omega, by omega, fun w => (Tryz.bits_Mul64 x y hx hy w).mono fun _ _ ⟨h, k⟩ => ⟨h, k.symm⟩⟩
theorem len64_any (x : Nat) (hx : x < 18446744073709551616) (w : World) : Calls Tryz.prog 40 #[u64 x] w (Same (.int .i64 (Lib.bitLen x)) w) :=
  (Tryz.bits_Len64 x w (by omega) (by omega)).mono fun _ _ ⟨h, k⟩ => ⟨by simpa using h, k.symm⟩
theorem lead64_any (x : Nat) (hx : x < 18446744073709551616) (w : World) : Calls Tryz.prog 105 #[u64 x] w (Same (.int .i64 (64 - (Lib.bitLen x : Int))) w) :=
  (Tryz.bits_LeadingZeros64 x w (by omega) (by omega)).mono fun _ _ ⟨h, k⟩ => ⟨by simpa using h, k.symm⟩

theorem made_zero (n : Nat) : (madeCells (Value.int .u64 0).cells (n * 1)).toList = cu (List.replicate n 0) := by
  have := toList_madeCells_one (.int .u64 0) n
  rw [Nat.mul_one]
  refine Eq.trans (show _ = (madeCells #[Value.int .u64 0] n).toList from rfl) (this.trans ?_)
  simp [cu]

/-- 'make(Nat, n)'. -/
theorem wpList_make_wd {P : Program} (w : World) {ops : Array Oper} {rest : List Oper} {o : Oper} {a : Act} {Q : Exit → Act → World → Prop}
    (hg : o.guard = none) (l c : Operand) (t : TypeId) (hop : o.op = Op.makeSlice t l c)
    (hP : (P.info? 37).map (fun i => (i.zero, i.size, i.bytes)) = some (some (.int .u64 0), 1, 8)) (h1 : P.underlying t = some (.slice 37))
    (L C : Int) (n : Nat) (hl : a.eval l = .int .i64 L) (hc : a.eval c = .int .i64 C) (hL : L = (n : Int)) (hC : C = (n : Int)) (hn : n ≤ 1099511627776)
    (hK : ∀ w', Ow w' w.heap.size (.slice (some ⟨w.heap.size, 0, none⟩) n n) n (List.replicate n 0) → w.grownBy w' none → wpList P ops Q rest (a.put o.dst (.slice (some ⟨w.heap.size, 0, none⟩) n n)) w') :
    wpList P ops Q (o :: rest) a w := by
  obtain ⟨i, hi, hz0, hz1, hz2⟩ := info_parts hP
  refine wpList_make_full w hg l c t hop w.heap.size 37 i _ 1 h1 hi hz0 hz1 .i64 .i64 L C n hl hc hL hC (by rw [hz2]; omega) (by simp only [maxLen]; omega) (Nat.le_refl _) fun w' k1 k2 => ?_
  exact hK w' (by rw [made_zero] at k1; exact k1) k2

theorem ret_u64s {a b : Int} {x y : Nat} (h : a = (x : Int)) (h' : b = (y : Int)) : Ending.returned (.tuple #[.int .u64 a, .int .u64 b]) = .returned (.tuple #[u64 x, u64 y]) := by rw [h, h']
end Go.Proofs.YtjmnobgllnaljaaGreatDoor
/-
  nat.addTimes, nat.Mul: their contracts.
-/
namespace Go.Proofs.YtjmnobgllnaljaaGreatDoor
open Go.RowKit Go.Shelf

theorem add64_zero (x y : Nat) (hx : x < 18446744073709551616) (hy : y < 18446744073709551616) :
    ∃ s d : Nat, s < 18446744073709551616 ∧ d ≤ 1 ∧ x + y = s + 18446744073709551616 * d ∧
      ∀ w, (callFunc 112 #[u64 x, u64 y, .int .u64 0]).run Tryz.prog w = .ok (.value (.tuple #[u64 s, u64 d])) w := by
  obtain ⟨s, d, h1, h2, h3, h4⟩ := add64_ex x y 0 hx hy (by omega)
  exact ⟨s, d, h1, h2, by omega, h4⟩

/-- What addTimes comes to. -/
def AddTimes (w0 : World) (base g N m : Nat) (zs ys : List Nat) (x i : Nat) (e : Ending) (w' : World) : Prop :=
  ∃ q zs', e = .returned (u64 q) ∧ q < 18446744073709551616 ∧ Up w0 w' ∧ Ow w' base (.slice (some ⟨g, 0, none⟩) N N) N zs' ∧ M.Wds zs' ∧ M.AddInv zs ys x i m q zs'

set_option maxHeartbeats 400000 in
set_option maxRecDepth 100000 in
theorem addTimes_any (w0 w : World) (lo base g N i n1 c1 m c x : Nat) (A : Option Addr) (zs ys : List Nat) (hu : Up w0 w) (hB : Wd w0 lo A m c ys) (hg : w0.heap.size ≤ g)
    (hown : Ow w base (.slice (some ⟨g, 0, none⟩) N N) N zs) (hwd : M.Wds zs) (hN : i + n1 ≤ N) (hm : m ≤ n1) (hx : x < 18446744073709551616) :
    Calls Tryz.prog 90 #[.slice (some ⟨g, i, none⟩) n1 c1, .slice A m c, u64 x] w (AddTimes w0 base g N m zs ys x i) := by
  have b1 := hB.small
  go_enter Tryz.func90, Tryz.ntmps90
  go_wp2_with fail
  go_loopw [7, 15] (fun c j wr => ∃ (k q : Nat) (zs' : List Nat), k ≤ m ∧ Hid (q < 18446744073709551616) ∧ c = u64 q ∧ j = .int .i64 k ∧ Up w0 wr ∧ Ow wr base (.slice (some ⟨g, 0, none⟩) N N) N zs' ∧ M.Wds zs' ∧ M.AddInv zs ys x i k q zs') (fun _ j _ => m - (intOf j).toNat)
  case atStart => exact ⟨0, 0, _, by omega, by simp [Hid], rfl, rfl, hu, hown, hwd, M.AddInv.start _ _ _ _⟩
  case round =>
    obtain ⟨k, q, zs', hk, hq, rfl, rfl, hu1, hown1, hwd1, HI⟩ := hrel
    clear hown hwd hu
    by_cases hlt : k < m
    · have hcB := (hB.up hu1).at_
      obtain ⟨bb, oo, rfl, _, hc⟩ := hcB (by omega)
      have hc1 := (hc k hlt).1
      have hzl := hown1.num
      have hcz := hown1.cellAt (i + k) (by omega)
      rw [cu_get (by omega), HI.word] at hcz
      have hfz := hown1.frozenAt (i + k)
      obtain ⟨y, hy⟩ : ∃ y, ys.getD k 0 = y := ⟨_, rfl⟩
      obtain ⟨z, hz⟩ : ∃ z, zs.getD (i + k) 0 = z := ⟨_, rfl⟩
      have hyb : y < 18446744073709551616 := by rw [← hy]; exact hB.wds.getD k
      have hzb : z < 18446744073709551616 := by rw [← hz, ← HI.word]; exact hwd1.getD _
      rw [hy] at hc1
      rw [hz] at hcz
      obtain ⟨hi1, lo1, e1, e2, e3, c1m⟩ := mul64_ex y x hyb hx
      obtain ⟨s1, d1, f1, f2, f3, run1⟩ := add64_zero lo1 q e1 hq.out
      obtain ⟨s2, d2, g1, g2, g3, run2⟩ := add64_zero z s1 hzb f1
      have hfin := M.word_carry hx hyb hzb hq.out e3 f3 g3
      have HE := Lib.hid (HI.step (by omega) hz hy hfin.1)
      have HQ := Lib.hid hfin.2
      have HW : Hid (IntKind.u64.wrap ((hi1 : Int) + d1 + d2) = ((hi1 + d1 + d2 : Nat) : Int)) := wrap_u64 (by omega) hfin.2
      have CM := Lib.hid c1m
      clear hc hcB hy hz hyb hzb e1 e3 f3 g3 hfin c1m
      go_wp2_with (go_at_call 86; refine (CM.out _).mono ?_; rintro _ _ ⟨rfl, rfl⟩)
      go_roundw
      case rel =>
        obtain ⟨h1, h2⟩ := hown1.stored (i + k) (u64 s2)
        rw [cu_set] at h1
        exact ⟨k + 1, _, _, by omega, HQ.out, by rw [HW.out], by go_num, hu1.setCell hg _, h1, hwd1.set _ g1, HE.out⟩
      case measure => simp [intOf]; omega
    · have hkm : k = m := by omega
      subst hkm
      go_wp2_with fail
      go_ret
      exact ⟨q, zs', rfl, hq.out, hu1, hown1, hwd1, HI⟩

set_option maxHeartbeats 400000 in
set_option maxRecDepth 100000 in
theorem mul_any (w : World) (lo lo' s s' : Nat) (v v' : Value) (a b : Nat) (h : Nw w lo s v a) (h' : Nw w lo' s' v' b) (hs : s ≤ 100000000000) (hs' : s' ≤ 100000000000) :
    Calls Tryz.prog 73 #[v, v'] w (Res (s + s') (a * b) w) := by
  obtain ⟨A, n, c, xs, rfl, hx, ha, hns⟩ := h
  obtain ⟨A', n', c', xs', rfl, hx', hb, hns'⟩ := h'
  have HA := Lib.hid ha
  have HB := Lib.hid hb
  clear ha hb
  go_enter Tryz.func73, Tryz.ntmps73
  go_wp2_with fail
  refine (trim_any w lo A n c xs hx).mono ?_
  rintro _ _ ⟨m, ys, rfl, rfl, hA, hny, hv, hmn⟩
  have HV : Hid (M.val ys = a) := hv.trans HA.out
  clear hx hv HA
  go_wp2_with fail
  refine (trim_any w lo' A' n' c' xs' hx').mono ?_
  rintro _ _ ⟨m', ys', rfl, rfl, hB, hny', hv', hmn'⟩
  have HV' : Hid (M.val ys' = b) := hv'.trans HB.out
  clear hx' hv' HB
  have b1 := hA.len
  have b3 := hB.len
  go_wp2_with (at_make; refine wpList_make_wd _ rfl (.tmp 16) (.tmp 16) 23 rfl info_u64 Tryz.underlying23 ((m : Int) + (m' : Int)) ((m : Int) + (m' : Int)) (m + m') rfl rfl (by omega) (by omega) (by omega) ?_; intro w1 hown1 hg1)
  have hu1 : Up w w1 := (Up.refl w).grown hg1 (by simp)
  go_loopw [20] (fun i wr => ∃ (k : Nat) (zs : List Nat), k ≤ m ∧ i = .int .i64 k ∧ Up w wr ∧ Ow wr w.heap.size (.slice (some ⟨w.heap.size, 0, none⟩) (m + m') (m + m')) (m + m') zs ∧ M.Wds zs ∧ M.MulInv ys ys' m' k zs) (fun i _ => m - (intOf i).toNat)
  case atStart => exact ⟨0, _, by omega, rfl, hu1, hown1, M.Wds.replicate _, M.MulInv.start _ _ _ _⟩
  case round =>
    obtain ⟨k, zs, hk, rfl, hu, hown, hwd, HI⟩ := hrel
    clear hown1 hg1 hu1
    by_cases hlt : k < m
    · obtain ⟨bb, oo, rfl, _, hc⟩ := (hA.up hu).at_ (by omega)
      have hc1 := (hc k hlt).1
      obtain ⟨x, hx⟩ : ∃ x, ys.getD k 0 = x := ⟨_, rfl⟩
      have hxb : x < 18446744073709551616 := by rw [← hx]; exact hA.wds.getD k
      rw [hx] at hc1
      have HX := Lib.hid hx
      have CW := Lib.hid (addTimes_any w wr lo' w.heap.size w.heap.size (m + m') k (m + m' - k) (m + m' - k) m' c' x A' zs ys' hu hB (Nat.le_refl _) hown hwd (by omega) (by omega) hxb)
      clear hc hx hxb
      have hzl := hown.num
      go_wp2_with fail
      refine CW.out.mono ?_
      rintro _ w2 ⟨q, zs2, rfl, hq, hu2, hown2, hwd2, hadd⟩
      have hzl2 := hown2.num
      have hcz := hown2.cellAt (k + m') (by omega)
      rw [cu_get (by omega)] at hcz
      have hfz := hown2.frozenAt (k + m')
      have HI2 := Lib.hid (HI.step hB.num (by omega) (by omega) HX.out hadd)
      have HQ := Lib.hid hq
      clear HI hadd hq CW hown hwd hu
      go_wp2_with fail
      go_roundw
      case rel =>
        obtain ⟨h1, h2⟩ := hown2.stored (k + m') (u64 q)
        rw [cu_set] at h1
        exact ⟨k + 1, _, by omega, by go_num, hu2.setCell (Nat.le_refl _) _, h1, hwd2.set _ HQ.out, HI2.out⟩
      case measure => simp [intOf]; omega
    · have hkm : k = m := by omega
      subst hkm
      have hzl := hown.num
      have hwd2 := Ow.wd_ hown hwd (by omega)
      have hvs : M.val zs = a * b := by
        have h1 := HI.1
        rwa [M.val_take_all (a := zs) (by omega), M.val_take_all (a := ys) (by have := hA.num; omega), HV.out, HV'.out] at h1
      have HVS := Lib.hid hvs
      clear hvs hwd hown HI
      go_wp2_with fail
      refine (trim_any _ _ _ _ _ _ hwd2).mono ?_
      rintro _ _ ⟨m2, zz, rfl, rfl, hd2, hn2, hv2, hm2⟩
      have HV2 : Hid (M.val zz = a * b) := hv2.trans HVS.out
      clear hv2 hwd2
      go_wp2_with fail
      go_ret
      exact ⟨_, rfl, ⟨_, _, _, zz, rfl, hd2, HV2.out, by omega, hn2⟩, hu⟩
end Go.Proofs.YtjmnobgllnaljaaGreatDoor
/-
  nat.Bits, nat.Bit, nat.Even, nat.clamp: their contracts.
-/
namespace Go.Proofs.YtjmnobgllnaljaaGreatDoor
open Go.RowKit Go.Shelf

theorem M.bitLen_eq : ∀ (n x : Nat), x ≤ n → x < 18446744073709551616 → Lib.bitLen x = M.bits x := by
  intro n
  induction n with
  | zero =>
    intro x hx _
    obtain rfl : x = 0 := by omega
    rfl
  | succ n ih =>
    intro x hx hb
    by_cases h0 : x = 0
    · subst h0; rfl
    · rw [Lib.bitLen_half x h0 hb, M.bits_half h0, ih (x / 2) (by omega) (by omega)]

set_option maxHeartbeats 400000 in
theorem clamp_any (w : World) (i t : Int) : Calls Tryz.prog 39 #[.int .i64 i, .int .i64 t] w (Same (.int .i64 (max 0 (min i t))) w) := by
  go_enter Tryz.func39, Tryz.ntmps39
  go_wp2
  go_ret
  exact ⟨rfl, rfl⟩

set_option maxHeartbeats 400000 in
theorem bits_any (w : World) (lo s : Nat) (v : Value) (a : Nat) (h : Nw w lo s v a) :
    Calls Tryz.prog 17 #[v] w (Same (.int .i64 (M.bits a)) w) := by
  obtain ⟨A, n, c, xs, rfl, hx, ha, _⟩ := h
  have HA := Lib.hid ha
  clear ha
  go_enter Tryz.func17, Tryz.ntmps17
  go_wp2_with fail
  refine (trim_any w lo A n c xs hx).mono ?_
  rintro _ _ ⟨m, ys, rfl, rfl, hy, hny, hv, hmn⟩
  have HV : Hid (M.val ys = a) := hv.trans HA.out
  clear hx hv HA
  rcases Nat.eq_zero_or_pos m with hm | hm
  · subst hm
    have hz : M.bits a = 0 := by
      rw [← HV.out, List.eq_nil_of_length_eq_zero hy.num]; rfl
    have HZ := Lib.hid hz
    clear hz
    go_wp2_with fail
    go_ret
    exact ⟨ret_int (by rw [HZ.out]; rfl), rfl⟩
  · obtain ⟨j, rfl⟩ : ∃ j, m = j + 1 := ⟨m - 1, by omega⟩
    obtain ⟨b, o, rfl, _, hc⟩ := hy.at_ hm
    have hc1 := (hc j (by omega)).1
    obtain ⟨x, hx⟩ : ∃ x, ys.getD j 0 = x := ⟨_, rfl⟩
    have hxb : x < 18446744073709551616 := by rw [← hx]; exact hy.wds.getD j
    have hfin : M.bits a = 64 * j + M.bits x := by rw [← HV.out, M.bits_val hy.wds hny hy.num, hx]
    have cw := len64_any x hxb
    rw [M.bitLen_eq x x (Nat.le_refl _) hxb] at cw
    have hbx : M.bits x ≤ 64 := by
      by_cases h0 : x = 0
      · subst h0; decide
      · have h1 := M.bits_le h0
        rcases Nat.lt_or_ge 64 (M.bits x) with h2 | h2
        · have h3 : 2 ^ 64 ≤ 2 ^ (M.bits x - 1) := Nat.pow_le_pow_right (by omega) (by omega)
          omega
        · exact h2
    rw [hx] at hc1
    have b2 := hy.small
    generalize M.bits x = y at *
    have HF := Lib.hid hfin
    have CW := Lib.hid cw
    have hj : ((j + 1 : Nat) : Int) - 1 = (j : Int) := by omega
    clear hx hxb hfin cw hc hy HV hny
    go_wp2_with fail
    refine (CW.out _).mono ?_
    rintro _ _ ⟨rfl, rfl⟩
    go_wp2_with fail
    go_ret
    exact ⟨ret_int (by rw [HF.out]; omega), rfl⟩
end Go.Proofs.YtjmnobgllnaljaaGreatDoor
/-
  nat.Pow: its contract.
-/
namespace Go.Proofs.YtjmnobgllnaljaaGreatDoor
open Go.RowKit Go.Shelf

theorem M.pow_words (x k : Nat) (hx : x < 18446744073709551616) : x ^ k < 18446744073709551616 ^ (k + 1) := by
  have h1 : x ^ k ≤ 18446744073709551616 ^ k := Nat.pow_le_pow_left (by omega) _
  have h2 : 18446744073709551616 ^ k < 18446744073709551616 ^ (k + 1) := Nat.pow_lt_pow_right (by omega) (by omega)
  omega
theorem M.shift_top (N : Nat) : N / 2 ^ M.bits N = 0 := Nat.div_eq_of_lt (M.bits_lt N)
theorem M.shift_step (N i : Nat) : N / 2 ^ i = 2 * (N / 2 ^ (i + 1)) + N / 2 ^ i % 2 := by
  rw [Nat.pow_succ, ← Nat.div_div_eq_div_mul]
  omega
theorem M.pow_square (x k : Nat) : x ^ k * x ^ k = x ^ (2 * k) := by rw [← Nat.pow_add, Nat.two_mul]

theorem and_one_i64 (E : Nat) (h1 : E ≤ 10000) : (Go.bits BinOp.and IntKind.i64 (E : Int) 1 == 1) = decide (E % 2 = 1) := by
  have h3 : (BitVec.ofInt 64 (E : Int)).toNat = E := by
    rw [BitVec.ofInt_natCast, BitVec.toNat_ofNat]; exact Nat.mod_eq_of_lt (by omega)
  have h2 : Go.bits BinOp.and IntKind.i64 (E : Int) 1 = ((E % 2 : Nat) : Int) := by
    show IntKind.i64.wrap ((BitVec.ofInt 64 (E : Int) &&& BitVec.ofInt 64 1).toNat : Int) = _
    rw [BitVec.toNat_and, h3, show (BitVec.ofInt 64 1).toNat = 1 from rfl, Nat.and_one_is_mod]
    exact IntWalk.i64_in _ (by omega)
  rw [h2]
  rcases (show E % 2 = 0 ∨ E % 2 = 1 by omega) with h | h <;> simp [h]

set_option maxHeartbeats 800000 in
set_option maxRecDepth 100000 in
theorem pow_any (w : World) (x N : Nat) (n : Int) (hx : x < 18446744073709551616) (hN : max 0 (min n 10000) = (N : Int)) :
    Calls Tryz.prog 74 #[u64 x, .int .i64 n] w (Res (N + 1) (x ^ N) w) := by
  have hN1 : N ≤ 10000 := by omega
  have cl := clamp_any w n 10000
  rw [hN] at cl
  have CL := Lib.hid cl
  have cb := (Tryz.bits_Len (N : Int) w (by omega) (by omega))
  rw [Int.toNat_natCast, M.bitLen_eq N N (Nat.le_refl _) (by omega)] at cb
  have hx' := Lib.hid hx
  have hbn : M.bits N ≤ 64 := (by
    by_cases h0 : N = 0
    · subst h0; decide
    · exact (M.bits_le_of_lt (k := 64) (by omega)))
  clear cl hN hx cb
  go_enter Tryz.func74, Tryz.ntmps74
  go_wp2_with fail
  refine CL.out.mono ?_
  rintro _ _ ⟨rfl, rfl⟩
  go_wp2_with fail
  refine (of_any w 1 (by omega)).mono ?_
  rintro _ w1 ⟨v1, rfl, h1, hu1⟩
  go_wp2_with fail
  refine (of_any w1 x hx'.out).mono ?_
  rintro _ w2 ⟨v2, rfl, h2, hu2⟩
  have hu12 := hu1.trans hu2
  have h1b := h1.up hu2
  have h2b := h2.lower hu1.size
  clear h1 h2 hu1 hu2
  go_wp2_with fail
  refine (Tryz.bits_Len (N : Int) w2 (by omega) (by omega)).mono ?_
  rintro _ W ⟨rfl, hW⟩
  have hWW : w2 = W := hW.symm
  subst hWW
  clear hW
  rw [Int.toNat_natCast, M.bitLen_eq N N (Nat.le_refl _) (by omega)]
  have HT : Hid (N / 2 ^ M.bits N = 0) := M.shift_top N
  generalize M.bits N = L at *
  go_wp2_with fail
  go_loopw [5, 7] (fun v i wr => ∃ (k : Int) (e : Nat), -1 ≤ k ∧ k < L ∧ i = .int .i64 k ∧ Up w2 wr ∧ Nt wr w.heap.size (e + 1) v (x ^ e) ∧ Hid (e = N / 2 ^ (k + 1).toNat)) (fun _ i _ => (intOf i + 1).toNat)
  case atStart =>
    refine ⟨(L : Int) - 1, 0, by omega, by omega, rfl, Up.refl _, ?_, ?_⟩
    · exact (h1b.lower (Nat.le_refl _))
    · show _ = _
      rw [show ((L : Int) - 1 + 1).toNat = L from by omega, HT.out]
  case round =>
    obtain ⟨k, e, hk1, hk2, rfl, hu, hv, HE⟩ := hrel
    clear h1b
    have h2c := h2b
    by_cases hk0 : k = -1
    · subst hk0
      have hee := HE.out
      simp only [show ((-1 : Int) + 1).toNat = 0 from rfl, Nat.pow_zero, Nat.div_one] at hee
      subst hee
      go_wp2_with fail
      go_ret
      exact ⟨_, rfl, hv, hu12.trans hu⟩
    · obtain ⟨i, rfl⟩ := Int.eq_ofNat_of_zero_le (show 0 ≤ k by omega)
      have hE := HE.out
      rw [show ((i : Int) + 1).toNat = i + 1 from by omega] at hE
      have hstep := M.shift_step N i
      rw [← hE] at hstep
      have heb : e ≤ 10000 := by rw [hE]; exact Nat.le_trans (Nat.div_le_self _ _) hN1
      have hbt := and_one_i64 (N / 2 ^ i) (Nat.le_trans (Nat.div_le_self _ _) hN1)
      rw [Int.natCast_ediv, Int.natCast_pow] at hbt
      simp only [Int.cast_ofNat_Int] at hbt
      obtain ⟨q, hq⟩ : ∃ q, N / 2 ^ i = q := ⟨_, rfl⟩
      rw [hq] at hstep hbt
      have HQ : Hid (q = N / 2 ^ i) := hq.symm
      have HSQ : Hid (x ^ e * x ^ e = x ^ (2 * e)) := M.pow_square x e
      have CW := Lib.hid (mul_any wr w.heap.size w.heap.size (e + 1) (e + 1) u5 u5 (x ^ e) (x ^ e) hv.nw hv.nw (by omega) (by omega))
      rw [HSQ.out] at CW
      clear hE HE hq hk0 hk1 HSQ
      by_cases hbit : q % 2 = 1
      · have ht : (Go.bits BinOp.and IntKind.i64 ((N : Int) / 2 ^ i) 1 == 1) = true := by rw [hbt]; simp [hbit]
        have HE2 : Hid (q = 2 * e + 1) := by show _ = _; omega
        clear hbt hbit hstep
        go_wp2_with fail
        refine CW.out.mono ?_
        rintro _ w3 ⟨v3, rfl, h3, hu3⟩
        have h2d := (h2b.up hu).up hu3
        have hmul := Lib.hid (mul_any w3 _ _ _ _ v3 v2 _ _ h3.nw h2d.nw (by omega) (by omega))
        rw [← Nat.pow_succ] at hmul
        clear CW
        go_wp2_with fail
        refine hmul.out.mono ?_
        rintro _ w4 ⟨v4, rfl, h4, hu4⟩
        have h5 := (h4.fit (M.pow_words x _ hx'.out)).lower (Nat.le_trans hu12.size (Nat.le_trans hu.size hu3.size))
        have hu5 := hu.trans (hu3.trans hu4)
        clear h4 hu4 hu3 h3 hv hu h2d hmul
        go_wp2_with fail
        go_roundw
        case rel =>
          exact ⟨(i : Int) - 1, 2 * e + 1, by omega, by omega, rfl, hu5, h5, by rw [show ((i : Int) - 1 + 1).toNat = i from by omega, ← HE2.out]; exact HQ.out⟩
        case measure => simp [intOf]
      · have ht : (Go.bits BinOp.and IntKind.i64 ((N : Int) / 2 ^ i) 1 == 1) = false := by rw [hbt]; simp [hbit]
        have HE2 : Hid (q = 2 * e) := by show _ = _; omega
        clear hbt hbit hstep
        go_wp2_with fail
        refine CW.out.mono ?_
        rintro _ w3 ⟨v3, rfl, h3, hu3⟩
        have h5 := (h3.fit (M.pow_words x _ hx'.out)).lower (Nat.le_trans hu12.size hu.size)
        have hu5 := hu.trans hu3
        clear hu3 h3 hv hu CW
        go_wp2_with fail
        go_roundw
        case rel =>
          exact ⟨(i : Int) - 1, 2 * e, by omega, by omega, rfl, hu5, h5, by rw [show ((i : Int) - 1 + 1).toNat = i from by omega, ← HE2.out]; exact HQ.out⟩
        case measure => simp [intOf]
end Go.Proofs.YtjmnobgllnaljaaGreatDoor
/-
  A slice that came in, wherever it lies; it is appended.
-/
namespace Go.Proofs.YtjmnobgllnaljaaGreatDoor
open Go.RowKit

/-- The slice '.slice A n c', wherever it lies, reads as the words xs. -/
structure Src (w : World) (A : Option Addr) (n c : Nat) (xs : List Nat) : Prop where
  num : xs.length = n
  len : n ≤ c
  wds : M.Wds xs
  none_ : A = none → c = 0
  at_ : ∀ ad, A = some ad → ∀ j, j < n → w.cell? (ad.add j) = some (u64 (xs.getD j 0))
theorem Src.take {w : World} {A : Option Addr} {n c : Nat} {xs : List Nat} (h : Src w A n c xs) {m : Nat} (hm : m ≤ n) : Src w A m c (xs.take m) := by
  refine ⟨by rw [List.length_take, h.num, Nat.min_eq_left hm], Nat.le_trans hm h.len, h.wds.take m, h.none_, fun ad hA j hj => ?_⟩
  rw [h.at_ ad hA j (by omega), List.getD_eq_getElem?_getD, List.getD_eq_getElem?_getD, List.getElem?_take_of_lt hj]
theorem Src.up {w w' : World} {A : Option Addr} {n c : Nat} {xs : List Nat} (h : Src w A n c xs) (hu : Up w w') : Src w' A n c xs := by
  refine ⟨h.num, h.len, h.wds, h.none_, fun ad hA j hj => ?_⟩
  have h1 := h.at_ ad hA j hj
  rw [Below.cell hu (World.block_lt_of_cell? w _ h1)]
  exact h1

section
variable {P : Program} (w : World)
theorem append_src (hP : (P.info? 37).map (fun i => (i.zero, i.size, i.bytes)) = some (some (.int .u64 0), 1, 8)) (base : Nat) (t ty : TypeId) (ht : P.underlying t = some (.slice 37))
    (v : Value) (n : Nat) (xs : List Nat) (hown : Ow w base v n xs) (A : Option Addr) (m c : Nat) (ys : List Nat) (hy : Src w A m c ys)
    (hn : n + m ≤ 1099511627776) (hbase : base ≤ w.heap.size) :
    ∃ v' w', (Builtin.append_ #[t, t] ty #[v, .slice A m c]).run P w = .ok v' w' ∧ Ow w' base v' (n + m) (xs ++ ys) ∧ w.grownBy w' v.ownBlock ∧ (v'.ownBlock = v.ownBlock ∨ v'.ownBlock = some w.heap.size) := by
  obtain ⟨i, hi, hz0, hz1, hz2⟩ := info_parts hP
  have hyn := hy.num
  have hsrc : ∀ ad, A = some ad → ∀ j u, (cu ys)[j]? = some u → w.cell? (ad.add j) = some u := by
    intro ad had j u hu
    have hj : j < m := by
      have := (List.getElem?_eq_some_iff.1 hu).1
      rw [cu_length] at this; omega
    rw [hy.at_ ad had j hj, ← cu_get (by omega)]
    exact hu
  rcases A with _ | ad
  · have hm : m = 0 := by have := hy.len; have := hy.none_ rfl; omega
    subst hm
    have hys : ys = [] := List.eq_nil_of_length_eq_zero hyn
    subst hys
    exact ⟨v, w, append_of_none w base t ty _ i 1 ht hi v n _ hown c, by simpa using hown, World.grownBy.refl w _, .inl rfl⟩
  · obtain ⟨v', w', hrun, h2, h3, _, h5⟩ := run_append_own_at (P := P) w base t ty _ i _ 1 8 ht hi hz0 hz1 hz2 rfl (by omega) v n _ hown ad m c (cu ys) (by rw [cu_length]; omega) (hsrc ad rfl) (cu_one _)
      (by simp only [maxLen]; omega) (by omega) hbase
    exact ⟨v', w', hrun, by rw [cu_append] at h2; exact h2, h3, h5⟩
theorem wpList_append_src {ops : Array Oper} {rest : List Oper} {o : Oper} {a : Act} {Q : Exit → Act → World → Prop} (hgd : o.guard = none) (s x : Operand) (t : TypeId)
    (ho : o.op = .call { callee := .builtin .append, args := #[s, x], argTypes := #[t, t] })
    (hP : (P.info? 37).map (fun i => (i.zero, i.size, i.bytes)) = some (some (.int .u64 0), 1, 8)) (base : Nat) (ht : P.underlying t = some (.slice 37))
    (v : Value) (n : Nat) (xs : List Nat) (hs : a.eval s = v) (hown : Ow w base v n xs) (A : Option Addr) (m c : Nat) (ys : List Nat) (hx : a.eval x = .slice A m c) (hy : Src w A m c ys)
    (hn : n + m ≤ 1099511627776) (hbase : base ≤ w.heap.size)
    (h : ∀ v' w', Ow w' base v' (n + m) (xs ++ ys) → w.grownBy w' v.ownBlock → (v'.ownBlock = v.ownBlock ∨ v'.ownBlock = some w.heap.size) → wpList P ops Q rest (a.put o.dst v') w') :
    wpList P ops Q (o :: rest) a w := by
  refine wpList_plain hgd fun K hK => ?_
  obtain ⟨v', w', hr, h2, h3, h4⟩ := append_src (P := P) w hP base t o.type ht v n xs hown A m c ys hy hn hbase
  unfold Oper.wp execOp
  simp only [ho, resolve, invoke, builtin, Sem.run_bind, Sem.run_pure, Result.andThen_ok, List.map_toArray, List.map_cons, List.map_nil, hs, hx, hr]
  exact hK _ _ (h v' w' h2 h3 h4)
end

end Go.Proofs.YtjmnobgllnaljaaGreatDoor
/-
  How numbers compare; what is well formed; a literal word.
-/
namespace Go.Proofs.YtjmnobgllnaljaaGreatDoor
open Go.RowKit

namespace M
theorem cmp_le {a b : Nat} : cmp a b ≤ 0 ↔ a ≤ b := by
  rcases Nat.lt_trichotomy a b with h | h | h
  · rw [cmp_lt h]; omega
  · rw [cmp_eq h]; omega
  · rw [cmp_gt h]; omega
theorem cmp_swap (a b : Nat) : cmp b a = -cmp a b := by
  rcases Nat.lt_trichotomy a b with h | h | h
  · rw [cmp_lt h, cmp_gt h]; rfl
  · rw [cmp_eq h, cmp_eq h.symm]; rfl
  · rw [cmp_gt h, cmp_lt h]
theorem cmp_rng (a b : Nat) : -1 ≤ cmp a b ∧ cmp a b ≤ 1 := by
  rcases Nat.lt_trichotomy a b with h | h | h
  · rw [cmp_lt h]; omega
  · rw [cmp_eq h]; omega
  · rw [cmp_gt h]; omega
theorem cmp_plus (a b c : Nat) : cmp (a + c) (b + c) = cmp a b := by
  rcases Nat.lt_trichotomy a b with h | h | h
  · rw [cmp_lt h, cmp_lt (by omega)]
  · rw [cmp_eq h, cmp_eq (by omega)]
  · rw [cmp_gt h, cmp_gt (by omega)]
theorem cmp_times (a b c : Nat) (hc : 0 < c) : cmp (a * c) (b * c) = cmp a b := by
  rcases Nat.lt_trichotomy a b with h | h | h
  · rw [cmp_lt h, cmp_lt (Nat.mul_lt_mul_of_pos_right h hc)]
  · rw [cmp_eq h, cmp_eq (by rw [h])]
  · rw [cmp_gt h, cmp_gt (Nat.mul_lt_mul_of_pos_right h hc)]
end M
/-- Cmp, where it is known what it tells. -/
theorem cmp_at (w : World) (lo lo' s s' : Nat) (v v' : Value) (a b : Nat) (z : Int) (h : Nw w lo s v a) (h' : Nw w lo' s' v' b) (e : Hid (M.cmp a b = z)) :
    Calls Tryz.prog 15 #[v, v'] w (Val (.int .i64 z) w) := by
  have := cmp_any w lo lo' s s' v v' a b h h'
  rwa [e.out] at this
theorem wf_u64 {x : Int} (h : (Lit.int .u64 x).wf = true) : ∃ n : Nat, x = (n : Int) ∧ n < 18446744073709551616 := by
  have h6 : (0 : Int) ≤ x ∧ x ≤ 18446744073709551615 := by simpa [Lit.wf, IntKind.min, IntKind.max, IntKind.signed, IntKind.bits] using h
  exact ⟨x.toNat, by omega, by omega⟩
theorem wf_i64 {x : Int} (h : (Lit.int .i64 x).wf = true) : -9223372036854775808 ≤ x ∧ x ≤ 9223372036854775807 := by
  simpa [Lit.wf, IntKind.min, IntKind.max, IntKind.signed, IntKind.bits] using h
theorem wf_u8 {x : Int} (h : (Lit.int .u8 x).wf = true) : ∃ n : Nat, x = (n : Int) ∧ n < 256 := by
  have h6 : (0 : Int) ≤ x ∧ x ≤ 255 := by simpa [Lit.wf, IntKind.min, IntKind.max, IntKind.signed, IntKind.bits] using h
  exact ⟨x.toNat, by omega, by omega⟩

theorem tmod_rng_of (x : Int) (m : Int) (hm : 0 < m) : ∃ r, x.tmod m = r ∧ -m < r ∧ r < m := by
  refine ⟨_, rfl, ?_, ?_⟩
  · rcases Int.le_total 0 x with h | h
    · rw [Int.tmod_eq_emod_of_nonneg h]; have := Int.emod_nonneg x (show m ≠ 0 by omega); omega
    · have e : x.tmod m = -((-x).tmod m) := by rw [Int.neg_tmod]; omega
      rw [e, Int.tmod_eq_emod_of_nonneg (by omega)]
      have := Int.emod_lt_of_pos (-x) hm
      omega
  · rcases Int.le_total 0 x with h | h
    · rw [Int.tmod_eq_emod_of_nonneg h]
      exact Int.emod_lt_of_pos x hm
    · have e : x.tmod m = -((-x).tmod m) := by rw [Int.neg_tmod]; omega
      rw [e, Int.tmod_eq_emod_of_nonneg (by omega)]
      have := Int.emod_nonneg (-x) (show m ≠ 0 by omega)
      omega
theorem lit1_ow (w : World) (x : Nat) (X : Int) (hX : X = (x : Int)) : Ow (w.alloc (.cells #[.int .u64 X] 37)) w.heap.size (.slice (some ⟨w.heap.size, 0, none⟩) 1 1) 1 [x] := by
  subst hX
  exact World.ownsRow_lit w #[u64 x] 1 (Nat.le_refl _) (by simp only [maxLen]; omega) rfl
theorem lit1_wd (w : World) (x : Nat) (X : Int) (hX : X = (x : Int)) (hx : x < 18446744073709551616) :
    Wd (w.alloc (.cells #[.int .u64 X] 37)) w.heap.size (some ⟨w.heap.size, 0, none⟩) 1 1 [x] :=
  Ow.wd_ (lit1_ow w x X hX) (M.Wds.cons hx M.Wds.nil) (by omega)
end Go.Proofs.YtjmnobgllnaljaaGreatDoor
/-
  Shl: its contract.
-/
namespace Go.Proofs.YtjmnobgllnaljaaGreatDoor
open Go.RowKit Go.Shelf

namespace M
theorem val_set : ∀ (zs : List Nat) (i x : Nat), i < zs.length → val (zs.set i x) + 18446744073709551616 ^ i * zs.getD i 0 = val zs + 18446744073709551616 ^ i * x
  | [], i, x, h => by simp at h
  | z :: zs, 0, x, _ => by simp [val]; omega
  | z :: zs, i + 1, x, h => by
    have := val_set zs i x (by simpa using h)
    simp only [List.set_cons_succ, val_cons, List.getD_cons_succ, Nat.pow_succ]
    have e1 : 18446744073709551616 ^ i * 18446744073709551616 * zs.getD i 0 = 18446744073709551616 * (18446744073709551616 ^ i * zs.getD i 0) := by rw [Nat.mul_comm (18446744073709551616 ^ i), Nat.mul_assoc]
    have e2 : 18446744073709551616 ^ i * 18446744073709551616 * x = 18446744073709551616 * (18446744073709551616 ^ i * x) := by rw [Nat.mul_comm (18446744073709551616 ^ i), Nat.mul_assoc]
    rw [e1, e2]
    omega
/-- A word moved up by fewer than 64 bits: what stays, what goes over. -/
theorem shift_word (x s : Nat) (hs : s < 64) : ∃ X1 X2, X1 = x * 2 ^ s % 18446744073709551616 ∧ X2 = x / 2 ^ (64 - s) ∧ x * 2 ^ s = X1 + 18446744073709551616 * X2 ∧ X1 % 2 ^ s = 0 ∧ X1 + 2 ^ s ≤ 18446744073709551616 ∧ (x < 18446744073709551616 → X2 < 2 ^ s) := by
  have hB : (18446744073709551616 : Nat) = 2 ^ s * 2 ^ (64 - s) := by rw [← Nat.pow_add, show s + (64 - s) = 64 from by omega]
  have hp : 0 < 2 ^ s := Nat.pow_pos (by omega)
  have hq : 0 < 2 ^ (64 - s) := Nat.pow_pos (by omega)
  refine ⟨_, _, rfl, rfl, ?_, ?_, ?_, ?_⟩
  · have h1 : x / 2 ^ (64 - s) = x * 2 ^ s / 18446744073709551616 := by
      rw [hB, Nat.mul_comm x, Nat.mul_div_mul_left _ _ hp]
    rw [h1]
    omega
  · rw [hB, Nat.mul_comm x, Nat.mul_mod_mul_left]
    exact Nat.mul_mod_right _ _
  · rw [hB, Nat.mul_comm x, Nat.mul_mod_mul_left]
    have h1 : x % 2 ^ (64 - s) < 2 ^ (64 - s) := Nat.mod_lt _ hq
    calc 2 ^ s * (x % 2 ^ (64 - s)) + 2 ^ s = 2 ^ s * (x % 2 ^ (64 - s) + 1) := by rw [Nat.mul_add, Nat.mul_one]
      _ ≤ _ := Nat.mul_le_mul_left _ h1
  · intro h
    exact Nat.div_lt_of_lt_mul (by rw [hB, Nat.mul_comm] at h; exact h)
/-- What is so while the words are moved up. -/
structure ShInv (S s n : Nat) (xs : List Nat) (k : Nat) (zs : List Nat) : Prop where
  eq : val zs = 18446744073709551616 ^ S * (2 ^ s * val (xs.take k))
  low : zs.getD (S + k) 0 < 2 ^ s
  high : ∀ j, S + k < j → zs.getD j 0 = 0
theorem ShInv.start (S s n : Nat) (xs : List Nat) : ShInv S s n xs 0 (List.replicate (n + S + 1) 0) := by
  have hz : ∀ j, (List.replicate (n + S + 1) 0).getD j 0 = 0 := fun j => by
    rw [List.getD_eq_getElem?_getD, List.getElem?_replicate]
    split <;> rfl
  refine ⟨by rw [val_replicate]; simp [val], ?_, fun j _ => hz j⟩
  rw [hz]
  exact Nat.pow_pos (by omega)
theorem getD_set_eq {zs : List Nat} {i x : Nat} (h : i < zs.length) : (zs.set i x).getD i 0 = x := by
  rw [List.getD_eq_getElem?_getD, List.getElem?_set_self h]; rfl
theorem getD_set_ne' {zs : List Nat} {i j x : Nat} (h : i ≠ j) : (zs.set i x).getD j 0 = zs.getD j 0 := by
  rw [List.getD_eq_getElem?_getD, List.getD_eq_getElem?_getD, List.getElem?_set_ne h]
theorem ShInv.step {S s n : Nat} {xs : List Nat} {k : Nat} {zs : List Nat} (h : ShInv S s n xs k zs) (hl : zs.length = n + S + 1) (hk : k < n) {x z X1 X2 : Nat} (hx : xs.getD k 0 = x) (hz : zs.getD (S + k) 0 = z)
    (e : x * 2 ^ s = X1 + 18446744073709551616 * X2) (h2 : X2 < 2 ^ s) :
    ShInv S s n xs (k + 1) ((zs.set (S + k) (X1 + z)).set (S + k + 1) X2) := by
  have h0 : zs.getD (S + k + 1) 0 = 0 := h.high _ (by omega)
  have a1 := val_set zs (S + k) (X1 + z) (by omega)
  have a2 := val_set (zs.set (S + k) (X1 + z)) (S + k + 1) X2 (by rw [List.length_set]; omega)
  rw [getD_set_ne' (by omega), h0] at a2
  rw [hz] at a1
  refine ⟨?_, ?_, fun j hj => ?_⟩
  · rw [val_take_succ, hx, Nat.mul_add, Nat.mul_add, ← h.eq]
    have e1 : 18446744073709551616 ^ S * (2 ^ s * (18446744073709551616 ^ k * x)) = 18446744073709551616 ^ (S + k) * X1 + 18446744073709551616 ^ (S + k + 1) * X2 := by
      rw [← Nat.mul_assoc (2 ^ s), Nat.mul_comm (2 ^ s), Nat.mul_assoc (18446744073709551616 ^ k), Nat.mul_comm (2 ^ s) x, e, Nat.mul_add, Nat.mul_add, ← Nat.mul_assoc, ← Nat.pow_add, ← Nat.mul_assoc, ← Nat.pow_add, ← Nat.mul_assoc, ← Nat.pow_succ]
    rw [e1]
    rw [Nat.mul_add] at a1
    omega
  · rw [show S + (k + 1) = S + k + 1 from by omega, getD_set_eq (by rw [List.length_set]; omega)]
    exact h2
  · rw [getD_set_ne' (by omega), getD_set_ne' (by omega)]
    exact h.high j (by omega)
theorem ShInv.fin {S s n : Nat} {xs : List Nat} {zs : List Nat} (h : ShInv S s n xs n zs) (hn : xs.length = n) {N : Nat} (hN : N = 64 * S + s) : val zs = val xs * 2 ^ N := by
  rw [h.eq, val_take_all (by omega), hN, Nat.pow_add, Nat.pow_mul]
  rw [show (2 : Nat) ^ 64 = 18446744073709551616 from rfl]
  rw [← Nat.mul_assoc, Nat.mul_comm]
end M
theorem Ow.up {w w' : World} {base : Nat} {v : Value} {n : Nat} {xs : List Nat} (h : Ow w base v n xs) (hu : Up w w') : Ow w' base v n xs :=
  World.ownsRow.kept (row := none) h ⟨Below.os hu, Below.tape hu, Below.output hu, Below.size hu, fun j hj _ => Below.block hu j hj⟩ (by cases h : v.ownBlock <;> simp)
/-- What shiftUp comes to: a row of its own, of so many words. -/
def Rw (L a : Nat) (w : World) (e : Ending) (w' : World) : Prop := ∃ g zs, e = .returned (.slice (some ⟨g, 0, none⟩) L L) ∧ w.heap.size ≤ g ∧ Ow w' w.heap.size (.slice (some ⟨g, 0, none⟩) L L) L zs ∧ M.Wds zs ∧ M.val zs = a ∧ Up w w'

theorem or_up (z X1 s : Nat) (x : Nat) (h1 : X1 = x * 2 ^ s % 18446744073709551616) (h2 : X1 % 2 ^ s = 0) (hz : z < 2 ^ s) (hs : s < 64) :
    bits .or .u64 (z : Int) (IntKind.u64.wrap ((x : Int) * 2 ^ s)) = ((X1 + z : Nat) : Int) := by
  have e1 : (x : Int) * 2 ^ s = ((x * 2 ^ s : Nat) : Int) := by simp
  have h3 : (2 : Nat) ^ s ≤ 2 ^ 64 := Nat.pow_le_pow_right (by omega) (by omega)
  have e2 : IntKind.u64.wrap ((x * 2 ^ s : Nat) : Int) = (X1 : Int) := by
    rw [IntKind.wrap_u64, h1]; omega
  rw [e1, e2, bits_or_u64_nat _ _ (by omega) (by omega), Nat.or_comm, nat_join s _ _ h2 hz]

set_option maxHeartbeats 1000000 in
set_option maxRecDepth 100000 in
theorem shiftUp_any (w : World) (lo : Nat) (A : Option Addr) (n c : Nat) (xs : List Nat) (hx : Wd w lo A n c xs) (N : Nat) (hN : N ≤ 10000000) (hn : n ≤ 1000000000) :
    Calls Tryz.prog 38 #[.slice A n c, .int .i64 N] w (Rw (n + N / 64 + 1) (M.val xs * 2 ^ N) w) := by
  obtain ⟨S, hS⟩ : ∃ S, N / 64 = S := ⟨_, rfl⟩
  obtain ⟨s, hs⟩ : ∃ s, N % 64 = s := ⟨_, rfl⟩
  have hs64 : s < 64 := by omega
  have hSb : S ≤ 1000000 := by omega
  have hNS : N = 64 * S + s := by omega
  have q1 : (N : Int) / 64 = (S : Int) := by omega
  have q2 : (N : Int) % 64 = (s : Int) := by omega
  have q3 : (N : Int).tdiv 64 = (S : Int) := by rw [Int.tdiv_eq_ediv_of_nonneg (by omega)]; exact q1
  have q4 : (N : Int).tmod 64 = (s : Int) := by rw [Int.tmod_eq_emod_of_nonneg (by omega)]; exact q2
  rw [hS]
  have HN := Lib.hid hNS
  clear hS hs hNS
  obtain ⟨L, hL⟩ : ∃ L, n + S + 1 = L := ⟨_, rfl⟩
  have qL : (n : Int) + (S : Int) + 1 = (L : Int) := by omega
  rw [hL]
  have HL := Lib.hid hL
  have hLb : L ≤ 1001000001 := by omega
  clear hL
  have b1 := hx.len
  have b2 := hx.small
  go_enter Tryz.func38, Tryz.ntmps38
  go_wp2_with (at_make; refine wpList_make_wd _ rfl (.tmp 18) (.tmp 18) 23 rfl info_u64 Tryz.underlying23 (L : Int) (L : Int) L rfl rfl (by omega) (by omega) (by omega) ?_; intro w1 hown1 hg1)
  have hu1 : Up w w1 := (Up.refl w).grown hg1 (by simp)
  have hst : Hid (M.ShInv S s n xs 0 (List.replicate L 0)) := by rw [Hid, ← HL.out]; exact M.ShInv.start S s n xs
  go_loopw [22] (fun i wr => ∃ (k : Nat) (zs : List Nat), k ≤ n ∧ i = .int .i64 k ∧ Up w wr ∧ Ow wr w.heap.size (.slice (some ⟨w.heap.size, 0, none⟩) L L) L zs ∧ M.Wds zs ∧ Hid (M.ShInv S s n xs k zs)) (fun i _ => n - (intOf i).toNat)
  case atStart => exact ⟨0, _, by omega, rfl, hu1, hown1, M.Wds.replicate _, hst⟩
  case round =>
    obtain ⟨k, zs, hk, rfl, hu, hown, hwd, HI⟩ := hrel
    have hcA := (hx.up hu).at_
    have hzl := hown.num
    clear hown1 hg1 hu1 hst
    by_cases hlt : k < n
    · obtain ⟨bb, oo, rfl, _, hc⟩ := hcA (by omega)
      have hc1 := (hc k hlt).1
      obtain ⟨x, hxk⟩ : ∃ x, xs.getD k 0 = x := ⟨_, rfl⟩
      have hxb : x < 18446744073709551616 := by rw [← hxk]; exact hx.wds.getD k
      rw [hxk] at hc1
      obtain ⟨P, hP⟩ : ∃ P, S + k = P := ⟨_, rfl⟩
      have qP : (S : Int) + (k : Int) = (P : Int) := by omega
      have hL0 := HL.out
      have hP1 : P + 1 < L := by omega
      clear hL0
      obtain ⟨z, hz⟩ : ∃ z, zs.getD P 0 = z := ⟨_, rfl⟩
      have hzlow : z < 2 ^ s := by have := HI.out.low; rw [hP, hz] at this; exact this
      obtain ⟨X1, X2, f1, f2, f3, f4, f5, f6⟩ := M.shift_word x s hs64
      have hor := or_up z X1 s x f1 f4 hzlow hs64
      have hZb : X1 + z < 18446744073709551616 := by omega
      have hX2 := f6 hxb
      have hX2b : X2 < 18446744073709551616 := by
        have h3 : (2 : Nat) ^ s ≤ 2 ^ 64 := Nat.pow_le_pow_right (by omega) (by omega)
        omega
      obtain ⟨cs, hcs⟩ : ∃ cs, 64 - s = cs := ⟨_, rfl⟩
      have q5 : (64 : Int) - (s : Int) = (cs : Int) := by omega
      have q6 : (x : Int) / 2 ^ cs = (X2 : Int) := by rw [f2, hcs]; rfl
      have HE := Lib.hid (HI.out.step (z := z) (by rw [hzl, HL.out]) hlt hxk (by rw [hP]; exact hz) f3 hX2)
      rw [hP] at HE
      have hcz := hown.cellAt P (by omega)
      rw [cu_get (by omega), hz] at hcz
      have hfz := hown.frozenAt P
      have hfz1 := hown.frozenAt (P + 1)
      obtain ⟨Z, hZ⟩ : ∃ Z, X1 + z = Z := ⟨_, rfl⟩
      rw [hZ] at hor hZb HE
      clear hc hcA hxk f1 f2 f3 f4 f5 f6 hzlow hz hZ hP hX2 hcs
      go_wp2_with fail
      go_region
      obtain ⟨h1, _⟩ := hown.stored P (u64 Z)
      rw [cu_set] at h1
      have hown2 : Ow (wr.setCell ⟨w.heap.size, P, none⟩ (.int .u64 (Z : Int))).drew w.heap.size (.slice (some ⟨w.heap.size, 0, none⟩) L L) L (zs.set P Z) := Ow.up h1 ((Up.refl _).drewN 1)
      have hu2 : Up w (wr.setCell ⟨w.heap.size, P, none⟩ (.int .u64 (Z : Int))).drew := (hu.setCell (Nat.le_refl _) _).drewN 1
      have hwd2 := hwd.set P hZb
      clear hcz hfz hfz1 hown hu h1 hc1 HI hor hwd
      generalize (wr.setCell ⟨w.heap.size, P, none⟩ (.int .u64 (Z : Int))).drew = wr2 at hown2 hu2 ⊢
      have hzl2 := hown2.num
      have hcz2 := hown2.cellAt (P + 1) (by omega)
      rw [cu_get (by omega)] at hcz2
      have hfz2 := hown2.frozenAt (P + 1)
      go_wp2_with fail
      go_roundw
      case rel =>
        obtain ⟨h1, _⟩ := hown2.stored (P + 1) (u64 X2)
        rw [cu_set] at h1
        exact ⟨k + 1, _, by omega, by go_num, hu2.setCell (Nat.le_refl _) _, h1, hwd2.set _ hX2b, HE⟩
      case measure => simp [intOf]; omega
    · have hkn : k = n := by omega
      subst hkn
      go_wp2_with fail
      go_ret
      exact ⟨w.heap.size, zs, rfl, Nat.le_refl _, hown, hwd, HI.out.fin hx.num HN.out, hu⟩
end Go.Proofs.YtjmnobgllnaljaaGreatDoor
namespace Go.Proofs.YtjmnobgllnaljaaGreatDoor
open Go.RowKit Go.Shelf

set_option maxHeartbeats 1000000 in
set_option maxRecDepth 100000 in
theorem shl_any (w : World) (lo s : Nat) (v : Value) (a : Nat) (h : Nw w lo s v a) (hs : s ≤ 100000000) (n : Int) (N : Nat) (hN : max 0 (min n 131072) = (N : Int)) :
    Calls Tryz.prog 16 #[v, .int .i64 n] w (Res (s + N / 64 + 1) (a * 2 ^ N) w) := by
  obtain ⟨A, k, c, xs, rfl, hx, ha, hns⟩ := h
  have HA := Lib.hid ha
  have cl := clamp_any w n 131072
  rw [hN] at cl
  have CL := Lib.hid cl
  have hN1 : N ≤ 131072 := by omega
  have hN2 : N ≤ 10000000 := by omega
  clear ha cl hN hN1
  go_enter Tryz.func16, Tryz.ntmps16
  go_wp2_with fail
  refine (trim_any w lo A k c xs hx).mono ?_
  rintro _ _ ⟨m, ys, rfl, rfl, hy, hny, hv, hmn⟩
  have HV : Hid (M.val ys = a) := hv.trans HA.out
  clear hx hv HA
  go_wp2_with fail
  refine CL.out.mono ?_
  rintro _ _ ⟨rfl, rfl⟩
  go_wp2_with fail
  refine (shiftUp_any w lo A m c ys hy N hN2 (by omega)).mono ?_
  rintro _ w1 ⟨g, zs, rfl, hg, hown, hwd, hval, hu⟩
  have HZ : Hid (M.val zs = a * 2 ^ N) := by rw [Hid, hval, HV.out]
  obtain ⟨L, hL⟩ : ∃ L, m + N / 64 + 1 = L := ⟨_, rfl⟩
  have hLs : L ≤ s + N / 64 + 1 := by omega
  have hLb : L ≤ 1099511627776 := by omega
  rw [hL] at hown ⊢
  have hwd2 := Ow.wd_ hown hwd hLb
  clear hval hown hwd hL CL
  go_wp2_with fail
  refine (trim_any _ _ _ _ _ _ hwd2).mono ?_
  rintro _ _ ⟨m2, zz, rfl, rfl, hd2, hn2, hv2, hm2⟩
  go_wp2_with fail
  go_ret
  exact ⟨_, rfl, ⟨_, m2, _, zz, rfl, hd2, hv2.trans HZ.out, by omega, hn2⟩, hu⟩
end Go.Proofs.YtjmnobgllnaljaaGreatDoor
/-
  A slice that came in: trimmed, normalised.
-/
namespace Go.Proofs.YtjmnobgllnaljaaGreatDoor
open Go.RowKit Go.Shelf

theorem Src.keep {w : World} {A : Option Addr} {n c : Nat} {xs : List Nat} (h : Src w A n c xs) {m : Nat} (hm : m ≤ n) : Src w A m c (xs.take m) := h.take hm
/-- What trim comes to, of words that came in. -/
def TrimmedS (A : Option Addr) (n c a : Nat) (w : World) (e : Ending) (w' : World) : Prop :=
  ∃ m ys, e = .returned (.slice A m c) ∧ w = w' ∧ Src w A m c ys ∧ M.Nrm ys ∧ M.val ys = a ∧ m ≤ n

set_option maxHeartbeats 400000 in
theorem trim_src (w : World) (A : Option Addr) (n c : Nat) (xs : List Nat) (h : Src w A n c xs) (hn : n ≤ 140737488355328) :
    Calls Tryz.prog 35 #[.slice A n c] w (TrimmedS A n c (M.val xs) w) := by
  have h0 := h
  obtain ⟨hl, h1, h3, h5, h4⟩ := h
  have fin : ∀ m, m ≤ n → (0 < m → xs.getD (m - 1) 0 ≠ 0) → (∀ j, m ≤ j → j < n → xs.getD j 0 = 0) → Src w A m c (xs.take m) ∧ M.Nrm (xs.take m) ∧ M.val (xs.take m) = M.val xs ∧ m ≤ n :=
    fun m hm k1 k2 => ⟨h0.take hm, M.Nrm.take (by omega) k1, M.val_take_noughts (by omega) (fun j k3 k4 => k2 j k3 (by omega)), hm⟩
  have FIN := Lib.hid fin
  have H5 := Lib.hid h5
  have H4 := Lib.hid h4
  clear fin h0 hl h3 h5 h4
  go_enter Tryz.func35, Tryz.ntmps35
  go_wp2
  go_loop [0] (fun s => ∃ k : Nat, k ≤ n ∧ s = .slice A k c ∧ ∀ j, k ≤ j → j < n → xs.getD j 0 = 0) (fun s => lenOf s)
  case atStart => exact ⟨n, Nat.le_refl _, rfl, fun j _ _ => by omega⟩
  case round =>
    obtain ⟨k, hk, rfl, hz⟩ := hrel
    have HZ := Lib.hid hz
    clear hz
    by_cases hk0 : k = 0
    · subst hk0
      go_wp2
      go_ret
      obtain ⟨f1, f2, f3, f4⟩ := FIN.out 0 (by omega) (by omega) (fun j _ hj => HZ.out j (by omega) hj)
      exact ⟨0, _, rfl, rfl, f1, f2, f3, f4⟩
    · obtain ⟨ad, rfl⟩ : ∃ ad, A = some ad := by
        rcases A with _ | ad
        · have := H5.out rfl; omega
        · exact ⟨ad, rfl⟩
      obtain ⟨x, hx⟩ : ∃ x, xs.getD (k - 1) 0 = x := ⟨_, rfl⟩
      have hc1 := H4.out ad rfl (k - 1) (by omega)
      rw [hx] at hc1
      have HX := Lib.hid hx
      clear hx
      have hp : 0 < k := by omega
      clear hk0
      go_wp2
      · have hx0 : x = 0 := by
          have : ((x : Int) == 0) = true := by assumption
          simpa using this
        go_round
        case rel =>
          refine ⟨k - 1, by omega, by congr 1, fun j h1 h2 => ?_⟩
          by_cases hj : j = k - 1
          · rw [hj, HX.out, hx0]
          · exact HZ.out j (by omega) h2
        case measure => simp [lenOf]; omega
      · go_ret
        have hx0 : x ≠ 0 := by
          have : ((x : Int) == 0) = false := by assumption
          simpa using this
        obtain ⟨f1, f2, f3, f4⟩ := FIN.out k hk (fun _ => by rw [HX.out]; exact hx0) (fun j h1 h2 => HZ.out j h1 h2)
        exact ⟨k, _, rfl, rfl, f1, f2, f3, f4⟩

set_option maxHeartbeats 400000 in
theorem norm_src (w : World) (A : Option Addr) (n c : Nat) (xs : List Nat) (hx : Src w A n c xs) (hn : n ≤ 1000000000) : Calls Tryz.prog 20 #[.slice A n c] w (Res n (M.val xs) w) := by
  go_enter Tryz.func20, Tryz.ntmps20
  go_wp2_with fail
  refine (trim_src w A n c xs hx (by omega)).mono ?_
  rintro _ _ ⟨m, ys, rfl, rfl, hy, hny, hv, hmn⟩
  have HV := Lib.hid hv
  clear hv hx
  go_wp2_with (at_builtin; refine wpList_append_src _ rfl (.const (.slice none 0 0)) (.tmp 4) _ rfl info_u64 w.heap.size Tryz.underlying23 (.slice none 0 0) 0 [] rfl (World.ownsRow_nil _ _ _ _) A m c ys rfl hy (by omega) (Nat.le_refl _) ?_; intro v1 w1 hown1 hg1 hat1)
  go_ret
  have hup : Up w w1 := (Up.refl w).grown hg1 (by simp [Value.ownBlock])
  obtain ⟨A', c', rfl, hd⟩ := Ow.wd hown1 (M.Wds.append M.Wds.nil hy.wds) (by omega)
  exact ⟨_, rfl, ⟨A', _, c', _, rfl, hd, HV.out, by omega, hny⟩, hup⟩

theorem Wd.set_other {w : World} {lo n c : Nat} {A : Option Addr} {xs : List Nat} (h : Wd w lo A n c xs) {p : Addr} (hp : p.block < lo) (u : Value) : Wd (w.setCell p u) lo A n c xs :=
  h.keep fun q _ hq => ⟨World.cell?_setCell_other w _ _ _ (by rintro rfl; omega), by rw [World.frozen?_setCell]⟩
theorem norm_up (w w' : World) (A : Option Addr) (n c : Nat) (xs : List Nat) (hx : Src w A n c xs) (hu : Up w w') (hn : n ≤ 1000000000) : Calls Tryz.prog 20 #[.slice A n c] w' (Res n (M.val xs) w') := norm_src w' A n c xs (hx.up hu) hn
end Go.Proofs.YtjmnobgllnaljaaGreatDoor
