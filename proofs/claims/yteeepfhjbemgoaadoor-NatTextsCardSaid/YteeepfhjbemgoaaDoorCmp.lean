/-
  cmp.Compare, nat.Cmp: their contracts.
-/
import Derived.Test.YteeepfhjbemgoaaDoorMem
namespace Go.Proofs.YteeepfhjbemgoaaDoor
open Go.RowKit

set_option maxHeartbeats 400000 in
theorem compare_u64 (w : World) (x y : Nat) : Calls Tryd.prog 82 #[u64 x, u64 y] w (Same (.int .i64 (M.cmp x y)) w) := by
  rcases Nat.lt_trichotomy x y with h | h | h
  · rw [M.cmp_lt h]
    go_enter Tryd.func82, Tryd.ntmps82
    go_wp2
    go_ret
    exact ⟨rfl, rfl⟩
  · rw [M.cmp_eq h]
    subst h
    go_enter Tryd.func82, Tryd.ntmps82
    go_wp2
    go_ret
    exact ⟨rfl, rfl⟩
  · rw [M.cmp_gt h]
    go_enter Tryd.func82, Tryd.ntmps82
    go_wp2
    go_ret
    exact ⟨rfl, rfl⟩

set_option maxHeartbeats 400000 in
theorem compare_int (w : World) (x y : Nat) : Calls Tryd.prog 81 #[.int .i64 x, .int .i64 y] w (Same (.int .i64 (M.cmp x y)) w) := by
  rcases Nat.lt_trichotomy x y with h | h | h
  · rw [M.cmp_lt h]
    go_enter Tryd.func81, Tryd.ntmps81
    go_wp2
    go_ret
    exact ⟨rfl, rfl⟩
  · rw [M.cmp_eq h]
    subst h
    go_enter Tryd.func81, Tryd.ntmps81
    go_wp2
    go_ret
    exact ⟨rfl, rfl⟩
  · rw [M.cmp_gt h]
    go_enter Tryd.func81, Tryd.ntmps81
    go_wp2
    go_ret
    exact ⟨rfl, rfl⟩

/-- cmp.Compare of lengths. -/
theorem M.cmp_of_lt {xs ys : List Nat} (hx : M.Wds xs) (hy : M.Nrm ys) (h : xs.length < ys.length) : M.cmp (M.val xs) (M.val ys) = M.cmp xs.length ys.length := by
  rw [M.cmp_lt h, M.cmp_lt (M.val_lt_of_length hx hy h)]
theorem M.cmp_of_ne {xs ys : List Nat} (hx : M.Wds xs) (hy : M.Wds ys) (hnx : M.Nrm xs) (hny : M.Nrm ys) (h : xs.length ≠ ys.length) : M.cmp (M.val xs) (M.val ys) = M.cmp xs.length ys.length := by
  rcases Nat.lt_or_gt_of_ne h with h | h
  · exact M.cmp_of_lt hx hny h
  · rw [M.cmp_gt h, M.cmp_gt (M.val_lt_of_length hy hnx h)]

set_option maxHeartbeats 400000 in
theorem cmp_any (w : World) (lo lo' s s' : Nat) (v v' : Value) (a b : Nat) (h : Nw w lo s v a) (h' : Nw w lo' s' v' b) :
    Calls Tryd.prog 35 #[v, v'] w (Val (.int .i64 (M.cmp a b)) w) := by
  obtain ⟨A, n, c, xs, rfl, hx, ha, _⟩ := h
  obtain ⟨A', n', c', xs', rfl, hx', hb, _⟩ := h'
  have HA := Lib.hid ha
  have HB := Lib.hid hb
  clear ha hb
  go_enter Tryd.func35, Tryd.ntmps35
  go_wp2_with fail
  refine (trim_any w lo A n c xs hx).mono ?_
  rintro _ _ ⟨m, ys, rfl, rfl, hy, hny, hv, hmn⟩
  have HV : Hid (M.val ys = a) := hv.trans HA.out
  clear hx hv HA
  go_wp2_with fail
  refine (trim_any w lo' A' n' c' xs' hx').mono ?_
  rintro _ _ ⟨m', ys', rfl, rfl, hy', hny', hv', hmn'⟩
  have HV' : Hid (M.val ys' = b) := hv'.trans HB.out
  clear hx' hv' HB
  have b1 := hy.len
  have b2 := hy.small
  have b3 := hy'.len
  have b4 := hy'.small
  by_cases hm : m = m'
  · subst hm
    have hneq : ((m : Int) != (m : Int)) = false := by simp
    have fin0 : (∀ j, 0 ≤ j → j < m → ys.getD j 0 = ys'.getD j 0) → M.cmp a b = 0 := by
      intro hz
      have e : ys = ys' := M.ext_getD (by rw [hy.num, hy'.num]) (fun j hj => hz j (by omega) (by rw [← hy.num]; exact hj))
      rw [← HV.out, ← HV'.out, e]
      exact M.cmp_eq rfl
    have fin1 : ∀ k, k < m → ys.getD k 0 ≠ ys'.getD k 0 → (∀ j, k + 1 ≤ j → j < m → ys.getD j 0 = ys'.getD j 0) → M.cmp (ys.getD k 0) (ys'.getD k 0) = M.cmp a b := by
      intro k hk hne hz
      rw [← HV.out, ← HV'.out]
      exact (M.cmp_of_get hy.wds hy'.wds (by rw [hy.num, hy'.num]) (by rw [hy.num]; exact hk) hne (fun j h1 h2 => hz j h1 (by rw [← hy.num]; exact h2))).symm
    have F0 := Lib.hid fin0
    have F1 := Lib.hid fin1
    have h4 := hy.at_
    have h4' := hy'.at_
    clear fin0 fin1 HV HV' hy hy' hny hny'
    go_wp2_with fail
    go_loopw [5] (fun i wr => ∃ (k : Int) (q : Nat), -1 ≤ k ∧ k < m ∧ i = .int .i64 k ∧ wr = w.drewN q ∧ Hid (∀ j : Nat, k + 1 ≤ j → j < m → ys.getD j 0 = ys'.getD j 0)) (fun i _ => (intOf i + 1).toNat)
    case atStart => exact ⟨(m : Int) - 1, 0, by omega, by omega, rfl, rfl, fun j _ _ => by omega⟩
    case round =>
      obtain ⟨k, q, hk1, hk2, rfl, rfl, HZ⟩ := hrel
      by_cases hk0 : k = -1
      · subst hk0
        go_wp2
        go_ret
        exact ⟨ret_int (F0.out fun j _ h2 => HZ.out j (by omega) h2).symm, q, rfl⟩
      · obtain ⟨i, rfl⟩ := Int.eq_ofNat_of_zero_le (show 0 ≤ k by omega)
        obtain ⟨b, o, rfl, hb, hc⟩ := h4 (by omega)
        obtain ⟨b', o', rfl, hb', hc'⟩ := h4' (by omega)
        have hc1 := (hc i (by omega)).1
        have hc1' := (hc' i (by omega)).1
        clear hc hc' hk0 h4 h4' hk1
        have FF := F1.out i (by omega)
        obtain ⟨x, hx⟩ : ∃ x, ys.getD i 0 = x := ⟨_, rfl⟩
        obtain ⟨y, hy⟩ : ∃ y, ys'.getD i 0 = y := ⟨_, rfl⟩
        rw [hx] at hc1
        rw [hy] at hc1'
        rw [hx, hy] at FF
        have FH := Lib.hid FF
        have HX := Lib.hid hx
        have HY := Lib.hid hy
        clear FF hx hy F1
        by_cases hxy : x = y
        · subst hxy
          have ht : ((x : Int) != (x : Int)) = false := by simp
          go_wp2_with fail
          go_quiet (fail)
          go_wp2
          go_roundw
          case rel =>
            refine ⟨(i : Int) - 1, _, by omega, by omega, rfl, rfl, fun j h1 h2 => ?_⟩
            by_cases hj : j = i
            · rw [hj, HX.out, HY.out]
            · exact HZ.out j (by omega) h2
          case measure => simp [intOf]
        · have ht : ((x : Int) != (y : Int)) = true := by rw [bne_iff_ne]; omega
          have FIN := Lib.hid (FH.out hxy (fun j h1 h2 => HZ.out j (by omega) h2))
          clear FH hxy
          go_wp2_with fail
          go_quiet (fail)
          go_wp2_with fail
          go_quiet ((go_at_call 82; exact Same.quiet2 (compare_u64 _ _ _)))
          go_wp2_with fail
          go_ret
          exact ⟨ret_int FIN.out, _, by rw [World.drewN_drewN, World.drewN_drewN]⟩
  · have hneq : ((m : Int) != (m' : Int)) = true := by rw [bne_iff_ne]; omega
    have fin : M.cmp m m' = M.cmp a b := by
      rw [← HV.out, ← HV'.out, M.cmp_of_ne hy.wds hy'.wds hny hny' (by rw [hy.num, hy'.num]; exact hm), hy.num, hy'.num]
    have FIN := Lib.hid fin
    clear HV HV' hy hy' hny hny' fin
    go_wp2_with fail
    refine (compare_int w m m').mono ?_
    rintro _ _ ⟨rfl, rfl⟩
    go_wp2_with fail
    go_ret
    exact ⟨ret_int FIN.out, 0, rfl⟩
end Go.Proofs.YteeepfhjbemgoaaDoor
