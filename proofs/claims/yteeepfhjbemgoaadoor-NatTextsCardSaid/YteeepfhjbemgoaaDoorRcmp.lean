/-
  The reference's Compare and Same: their contracts.
-/
import Derived.Test.YteeepfhjbemgoaaDoorHalves
namespace Go.Proofs.YteeepfhjbemgoaaDoor
open Go.RowKit Go.Shelf

namespace M
theorem vh_eq (xs : List Nat) : vh xs = xs.getD 0 0 + 4294967296 * vh xs.tail := by
  cases xs <;> simp [vh]
theorem getD_tail (xs : List Nat) (j : Nat) : xs.tail.getD j 0 = xs.getD (j + 1) 0 := by
  cases xs <;> simp
theorem vh_ext : ∀ {xs ys : List Nat}, (∀ j, xs.getD j 0 = ys.getD j 0) → vh xs = vh ys
  | [], ys, h => by rw [vh_noughts (a := ys) (fun j => (h j).symm)]; rfl
  | x :: r, ys, h => by
    rw [vh_eq (x :: r), vh_eq ys, h 0]
    have : vh r = vh ys.tail := vh_ext (fun j => by rw [getD_tail]; exact h (j + 1))
    rw [show (x :: r).tail = r from rfl, this]
theorem Hs.getD {xs : List Nat} (h : Hs xs) (j : Nat) : xs.getD j 0 < 4294967296 := by
  rw [List.getD_eq_getElem?_getD]
  cases e : xs[j]? with
  | none => show 0 < _; omega
  | some x => exact h x (List.mem_of_getElem? e)
theorem Hs.tail {xs : List Nat} (h : Hs xs) : Hs xs.tail := fun x hx => h x (List.mem_of_mem_tail hx)
theorem vh_lt_of_get : ∀ (i : Nat) {xs ys : List Nat}, Hs xs → xs.getD i 0 < ys.getD i 0 → (∀ j, i < j → xs.getD j 0 = ys.getD j 0) → vh xs < vh ys
  | 0, xs, ys, _, h, he => by
    rw [vh_eq xs, vh_eq ys]
    have : vh xs.tail = vh ys.tail := vh_ext (fun j => by rw [getD_tail, getD_tail]; exact he (j + 1) (by omega))
    omega
  | i + 1, xs, ys, hx, h, he => by
    have h1 := vh_lt_of_get i (xs := xs.tail) (ys := ys.tail) hx.tail (by rw [getD_tail, getD_tail]; exact h) (fun j hj => by rw [getD_tail, getD_tail]; exact he (j + 1) (by omega))
    rw [vh_eq xs, vh_eq ys]
    have := hx.getD 0
    omega
end M

set_option maxHeartbeats 1000000 in
theorem rcmp_any (w : World) (lo lo' : Nat) (A A' : Option Addr) (n c n' c' : Nat) (xs ys : List Nat) (h : Wd w lo A n c xs) (h' : Wd w lo' A' n' c' ys) (hx : M.Hs xs) (hy : M.Hs ys) :
    Calls Tryd.prog 105 #[.slice A n c, .slice A' n' c'] w (Same (.int .i64 (M.cmp (M.vh xs) (M.vh ys))) w) := by
  have b1 := h.small
  have b2 := h'.small
  obtain ⟨T, hT, hT1, hT2, hT3⟩ : ∃ T : Nat, max (n : Int) (n' : Int) = (T : Int) ∧ n ≤ T ∧ n' ≤ T ∧ T ≤ 1099511627776 := ⟨max n n', by omega, by omega, by omega, by omega⟩
  have hst : ∀ j, T ≤ j → xs.getD j 0 = ys.getD j 0 := fun j hj => by
    rw [List.getD_eq_getElem?_getD, List.getD_eq_getElem?_getD, List.getElem?_eq_none (by rw [h.num]; omega), List.getElem?_eq_none (by rw [h'.num]; omega)]
  have HST := Lib.hid hst
  clear hst
  go_enter Tryd.func105, Tryd.ntmps105
  go_wp2_with fail
  go_loop [5] (fun s => ∃ k : Nat, k ≤ T ∧ s = .int .i64 k ∧ Hid (∀ j, k ≤ j → xs.getD j 0 = ys.getD j 0)) (fun s => (intOf s).toNat)
  case atStart => exact ⟨T, Nat.le_refl _, rfl, HST⟩
  case round =>
    obtain ⟨k, hk, rfl, HZ⟩ := hrel
    by_cases hk0 : k = 0
    · subst hk0
      have he : M.cmp (M.vh xs) (M.vh ys) = 0 := M.cmp_eq (M.vh_ext (fun j => HZ.out j (by omega)))
      have HE := Lib.hid he
      clear he
      go_wp2_with fail
      go_ret
      exact ⟨by rw [HE.out]; rfl, rfl⟩
    · obtain ⟨k', hk'⟩ : ∃ k', k = k' + 1 := ⟨k - 1, by omega⟩
      have q1 : (k : Int) - 1 = (k' : Int) := by omega
      have cx := Lib.hid (get_any w lo A n c xs h k' _ rfl)
      have cy := Lib.hid (get_any w lo' A' n' c' ys h' k' _ rfl)
      obtain ⟨x, hxk⟩ : ∃ x, xs.getD k' 0 = x := ⟨_, rfl⟩
      obtain ⟨y, hyk⟩ : ∃ y, ys.getD k' 0 = y := ⟨_, rfl⟩
      have hxb : x < 4294967296 := by rw [← hxk]; exact hx.getD k'
      have hyb : y < 4294967296 := by rw [← hyk]; exact hy.getD k'
      rw [hxk] at cx
      rw [hyk] at cy
      have f1 : x < y → M.cmp (M.vh xs) (M.vh ys) = -1 := fun hlt => M.cmp_lt (M.vh_lt_of_get k' hx (by rw [hxk, hyk]; exact hlt) (fun j hj => HZ.out j (by omega)))
      have f2 : y < x → M.cmp (M.vh xs) (M.vh ys) = 1 := fun hlt => M.cmp_gt (M.vh_lt_of_get k' hy (by rw [hxk, hyk]; exact hlt) (fun j hj => (HZ.out j (by omega)).symm))
      have f3 : x = y → ∀ j, k' ≤ j → xs.getD j 0 = ys.getD j 0 := fun e j hj => by
        by_cases e1 : j = k'
        · rw [e1, hxk, hyk, e]
        · exact HZ.out j (by omega)
      have F1 := Lib.hid f1
      have F2 := Lib.hid f2
      have F3 := Lib.hid f3
      have hkp : 0 < k := by omega
      clear hxk hyk f1 f2 f3 hk0
      rcases Nat.lt_trichotomy x y with ht | ht | ht
      · have HE := Lib.hid (F1.out ht)
        go_wp2_with fail
        refine cx.out.mono ?_
        rintro _ _ ⟨rfl, rfl⟩
        go_wp2_with fail
        refine cy.out.mono ?_
        rintro _ _ ⟨rfl, rfl⟩
        go_wp2_with fail
        go_ret
        exact ⟨by rw [HE.out]; rfl, rfl⟩
      · have HE := Lib.hid (F3.out ht)
        subst ht
        go_wp2_with fail
        refine cx.out.mono ?_
        rintro _ _ ⟨rfl, rfl⟩
        go_wp2_with fail
        refine cy.out.mono ?_
        rintro _ _ ⟨rfl, rfl⟩
        go_wp2_with fail
        go_round
        case rel => exact ⟨k', by omega, by go_num, HE⟩
        case measure => simp [intOf]; omega
      · have HE := Lib.hid (F2.out ht)
        go_wp2_with fail
        refine cx.out.mono ?_
        rintro _ _ ⟨rfl, rfl⟩
        go_wp2_with fail
        refine cy.out.mono ?_
        rintro _ _ ⟨rfl, rfl⟩
        go_wp2_with fail
        go_ret
        exact ⟨by rw [HE.out]; rfl, rfl⟩

/-- What Same comes to, of a normal number. -/
def Sm (t : Bool) (w : World) (e : Ending) (w' : World) : Prop := e = .returned (.bool t) ∧ Up w w'

set_option maxHeartbeats 1000000 in
theorem same_any (w : World) (lo lo' s s' : Nat) (v v' : Value) (a : Nat) (h : Nt w lo s v a) (h' : Nh w lo' s' v' a) (hs : s ≤ 1000000000) :
    Calls Tryd.prog 64 #[v, v'] w (Sm true w) := by
  obtain ⟨A, n, c, xs, rfl, hx, ha, hns, hnx⟩ := h
  obtain ⟨A', n', c', ys, rfl, hy, hhy, hb, hns', hny⟩ := h'
  have HA := Lib.hid ha
  have HB := Lib.hid hb
  have ch := Lib.hid (halves_any w lo A n c xs hx (by omega))
  have b1 := hx.len
  have b2 := hx.small
  have b3 := hx.at_
  have hfin : ∀ w1, Up w w1 → Wd w1 lo' A' n' c' ys := fun w1 hu => hy.up hu
  have HF := Lib.hid hfin
  by_cases hn0 : n = 0
  · subst hn0
    clear ha hb b3 hfin hy hx
    go_enter Tryd.func64, Tryd.ntmps64
    go_wp2_with fail
    refine ch.out.mono ?_
    rintro _ w1 ⟨vh, rfl, ⟨A2, n2, c2, zs, rfl, hz, hhz, hvz, _, _⟩, hu⟩
    have HE : Hid (M.cmp (M.vh zs) (M.vh ys) = 0) := M.cmp_eq (by rw [hvz, HA.out, HB.out])
    have cc := rcmp_any w1 _ _ _ _ _ _ _ _ zs ys hz (HF.out w1 hu) hhz hhy
    rw [HE.out] at cc
    clear hvz
    go_wp2_with fail
    refine cc.mono ?_
    rintro _ _ ⟨rfl, rfl⟩
    go_wp2_with fail
    go_ret
    exact ⟨rfl, hu⟩
  · obtain ⟨b, o, rfl, _, hc⟩ := b3 (by omega)
    obtain ⟨n1, hn1⟩ : ∃ n1, n = n1 + 1 := ⟨n - 1, by omega⟩
    have q1 : (n : Int) - 1 = (n1 : Int) := by omega
    have hc1 := (hc n1 (by omega)).1
    obtain ⟨x, hxk⟩ : ∃ x, xs.getD n1 0 = x := ⟨_, rfl⟩
    have hx0 : 0 < x := by
      rcases Nat.eq_zero_or_pos x with e | e
      · exfalso
        apply hnx
        rw [List.getLast?_eq_getElem?, hx.num, hn1, Nat.add_sub_cancel]
        rw [List.getD_eq_getElem?_getD, e] at hxk
        have hlt : n1 < xs.length := by rw [hx.num]; omega
        rw [List.getElem?_eq_getElem hlt] at hxk ⊢
        exact congrArg some hxk
      · exact e
    have hxb : x < 18446744073709551616 := by rw [← hxk]; exact hx.wds.getD n1
    rw [hxk] at hc1
    have hnp : 0 < n := by omega
    have hlt1 : n1 < n := by omega
    clear ha hb b3 hfin hy hx hc hxk hnx hn1 hn0
    go_enter Tryd.func64, Tryd.ntmps64
    go_wp2_with fail
    refine ch.out.mono ?_
    rintro _ w1 ⟨vh, rfl, ⟨A2, n2, c2, zs, rfl, hz, hhz, hvz, _, _⟩, hu⟩
    have HE : Hid (M.cmp (M.vh zs) (M.vh ys) = 0) := M.cmp_eq (by rw [hvz, HA.out, HB.out])
    have cc := rcmp_any w1 _ _ _ _ _ _ _ _ zs ys hz (HF.out w1 hu) hhz hhy
    rw [HE.out] at cc
    clear hvz
    go_wp2_with fail
    refine cc.mono ?_
    rintro _ _ ⟨rfl, rfl⟩
    go_wp2_with fail
    go_ret
    exact ⟨rfl, hu⟩
end Go.Proofs.YteeepfhjbemgoaaDoor
