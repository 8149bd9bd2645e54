/-
  nat.trim, nat.wordAt: their contracts.
-/
import Derived.Test.YtdokioefcfcfnaaDoorMem
namespace Go.Proofs.YtdokioefcfcfnaaDoor
open Go.RowKit

/-- What trim comes to. -/
def Trimmed (lo : Nat) (A : Option Addr) (n c a : Nat) (w : World) (e : Ending) (w' : World) : Prop :=
  ∃ m ys, e = .returned (.slice A m c) ∧ w = w' ∧ Wd w lo A m c ys ∧ M.Nrm ys ∧ M.val ys = a ∧ m ≤ n

set_option maxHeartbeats 400000 in
theorem trim_any (w : World) (lo : Nat) (A : Option Addr) (n c : Nat) (xs : List Nat) (h : Wd w lo A n c xs) :
    Calls Tryd.prog 55 #[.slice A n c] w (Trimmed lo A n c (M.val xs) w) := by
  have h0 := h
  obtain ⟨hl, h1, h2, h3, h4⟩ := h
  have fin : ∀ m, m ≤ n → (0 < m → xs.getD (m - 1) 0 ≠ 0) → (∀ j, m ≤ j → j < n → xs.getD j 0 = 0) → Wd w lo A m c (xs.take m) ∧ M.Nrm (xs.take m) ∧ M.val (xs.take m) = M.val xs ∧ m ≤ n :=
    fun m hm k1 k2 => ⟨h0.take hm, M.Nrm.take (by omega) k1, M.val_take_noughts (by omega) (fun j k3 k4 => k2 j k3 (by omega)), hm⟩
  have FIN := Lib.hid fin
  clear fin h0 hl h3
  go_enter Tryd.func55, Tryd.ntmps55
  go_wp2
  go_loop [0] (fun s => ∃ k : Nat, k ≤ n ∧ s = .slice A k c ∧ ∀ j, k ≤ j → j < n → xs.getD j 0 = 0) (fun s => lenOf s)
  case atStart => exact ⟨n, Nat.le_refl _, rfl, fun j _ _ => by omega⟩
  case round =>
    obtain ⟨k, hk, rfl, hz⟩ := hrel
    have HZ := Lib.hid hz
    clear hz
    by_cases hk0 : k = 0
    · subst hk0
      go_wp2
      go_ret
      obtain ⟨f1, f2, f3, f4⟩ := FIN.out 0 (by omega) (by omega) (fun j _ hj => HZ.out j (by omega) hj)
      exact ⟨0, _, rfl, rfl, f1, f2, f3, f4⟩
    · obtain ⟨b, o, rfl, hb, hc⟩ := h4 (by omega)
      obtain ⟨x, hx⟩ : ∃ x, xs.getD (k - 1) 0 = x := ⟨_, rfl⟩
      have hc1 := (hc (k - 1) (by omega)).1
      rw [hx] at hc1
      have HX := Lib.hid hx
      clear hx hc
      have hp : 0 < k := by omega
      clear hk0
      go_wp2
      · have hx0 : x = 0 := by
          have : ((x : Int) == 0) = true := by assumption
          simpa using this
        go_round
        case rel =>
          refine ⟨k - 1, by omega, by congr 1, fun j h1 h2 => ?_⟩
          by_cases hj : j = k - 1
          · rw [hj, HX.out, hx0]
          · exact HZ.out j (by omega) h2
        case measure => simp [lenOf]; omega
      · go_ret
        have hx0 : x ≠ 0 := by
          have : ((x : Int) == 0) = false := by assumption
          simpa using this
        obtain ⟨f1, f2, f3, f4⟩ := FIN.out k hk (fun _ => by rw [HX.out]; exact hx0) (fun j h1 h2 => HZ.out j h1 h2)
        exact ⟨k, _, rfl, rfl, f1, f2, f3, f4⟩

set_option maxHeartbeats 400000 in
/-- wordAt: the word at i; 0 behind the last one. -/
theorem wordAt_any (w : World) (lo : Nat) (A : Option Addr) (n c : Nat) (xs : List Nat) (h : Wd w lo A n c xs) (i : Int) (hi : 0 ≤ i) (hi' : i ≤ 1000000000000000000) :
    Calls Tryd.prog 54 #[.slice A n c, .int .i64 i] w (Same (u64 (xs.getD i.toNat 0)) w) := by
  obtain ⟨k, rfl⟩ := Int.eq_ofNat_of_zero_le hi
  rw [Int.toNat_natCast]
  obtain ⟨hl, h1, h2, h3, h4⟩ := h
  by_cases hk : k < n
  · obtain ⟨b, o, rfl, hb, hc⟩ := h4 (by omega)
    have hc1 := (hc k hk).1
    generalize xs.getD k 0 = x at *
    clear hc h4 h3 hl
    go_enter Tryd.func54, Tryd.ntmps54
    go_wp2
    go_ret
    exact ⟨rfl, rfl⟩
  · have hx : xs.getD k 0 = 0 := by simp [List.getD_eq_getElem?_getD, List.getElem?_eq_none (show xs.length ≤ k by omega)]
    rw [hx]
    clear hx h4 h3 hl
    go_enter Tryd.func54, Tryd.ntmps54
    go_wp2
    go_ret
    exact ⟨rfl, rfl⟩

theorem wordAt_nat (w : World) (lo : Nat) (A : Option Addr) (n c : Nat) (xs : List Nat) (h : Wd w lo A n c xs) (k : Nat) (hk : k ≤ 1000000000000000) (y : Nat) (hy : xs.getD k 0 = y) :
    Calls Tryd.prog 54 #[.slice A n c, .int .i64 (k : Int)] w (Same (u64 y) w) := by
  have := wordAt_any w lo A n c xs h (k : Int) (by omega) (by omega)
  rw [Int.toNat_natCast, hy] at this
  exact this
end Go.Proofs.YtdokioefcfcfnaaDoor
