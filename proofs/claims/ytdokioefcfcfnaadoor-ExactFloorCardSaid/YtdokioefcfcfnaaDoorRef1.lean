/-
  The reference's Trim and get: their contracts.
-/
import Derived.Test.YtdokioefcfcfnaaDoorShift
namespace Go.Proofs.YtdokioefcfcfnaaDoor
open Go.RowKit Go.Shelf

/-- What the reference's Trim comes to: the row without the noughts at its end. -/
def RTr (lo : Nat) (A : Option Addr) (n c : Nat) (xs : List Nat) (w : World) (e : Ending) (w' : World) : Prop :=
  ∃ m, e = .returned (.slice A m c) ∧ w = w' ∧ Wd w lo A m c (xs.take m) ∧ M.Nrm (xs.take m) ∧ m ≤ n ∧ ∀ j, m ≤ j → xs.getD j 0 = 0

set_option maxHeartbeats 400000 in
theorem rtrim_any (w : World) (lo : Nat) (A : Option Addr) (n c : Nat) (xs : List Nat) (h : Wd w lo A n c xs) :
    Calls Tryd.prog 53 #[.slice A n c] w (RTr lo A n c xs w) := by
  have h0 := h
  obtain ⟨hl, h1, h2, h3, h4⟩ := h
  have fin : ∀ m, m ≤ n → (0 < m → xs.getD (m - 1) 0 ≠ 0) → (∀ j, m ≤ j → j < n → xs.getD j 0 = 0) → Wd w lo A m c (xs.take m) ∧ M.Nrm (xs.take m) ∧ m ≤ n ∧ ∀ j, m ≤ j → xs.getD j 0 = 0 :=
    fun m hm k1 k2 => ⟨h0.take hm, M.Nrm.take (by omega) k1, hm, fun j k3 => by
      rcases Nat.lt_or_ge j n with k4 | k4
      · exact k2 j k3 k4
      · rw [List.getD_eq_getElem?_getD, List.getElem?_eq_none (by omega)]; rfl⟩
  have FIN := Lib.hid fin
  clear fin h0 hl h3
  go_enter Tryd.func53, Tryd.ntmps53
  go_wp2
  go_loop [3] (fun s => ∃ k : Nat, k ≤ n ∧ s = .int .i64 k ∧ ∀ j, k ≤ j → j < n → xs.getD j 0 = 0) (fun s => (intOf s).toNat)
  case atStart => exact ⟨n, Nat.le_refl _, rfl, fun j _ _ => by omega⟩
  case round =>
    obtain ⟨k, hk, rfl, hz⟩ := hrel
    have HZ := Lib.hid hz
    clear hz
    by_cases hk0 : k = 0
    · subst hk0
      go_wp2
      go_ret
      obtain ⟨f1, f2, f3, f4⟩ := FIN.out 0 (by omega) (by omega) (fun j _ hj => HZ.out j (by omega) hj)
      exact ⟨0, rfl, rfl, f1, f2, f3, f4⟩
    · obtain ⟨b, o, rfl, hb, hc⟩ := h4 (by omega)
      obtain ⟨x, hx⟩ : ∃ x, xs.getD (k - 1) 0 = x := ⟨_, rfl⟩
      have hc1 := (hc (k - 1) (by omega)).1
      rw [hx] at hc1
      have HX := Lib.hid hx
      clear hx hc
      have hp : 0 < k := by omega
      clear hk0
      go_wp2
      · have hx0 : x = 0 := by
          have : ((x : Int) == 0) = true := by assumption
          simpa using this
        go_round
        case rel =>
          refine ⟨k - 1, by omega, by go_num, fun j h1 h2 => ?_⟩
          by_cases hj : j = k - 1
          · rw [hj, HX.out, hx0]
          · exact HZ.out j (by omega) h2
        case measure => simp [intOf]; omega
      · go_ret
        have hx0 : x ≠ 0 := by
          have : ((x : Int) == 0) = false := by assumption
          simpa using this
        obtain ⟨f1, f2, f3, f4⟩ := FIN.out k hk (fun _ => by rw [HX.out]; exact hx0) (fun j h1 h2 => HZ.out j h1 h2)
        exact ⟨k, rfl, rfl, f1, f2, f3, f4⟩

set_option maxHeartbeats 400000 in
theorem get_any (w : World) (lo : Nat) (A : Option Addr) (n c : Nat) (xs : List Nat) (h : Wd w lo A n c xs) (i : Nat) (I : Int) (hI : I = (i : Int)) :
    Calls Tryd.prog 59 #[.slice A n c, .int .i64 I] w (Same (u64 (xs.getD i 0)) w) := by
  subst hI
  obtain ⟨hl, h1, h2, h3, h4⟩ := h
  by_cases hk : i < n
  · obtain ⟨b, o, rfl, hb, hc⟩ := h4 (by omega)
    have hc1 := (hc i hk).1
    generalize xs.getD i 0 = x at *
    clear hc h4 h3 hl
    go_enter Tryd.func59, Tryd.ntmps59
    go_wp2
    go_ret
    exact ⟨rfl, rfl⟩
  · have e : xs.getD i 0 = 0 := by rw [List.getD_eq_getElem?_getD, List.getElem?_eq_none (by omega)]; rfl
    rw [e]
    clear h4 h3 hl e
    go_enter Tryd.func59, Tryd.ntmps59
    go_wp2
    go_ret
    exact ⟨rfl, rfl⟩
end Go.Proofs.YtdokioefcfcfnaaDoor
