/-
  The reference of layer 7: odd numbers, the sign and the magnitude of a pattern.
-/
import Derived.Test.YtjcbncfpcechnaaDoorFormB
import Derived.Test.YtjcbncfpcechnaaDoorPm
import Derived.OwnWalk
namespace Go.Proofs.YtjcbncfpcechnaaDoor
open Go.RowKit

namespace M
/-- The sign and the magnitude of a pattern. -/
def ngs (f : Fm) (p : Int) : Bool := !decide (sgn f = 0) && decide (sgn f ≤ p)
def kyf (f : Fm) (p : Int) : Int := if ngs f p = true then (if f.k = 2 then p - sgn f else msk f - p + 1) else p
theorem sgn_ok {f : Fm} (h : Ok f) : (f.k = 4 → sgn f = 0) ∧ (f.k ≠ 4 → sgn f = half f ∧ 0 < sgn f) := by
  have hm := h.hm
  unfold sgn
  exact ⟨fun e => by rw [if_pos e], fun e => by rw [if_neg e]; exact ⟨rfl, hm.1⟩⟩
theorem kyf_rng {f : Fm} (h : Ok f) {p : Int} (p1 : 0 ≤ p) (p2 : p ≤ msk f) : 0 ≤ kyf f p ∧ kyf f p ≤ msk f ∧ (f.k ≠ 4 → kyf f p ≤ half f) ∧ (f.k = 2 → kyf f p < half f) := by
  have hm := h.hm
  obtain ⟨a, b⟩ := sgn_ok h
  unfold kyf ngs
  by_cases h4 : f.k = 4
  · rw [a h4]
    simp
    exact ⟨p1, p2, fun e => absurd h4 e, fun e => by omega⟩
  · obtain ⟨b1, b2⟩ := b h4
    rw [b1]
    rw [b1] at b2
    have e0 : decide (half f = 0) = false := decide_eq_false (by omega)
    rw [e0]
    by_cases hp : half f ≤ p
    · rw [decide_eq_true hp]
      simp
      split
      · exact ⟨by omega, by omega, fun _ => by omega, fun _ => by omega⟩
      · rename_i h2
        exact ⟨by omega, by omega, fun _ => by omega, fun e => absurd e h2⟩
    · rw [decide_eq_false hp]
      simp
      exact ⟨by omega, by omega, fun _ => by omega, fun _ => by omega⟩
end M
set_option maxHeartbeats 2000000 in
theorem rodd_any (w : World) (x m t : Nat) (e : Int) (hx : x < 18446744073709551616) (hx0 : 0 < x) (he : -100000 ≤ e ∧ e ≤ 100000) (hm : Hid (x = m * 2 ^ t)) (ho : m % 2 = 1) (z : Int) (hz : Hid (e + t = z)) :
    Calls Tryd.prog 48 #[u64 x, .int .i64 e] w (Same (.tuple #[u64 m, .int .i64 z]) w) := by
  have t64 : t < 64 := by
    have p3 : 2 ^ t ≤ m * 2 ^ t := Nat.le_mul_of_pos_left _ (by omega)
    have := hm.out
    exact M.p2inj (by have : (2 : Nat) ^ 64 = 18446744073709551616 := by decide
                      omega)
  have x1 : ((x : Int) == 0) = false := by rw [beq_eq_false_iff_ne]; omega
  go_enter Tryd.func48, Tryd.ntmps48
  go_wp2_with fail
  go_loop [0, 1] (fun xv ev => ∃ (y s : Nat) (v : Int), xv = .int .u64 (y : Int) ∧ ev = .int .i64 v ∧ s ≤ t ∧ 0 < y ∧ y ≤ x ∧ Hid (y = m * 2 ^ (t - s)) ∧ v = e + s) (fun xv _ => (intOf xv).toNat)
  case atStart => exact ⟨x, 0, e, rfl, rfl, Nat.zero_le _, hx0, Nat.le_refl _, by show _ = _; rw [hm.out]; rfl, by omega⟩
  case round =>
    obtain ⟨y, s, v, rfl, rfl, hs, hy0, hyx, HX, hv⟩ := hrel
    by_cases hst : s < t
    · obtain ⟨y', hy'⟩ : ∃ y', y / 2 = y' := ⟨_, rfl⟩
      have h2 : y = 2 * (m * 2 ^ (t - (s + 1))) := by
        rw [HX.out, show t - s = (t - (s + 1)) + 1 by omega, M.p2s]
        ac_rfl
      have HX3 : Hid (y' = m * 2 ^ (t - (s + 1))) := by show _ = _; omega
      have q1 : (y : Int) % 2 = 0 := by omega
      have q2 : (y : Int) / 2 = (y' : Int) := by omega
      have q3 : y' < y ∧ 0 < y' := by omega
      have HV : Hid (v + 1 = e + (s + 1 : Nat)) := by show _ = _; omega
      have vb : -100000 ≤ v ∧ v ≤ 100100 := by omega
      clear h2 hy' HX hv
      go_wp2_with fail
      go_round
      case rel => exact ⟨y', s + 1, v + 1, rfl, by go_num, hst, q3.2, by omega, HX3, HV.out⟩
      case measure => simp [intOf]; omega
    · obtain rfl : y = m := by rw [HX.out, show t - s = 0 by omega]; simp
      have q1 : (y : Int) % 2 = 1 := by omega
      obtain rfl : v = z := by have := hz.out; omega
      clear HX hv hz hm
      go_wp2_with fail
      go_ret2
      exact ⟨rfl, rfl⟩
set_option maxHeartbeats 1000000 in
theorem rodd_zero (w : World) (e : Int) : Calls Tryd.prog 48 #[.int .u64 0, .int .i64 e] w (Same (.tuple #[.int .u64 0, .int .i64 0]) w) := by
  go_enter Tryd.func48, Tryd.ntmps48
  go_wp2_with fail
  go_ret2
  exact ⟨rfl, rfl⟩
/-- What parts comes to. -/
def Bk (t : Bool) (k : Int) (w : World) (e : Ending) (w' : World) : Prop := e = .returned (.tuple #[.bool t, .int .u64 k]) ∧ Up w w'
end Go.Proofs.YtjcbncfpcechnaaDoor
