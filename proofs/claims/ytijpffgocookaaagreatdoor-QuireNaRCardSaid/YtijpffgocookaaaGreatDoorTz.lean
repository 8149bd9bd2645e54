/-
  Where a word's lowest bit is; its lowest bits.
-/
import Derived.Test.YtijpffgocookaaaGreatDoorMem
import Derived.Test.YtijpffgocookaaaGreatDoorPm
import Derived.Shelf.Spec.TrailingZeros
import Derived.WalkLawsBesides
import Derived.Lib.Hide
namespace Go.Proofs.YtijpffgocookaaaGreatDoor
open Go.RowKit Go.Shelf

/-- The library's table of lowest bits is as it was laid. -/
def Tz (w : World) : Prop := TabAt 3 Lib.deBruijn64tab w
theorem Tz.up {w w' : World} (h : Tz w) (hu : Up w w') : Tz w' := fun j hj => by
  have h1 := h j hj
  rw [Below.cell (p := ⟨3, j, none⟩) hu (World.block_lt_of_cell? _ _ h1)]
  exact h1
theorem ctz_is {x m t : Nat} (hx : x < 18446744073709551616) (hm : x = m * 2 ^ t) (ho : m % 2 = 1) : Lib.ctz 64 x = t := by
  have p := M.p2 t
  have h0 : x ≠ 0 := by
    have : 0 < m * 2 ^ t := Nat.mul_pos (by omega) p
    omega
  obtain ⟨h1, _⟩ := Lib.lowest_bit 64 x h0 hx
  have e : x = 2 ^ t * (2 * (m / 2) + 1) := by rw [show 2 * (m / 2) + 1 = m by omega, hm, Nat.mul_comm]
  have h2 := Lib.and_neg 64 t (m / 2) (by rw [← e]; exact hx)
  rw [← e] at h2
  exact Nat.pow_right_inj (by decide) |>.1 (h1.symm.trans h2)
set_option maxHeartbeats 1000000 in
theorem tz_core (x k idx : Nat) (w : World) (hx0 : ((x : Int) == 0) = false)
    (key : IntKind.u64.wrap (bits BinOp.and IntKind.u64 (x : Int) (IntKind.u64.wrap (-(x : Int))) * 285870213051353865) / 288230376151711744 = (idx : Int))
    (hi : idx < 64) (hk : k < 64) (hcell : w.cell? ⟨3, idx, none⟩ = some (.int .u8 k)) :
    Calls Tryz.prog 168 #[u64 x] w (Same (.int .i64 (k : Int)) w) := by
  go_enter Tryz.func168, Tryz.ntmps168
  go_wp2_with (simp only [key])
  go_ret
  exact ⟨rfl, rfl⟩
theorem tz_any (w : World) (T : Tz w) (x m t : Nat) (hx : x < 18446744073709551616) (hm : x = m * 2 ^ t) (ho : m % 2 = 1) :
    Calls Tryz.prog 168 #[u64 x] w (Same (.int .i64 (t : Int)) w) := by
  have hc := ctz_is hx hm ho
  have h0 : x ≠ 0 := by
    have : 0 < m * 2 ^ t := Nat.mul_pos (by omega) (M.p2 t)
    omega
  obtain ⟨hlow, hk⟩ := Lib.lowest_bit 64 x h0 hx
  rw [hc] at hlow hk
  obtain ⟨hi, htab⟩ := Lib.deBruijn64_at _ hk
  have hcell := T _ hi
  rw [htab] at hcell
  exact tz_core x t _ w (by simp; omega) (tz64_key x _ hx h0 hlow) hi hk hcell
theorem and_pn (a b : Nat) (h : a < 18446744073709551616) (hb : b ≤ 63) : bits BinOp.and IntKind.u64 (a : Int) (((2 ^ b : Nat) : Int) - 1) = ((a % 2 ^ b : Nat) : Int) := by
  have p := M.p2 b
  have l : 2 ^ b ≤ 2 ^ 63 := M.p2le hb
  have e : (2 : Nat) ^ 63 = 9223372036854775808 := by decide
  have := bits_and_u64_nat a (2 ^ b - 1) h (by omega)
  rw [show ((2 ^ b : Nat) : Int) - 1 = ((2 ^ b - 1 : Nat) : Int) by omega, this, Nat.and_two_pow_sub_one_eq_mod]
end Go.Proofs.YtijpffgocookaaaGreatDoor
