/-
  The reference of layer 4: ones, the forms.
-/
import Derived.Test.YtekmlhgnfjgebaaDoorForm5
import Derived.Deep.DeepCutAuto
import Derived.Deep.CutBlock
namespace Go.Proofs.YtekmlhgnfjgebaaDoor
open Go.RowKit

theorem Bf.put4 {w : World} {b : Nat} {ty : TypeId} {f : M.Fm} (h : Bf w b ty f) (v : Int) : Bf (w.setCell ⟨b, 4, none⟩ (.int .u64 v)) b ty ⟨f.k, f.W, f.m, f.b, v, f.n, f.x⟩ := by
  unfold Bf at h ⊢
  rw [setCell_eq_setRow w b 4 _ ty (0, 0) _ h, setRow_heap w b _ _ ty _ h]
  rfl
theorem Bf.put6 {w : World} {b : Nat} {ty : TypeId} {f : M.Fm} (h : Bf w b ty f) (v : Int) : Bf (w.setCell ⟨b, 6, none⟩ (.int .u64 v)) b ty ⟨f.k, f.W, f.m, f.b, f.t, f.n, v⟩ := by
  unfold Bf at h ⊢
  rw [setCell_eq_setRow w b 6 _ ty (0, 0) _ h, setRow_heap w b _ _ ty _ h]
  rfl
theorem wp_gen {P : Program} {C : Code} {Q : Exit → Act → World → Prop} {a : Act} {w : World} (h : ∀ V, V = w → C.wp P Q a V) : C.wp P Q a w := h w rfl

set_option maxHeartbeats 1000000 in
theorem ones_any (w : World) (n : Nat) (hn : n ≤ 64) (z : Int) (hz : Hid (2 ^ n - 1 = z)) : Calls Tryd.prog 20 #[.int .i64 (n : Int)] w (Same (.int .u64 z) w) := by
  go_enter Tryd.func20, Tryd.ntmps20
  go_wp2_with fail
  go_loop [3, 4] (fun xv iv => ∃ (x k : Nat), xv = u64 x ∧ iv = .int .i64 (k : Int) ∧ k ≤ n ∧ x < 18446744073709551616 ∧ Hid (x + 1 = 2 ^ k)) (fun _ iv => n - (intOf iv).toNat)
  case atStart => exact ⟨0, 0, rfl, rfl, Nat.zero_le _, by decide, rfl⟩
  case round =>
    obtain ⟨x, k, rfl, rfl, hk, hx, HX⟩ := hrel
    by_cases h : k < n
    · have d : decide ((k : Int) < (n : Int)) = true := decide_eq_true (by omega)
      have hb : 2 * x + 1 < 18446744073709551616 := by
        have h1 : 2 ^ (k + 1) ≤ 2 ^ 64 := Nat.pow_le_pow_right (by decide) (by omega)
        have h2 := HX.out
        have h3 : (2 : Nat) ^ 64 = 18446744073709551616 := by decide
        rw [Nat.pow_succ] at h1
        omega
      have HX2 : Hid (2 * x + 1 + 1 = 2 ^ (k + 1)) := by
        have h2 := HX.out
        show _ = _
        rw [Nat.pow_succ]
        omega
      clear hz HX
      go_wp2_with fail
      go_round
      case rel => exact ⟨2 * x + 1, k + 1, by go_num, by go_num, h, hb, HX2⟩
      case measure => simp [intOf]; omega
    · have d : decide ((k : Int) < (n : Int)) = false := decide_eq_false (by omega)
      have HF : Hid ((x : Int) = z) := by
        have h1 := HX.out
        obtain rfl : k = n := by omega
        show _ = _
        rw [← hz.out]
        have : ((x + 1 : Nat) : Int) = ((2 ^ k : Nat) : Int) := by rw [h1]
        rw [Int.natCast_pow] at this
        simp only [Int.natCast_add, Int.natCast_one] at this
        have e2 : ((2 : Nat) : Int) = 2 := rfl
        rw [e2] at this
        omega
      clear hz HX
      go_wp2_with fail
      go_ret
      exact ⟨ret_int HF.out, rfl⟩
end Go.Proofs.YtekmlhgnfjgebaaDoor
