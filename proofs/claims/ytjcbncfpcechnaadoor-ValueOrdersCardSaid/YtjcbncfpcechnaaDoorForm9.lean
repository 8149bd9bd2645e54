/-
  The reference of layer 4: Of, the forms one by one.
-/
import Derived.Test.YtjcbncfpcechnaaDoorForm8
namespace Go.Proofs.YtjcbncfpcechnaaDoor
open Go.RowKit
set_option maxHeartbeats 2000000 in
set_option maxRecDepth 100000 in
theorem rof1 (w : World)  : Calls Tryd.prog 31 #[.int .i64 1] w (Fb ⟨1, 8, 0, 0, 127, 0, 128⟩ true w) := by
  have U := Up.refl w
  go_enter Tryd.func31, Tryd.ntmps31
  go_wp2_with fail
  go_loop [4, 5] (fun nv iv => ∃ n k : Nat, nv = .int .i64 (n : Int) ∧ iv = .int .i64 (k : Int) ∧ k ≤ 1 ∧ ((k = 1 ∧ n = 8) ∨ (k = 2 ∧ n = 16) ∨ (k = 3 ∧ n = 32) ∨ (k = 4 ∧ n = 64))) (fun _ iv => 1 - (intOf iv).toNat)
  case atStart => exact ⟨8, 1, rfl, rfl, by decide, .inl ⟨rfl, rfl⟩⟩
  case round =>
    obtain ⟨n, k, rfl, rfl, hk, hkn⟩ := hrel
    rcases hkn with ⟨rfl, rfl⟩ | ⟨rfl, rfl⟩ | ⟨rfl, rfl⟩ | ⟨rfl, rfl⟩
    ·
      clear hk
      go_wp2_with fail
      refine (ones_any _ 7 (by decide) 127 (by show _ = _; decide)).mono ?_
      rintro _ _ ⟨rfl, rfl⟩
      go_wp2_with fail
      refine (ones_any _ 7 (by decide) 127 (by show _ = _; decide)).mono ?_
      rintro _ _ ⟨rfl, rfl⟩
      go_wp2_with fail
      refine bodyPost_ret (v := .tuple #[fv ⟨1, 8, 0, 0, 127, 0, 128⟩, .bool true]) (by simp [results, Tryd.results31, go_sem]) rfl ?_
      exact ⟨rfl, by (repeat (first | exact U | refine Up.setCell ?_ (by first | exact Nat.le_refl _ | omega) _ | refine Up.alloc ?_ _)); try exact U⟩
    ·
      omega
    ·
      omega
    ·
      omega
set_option maxHeartbeats 2000000 in
set_option maxRecDepth 100000 in
theorem rof2 (w : World)  : Calls Tryd.prog 31 #[.int .i64 2] w (Fb ⟨1, 16, 0, 0, 32767, 0, 32768⟩ true w) := by
  have U := Up.refl w
  go_enter Tryd.func31, Tryd.ntmps31
  go_wp2_with fail
  go_loop [4, 5] (fun nv iv => ∃ n k : Nat, nv = .int .i64 (n : Int) ∧ iv = .int .i64 (k : Int) ∧ k ≤ 2 ∧ ((k = 1 ∧ n = 8) ∨ (k = 2 ∧ n = 16) ∨ (k = 3 ∧ n = 32) ∨ (k = 4 ∧ n = 64))) (fun _ iv => 2 - (intOf iv).toNat)
  case atStart => exact ⟨8, 1, rfl, rfl, by decide, .inl ⟨rfl, rfl⟩⟩
  case round =>
    obtain ⟨n, k, rfl, rfl, hk, hkn⟩ := hrel
    rcases hkn with ⟨rfl, rfl⟩ | ⟨rfl, rfl⟩ | ⟨rfl, rfl⟩ | ⟨rfl, rfl⟩
    ·
      go_wp2_with fail
      go_round
      case rel => exact ⟨16, 2, rfl, rfl, by decide, by decide⟩
      case measure => simp [intOf]
    ·
      clear hk
      go_wp2_with fail
      refine (ones_any _ 15 (by decide) 32767 (by show _ = _; decide)).mono ?_
      rintro _ _ ⟨rfl, rfl⟩
      go_wp2_with fail
      refine (ones_any _ 15 (by decide) 32767 (by show _ = _; decide)).mono ?_
      rintro _ _ ⟨rfl, rfl⟩
      go_wp2_with fail
      refine bodyPost_ret (v := .tuple #[fv ⟨1, 16, 0, 0, 32767, 0, 32768⟩, .bool true]) (by simp [results, Tryd.results31, go_sem]) rfl ?_
      exact ⟨rfl, by (repeat (first | exact U | refine Up.setCell ?_ (by first | exact Nat.le_refl _ | omega) _ | refine Up.alloc ?_ _)); try exact U⟩
    ·
      omega
    ·
      omega
set_option maxHeartbeats 2000000 in
set_option maxRecDepth 100000 in
theorem rof3 (w : World)  : Calls Tryd.prog 31 #[.int .i64 3] w (Fb ⟨1, 32, 0, 0, 2147483647, 0, 2147483648⟩ true w) := by
  have U := Up.refl w
  go_enter Tryd.func31, Tryd.ntmps31
  go_wp2_with fail
  go_loop [4, 5] (fun nv iv => ∃ n k : Nat, nv = .int .i64 (n : Int) ∧ iv = .int .i64 (k : Int) ∧ k ≤ 3 ∧ ((k = 1 ∧ n = 8) ∨ (k = 2 ∧ n = 16) ∨ (k = 3 ∧ n = 32) ∨ (k = 4 ∧ n = 64))) (fun _ iv => 3 - (intOf iv).toNat)
  case atStart => exact ⟨8, 1, rfl, rfl, by decide, .inl ⟨rfl, rfl⟩⟩
  case round =>
    obtain ⟨n, k, rfl, rfl, hk, hkn⟩ := hrel
    rcases hkn with ⟨rfl, rfl⟩ | ⟨rfl, rfl⟩ | ⟨rfl, rfl⟩ | ⟨rfl, rfl⟩
    ·
      go_wp2_with fail
      go_round
      case rel => exact ⟨16, 2, rfl, rfl, by decide, by decide⟩
      case measure => simp [intOf]
    ·
      go_wp2_with fail
      go_round
      case rel => exact ⟨32, 3, rfl, rfl, by decide, by decide⟩
      case measure => simp [intOf]
    ·
      clear hk
      go_wp2_with fail
      refine (ones_any _ 31 (by decide) 2147483647 (by show _ = _; decide)).mono ?_
      rintro _ _ ⟨rfl, rfl⟩
      go_wp2_with fail
      refine (ones_any _ 31 (by decide) 2147483647 (by show _ = _; decide)).mono ?_
      rintro _ _ ⟨rfl, rfl⟩
      go_wp2_with fail
      refine bodyPost_ret (v := .tuple #[fv ⟨1, 32, 0, 0, 2147483647, 0, 2147483648⟩, .bool true]) (by simp [results, Tryd.results31, go_sem]) rfl ?_
      exact ⟨rfl, by (repeat (first | exact U | refine Up.setCell ?_ (by first | exact Nat.le_refl _ | omega) _ | refine Up.alloc ?_ _)); try exact U⟩
    ·
      omega
set_option maxHeartbeats 2000000 in
set_option maxRecDepth 100000 in
theorem rof4 (w : World)  : Calls Tryd.prog 31 #[.int .i64 4] w (Fb ⟨1, 64, 0, 0, 9223372036854775807, 0, 9223372036854775808⟩ true w) := by
  have U := Up.refl w
  go_enter Tryd.func31, Tryd.ntmps31
  go_wp2_with fail
  go_loop [4, 5] (fun nv iv => ∃ n k : Nat, nv = .int .i64 (n : Int) ∧ iv = .int .i64 (k : Int) ∧ k ≤ 4 ∧ ((k = 1 ∧ n = 8) ∨ (k = 2 ∧ n = 16) ∨ (k = 3 ∧ n = 32) ∨ (k = 4 ∧ n = 64))) (fun _ iv => 4 - (intOf iv).toNat)
  case atStart => exact ⟨8, 1, rfl, rfl, by decide, .inl ⟨rfl, rfl⟩⟩
  case round =>
    obtain ⟨n, k, rfl, rfl, hk, hkn⟩ := hrel
    rcases hkn with ⟨rfl, rfl⟩ | ⟨rfl, rfl⟩ | ⟨rfl, rfl⟩ | ⟨rfl, rfl⟩
    ·
      go_wp2_with fail
      go_round
      case rel => exact ⟨16, 2, rfl, rfl, by decide, by decide⟩
      case measure => simp [intOf]
    ·
      go_wp2_with fail
      go_round
      case rel => exact ⟨32, 3, rfl, rfl, by decide, by decide⟩
      case measure => simp [intOf]
    ·
      go_wp2_with fail
      go_round
      case rel => exact ⟨64, 4, rfl, rfl, by decide, by decide⟩
      case measure => simp [intOf]
    ·
      clear hk
      go_wp2_with fail
      refine (ones_any _ 63 (by decide) 9223372036854775807 (by show _ = _; decide)).mono ?_
      rintro _ _ ⟨rfl, rfl⟩
      go_wp2_with fail
      refine (ones_any _ 63 (by decide) 9223372036854775807 (by show _ = _; decide)).mono ?_
      rintro _ _ ⟨rfl, rfl⟩
      go_wp2_with fail
      refine bodyPost_ret (v := .tuple #[fv ⟨1, 64, 0, 0, 9223372036854775807, 0, 9223372036854775808⟩, .bool true]) (by simp [results, Tryd.results31, go_sem]) rfl ?_
      exact ⟨rfl, by (repeat (first | exact U | refine Up.setCell ?_ (by first | exact Nat.le_refl _ | omega) _ | refine Up.alloc ?_ _)); try exact U⟩
set_option maxHeartbeats 2000000 in
set_option maxRecDepth 100000 in
theorem rof10 (w : World)  : Calls Tryd.prog 31 #[.int .i64 10] w (Fb ⟨3, 8, 6, 0, 127, 0, 0⟩ true w) := by
  have U := Up.refl w
  go_enter Tryd.func31, Tryd.ntmps31
  go_wp2_with fail
  refine bodyPost_ret (v := .tuple #[fv ⟨3, 8, 6, 0, 127, 0, 0⟩, .bool true]) (by simp [results, Tryd.results31, go_sem]) rfl ?_
  exact ⟨rfl, by (repeat (first | exact U | refine Up.setCell ?_ (by first | exact Nat.le_refl _ | omega) _ | refine Up.alloc ?_ _)); try exact U⟩
set_option maxHeartbeats 2000000 in
set_option maxRecDepth 100000 in
theorem rof11 (w : World)  : Calls Tryd.prog 31 #[.int .i64 11] w (Fb ⟨4, 8, 0, 127, 254, 0, 255⟩ true w) := by
  have U := Up.refl w
  go_enter Tryd.func31, Tryd.ntmps31
  go_wp2_with fail
  refine bodyPost_ret (v := .tuple #[fv ⟨4, 8, 0, 127, 254, 0, 255⟩, .bool true]) (by simp [results, Tryd.results31, go_sem]) rfl ?_
  exact ⟨rfl, by (repeat (first | exact U | refine Up.setCell ?_ (by first | exact Nat.le_refl _ | omega) _ | refine Up.alloc ?_ _)); try exact U⟩
end Go.Proofs.YtjcbncfpcechnaaDoor
