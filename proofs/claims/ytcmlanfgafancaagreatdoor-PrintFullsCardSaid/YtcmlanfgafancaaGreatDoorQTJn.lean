import Derived.Test.YtcmlanfgafancaaGreatDoorQTRva
import Derived.Test.YtcmlanfgafancaaGreatDoorQTObm
import Derived.Test.YtcmlanfgafancaaGreatDoorQTShelf
import Derived.Test.YtcmlanfgafancaaGreatDoorQTHn
import Derived.Test.YtcmlanfgafancaaGreatDoorQTNb
import Derived.Deep.RegionHeld3
import Derived.Deep.RegionWith
import Derived.Deep.LoopGhost
import Derived.BigQuiet
import Derived.Lib.AppendZeros
import Derived.Lib.SlBytesConst
import Derived.LoopN
import Derived.ArgAppend
import Derived.Test.YtcmlanfgafancaaGreatDoorQTNa
import Derived.Lib.ConvBytes
import Derived.Test.YtcmlanfgafancaaGreatDoorQTKs
set_option maxHeartbeats 32000000
set_option linter.unusedVariables false
set_option linter.unusedSimpArgs false
namespace Go.Proofs.YtcmlanfgafancaaGreatDoor
open Go.RowKit
namespace M
theorem lift_p2 (a : Nat) : 0 < 5 ^ a := Nat.pow_pos (by decide)
theorem sz_two (m n : Nat) : sz (m * 2 ^ n) 0 0 = sz m n 0 := by
 unfold sz ov
 rw [bse_eq, show ((n : Int) - -5000).toNat = n + ((0 : Int) - -5000).toNat by omega, Nat.pow_add]
 generalize 5 ^ ((0 : Int) - -5000).toNat = A
 generalize 2 ^ ((0 : Int) - -5000).toNat = B
 ac_rfl
theorem sz_five (m n : Nat) (hn : n ≤ 5000) : sz (m * 5 ^ n) (-(n : Int)) (-(n : Int)) = sz m (-(n : Int)) 0 := by
 unfold sz ov
 rw [bse_eq, show ((0 : Int) - -5000).toNat = n + (-(n : Int) - -5000).toNat by omega, Nat.pow_add]
 generalize 5 ^ (-(n : Int) - -5000).toNat = A
 generalize 2 ^ (-(n : Int) - -5000).toNat = B
 ac_rfl
theorem mg_z2 {f : Fm} (ok : Ok f) (ok2 : Ok2 f) (ok3 : Ok3 f) {k m : Nat} {z : Int} (hk : (k : Int) ≤ tp f) (h : Mg0 f k m z) : m < 18446744073709551616 ∧ -2000 ≤ z ∧ z ≤ 3000 := by
 obtain ⟨h1, _, h3⟩ := mg_z ok ok2 ok3 hk h
 refine ⟨h1, ?_, h3⟩
 have hm := ok.hm
 unfold tp at hk
 rcases h with ⟨_, _, _, rfl⟩ | ⟨h0, h⟩
 ·decide
 ·rcases h with ⟨e, a, ha, haW, h⟩ | ⟨e, p, hp, ho, h⟩ | ⟨e, hm', k0, ho, t, hk', hz⟩ | ⟨e, hb, hk', rfl, rfl⟩
  ·have := h.rng ha; omega
  ·obtain ⟨b1, b2, b3⟩ := ok3.two e
   rw [if_neg (by omega)] at hk
   have q2 : k / 2 ^ p ≤ 2047 := by
    refine Nat.le_trans (Nat.div_le_div_right (c := 2 ^ p) (show k ≤ f.t.toNat by omega)) ?_
    rw [show p = f.m.toNat by omega]
    exact b3
   exact (ism_z h ho.1 ⟨b1, b2⟩ q2).1
  ·have := ok2.tri e
   omega
  ·have := ok2.four e
   rw [if_neg (by omega)] at hk
   omega
theorem lt_two {m n K : Nat} (hm : m < 18446744073709551616) (hn : n ≤ K) : m * 2 ^ n < 18446744073709551616 * 2 ^ K :=
 Nat.lt_of_lt_of_le (Nat.mul_lt_mul_of_pos_right hm (p2 n)) (Nat.mul_le_mul_left _ (p2le hn))
theorem lt_five {m n K : Nat} (hm : m < 18446744073709551616) (hn : n ≤ K) : m * 5 ^ n < 18446744073709551616 * 5 ^ K :=
 Nat.lt_of_lt_of_le (Nat.mul_lt_mul_of_pos_right hm (lift_p2 n)) (Nat.mul_le_mul_left _ (Nat.pow_le_pow_right (by decide) hn))
theorem c_5a : (18446744073709551616 : Nat) * 5 ^ 2000 ≤ 10 ^ (1499 + 1) := by decide +kernel
theorem c_5c : (18446744073709551616 : Nat) * 5 ^ 500 ≤ 10 ^ (399 + 1) := by decide +kernel
end M
end Go.Proofs.YtcmlanfgafancaaGreatDoor
