/-
  The walk of NatShifts: true, and nothing that was there has turned.
-/
import Derived.Test.YtdokioefcfcfnaaDoorRuse
namespace Go.Proofs.YtdokioefcfcfnaaDoor
open Go.RowKit Go.Shelf

/-- Both bits, whatever the place. -/
theorem bit_both (z : Int) (hz : z ≤ 1000000000) (a : Nat) : ∃ t : Bool, ∀ (w : World) (lo lo' s s' : Nat) (v v' : Value), Nw w lo s v a → Nh w lo' s' v' a →
    Calls Tryd.prog 25 #[v, .int .i64 z] w (Same (.bool t) w) ∧ Calls Tryd.prog 26 #[v', .int .i64 z] w (Same (.bool t) w) := by
  rcases Int.lt_or_le z 0 with h | h
  · exact ⟨false, fun w lo lo' s s' v v' _ _ => ⟨bit_neg w v z h, rbit_neg w v' z h⟩⟩
  · obtain ⟨k, rfl⟩ := Int.eq_ofNat_of_zero_le h
    refine ⟨a.testBit k, fun w lo lo' s s' v v' h1 h2 => ⟨?_, ?_⟩⟩
    · exact bit_at w lo s v a h1 k _ rfl (by omega) _ rfl
    · exact rbit_of w lo' s' v' a h2 k _ rfl (by omega) _ rfl

namespace M
theorem vh_len3 {xs : List Nat} {n a : Nat} (hh : Hs xs) (hn : Nrm xs) (hl : xs.length = n) (hv : vh xs = a) : decide ((n : Int) < 3) = decide (a < 18446744073709551616) := by
  have h1 := vh_lt hh
  rw [hl, hv] at h1
  have key : (n : Int) < 3 ↔ a < 18446744073709551616 := by
    constructor
    · intro h
      have : 4294967296 ^ n ≤ 4294967296 ^ 2 := Nat.pow_le_pow_right (by omega) (by omega)
      omega
    · intro h
      rcases Nat.lt_or_ge n 3 with h2 | h2
      · omega
      · exfalso
        obtain ⟨m, hm⟩ : ∃ m, n = m + 1 := ⟨n - 1, by omega⟩
        have h3 := vh_take_succ xs m
        rw [List.take_of_length_le (by omega), hv] at h3
        have h4 := top_ne hn (show xs.length = m + 1 by omega)
        have h5 : 4294967296 ^ 2 ≤ 4294967296 ^ m := Nat.pow_le_pow_right (by omega) (by omega)
        have h6 : 4294967296 ^ m * 1 ≤ 4294967296 ^ m * xs.getD m 0 := Nat.mul_le_mul_left _ (by omega)
        omega
  simp only [key]
end M

set_option maxHeartbeats 16000000 in
set_option maxRecDepth 100000 in
theorem shifts_walk (w : World) (hTW : TabW w) (hEW : ErrW w) (A0 : Option Addr) (n0 c0 : Nat) (x0 : List Nat) (h0 : Src w A0 n0 c0 x0) (x1 : Int) (wx1 : (Lit.int .i64 x1).wf = true) (x2 : Int) (wx2 : (Lit.int .u64 x2).wf = true) :
    Calls Tryd.prog 3 #[.slice A0 n0 c0, .int .i64 x1, .int .u64 x2] w (True_ w) := by
  have U := Up.refl w
  obtain ⟨X, rfl, hX⟩ := wf_u64 wx2
  obtain ⟨r, hr, hr1, hr2⟩ := tmod_rng_of x1 2101 (by omega)
  have hw1 := wf_i64 wx1
  clear wx1 wx2
  obtain ⟨z, hz⟩ : ∃ z, r - 10 = z := ⟨_, rfl⟩
  have hz1 : -2111 ≤ z := by omega
  have hz2 : z ≤ 2090 := by omega
  obtain ⟨N, hN⟩ : ∃ N : Nat, max z 0 = (N : Int) := ⟨(max z 0).toNat, by omega⟩
  have hN2 : N ≤ 2090 := by omega
  have HN' : Hid (max 0 (min z 131072) = (N : Int)) := by show _ = _; omega
  go_enter Tryd.func3, Tryd.ntmps3
  go_wp2_with fail
  refine (shown_any _ hTW hEW).mono ?_
  rintro _ w1 ⟨rfl, hu1⟩
  replace h0 := h0.up hu1
  replace U := U.trans hu1
  clear hu1
  go_wp2_with fail
  refine (few_lit _ _ _ _ _ h0 30 _ rfl (by omega)).mono ?_
  rintro _ w2 ⟨va, na, rfl, a, hu2⟩
  replace U := U.trans hu2
  clear hu2
  obtain ⟨t, ht⟩ := bit_both z (by omega) na
  have HT := Lib.hid ht
  clear ht
  obtain ⟨A, m, c, ws, rfl, hA, hv, hm30⟩ := a
  have HV := Lib.hid hv
  clear hv
  go_wp2_with fail
  refine (halves_any _ _ A m c ws hA (by omega)).mono ?_
  rintro _ w3 ⟨vy, rfl, y, hu3⟩
  replace hA := hA.up hu3
  replace U := U.trans hu3
  clear hu3
  rw [HV.out] at y
  obtain ⟨A', m', c', hs, rfl, hB, hhs, hvh, hm60, hnh⟩ := y
  have HVH := Lib.hid hvh
  have hlen := M.vh_len3 hhs hnh hB.num hvh
  have HL := Lib.hid hlen
  clear hvh hlen
  have a : ∀ w', Up w3 w' → Nw w' _ 30 (.slice A m c) na := fun w' hu => ⟨A, m, c, ws, rfl, hA.up hu, HV.out, hm30⟩
  have b : ∀ w', Up w3 w' → Nh w' _ 60 (.slice A' m' c') na := fun w' hu => ⟨A', m', c', hs, rfl, hB.up hu, hhs, HVH.out, by omega, hnh⟩
  have HA := Lib.hid a
  have HB := Lib.hid b
  clear a b
  have V := Up.refl w3
  obtain ⟨o1, ho1⟩ : ∃ o1, decide (na < 18446744073709551616) = o1 := ⟨_, rfl⟩
  have HL2 : Hid (decide ((m' : Int) < 3) = o1) := HL.out.trans ho1
  have HO := Lib.hid ho1
  obtain ⟨lw, hlw⟩ : ∃ lw, na % 18446744073709551616 = lw := ⟨_, rfl⟩
  have hlw0 : ws.getD 0 0 = lw := by rw [M.getD_zero hA.wds, HV.out, hlw]
  have cw := word_any w3 _ _ _ na (HA.out _ V)
  rw [hlw, ho1] at cw
  have CW := Lib.hid cw
  have HLW := Lib.hid hlw0
  have hlwz : m = 0 → lw = 0 := fun h => by
    have e : ws = [] := List.eq_nil_of_length_eq_zero (by rw [hA.num, h])
    rw [← hlw0, e]; rfl
  have HLZ := Lib.hid hlwz
  clear ho1 hlw hlw0 cw hlwz HL
  go_wp2_with fail
  refine CW.out.mono ?_
  rintro _ _ ⟨rfl, rfl⟩
  clear CW
  go_wp2_with fail
  refine (shl_any _ _ _ _ _ (HA.out _ V) (by omega) z N HN'.out).mono ?_
  rintro _ w4 ⟨v4, rfl, h4, hu4⟩
  replace V := V.trans hu4
  go_wp2_with fail
  refine (up_of _ _ _ _ _ (HB.out _ V) (by omega) N _ rfl (by omega)).mono ?_
  rintro _ w5 ⟨v5, rfl, h5, hu5⟩
  replace h4 := h4.up hu5
  replace V := V.trans hu5
  go_wp2_with fail
  refine (same_law _ _ _ _ _ _ _ _ _ h4 h5 rfl (by omega)).mono ?_
  rintro _ w6 ⟨rfl, hu6⟩
  replace V := V.trans hu6
  clear h4 h5 hu4 hu5 hu6
  go_wp2_with fail
  refine (shr_any _ _ _ _ _ (HA.out _ V) z N HN'.out).mono ?_
  rintro _ w7 ⟨v7, rfl, h7, hu7⟩
  replace V := V.trans hu7
  go_wp2_with fail
  refine (down_of _ _ _ _ _ (HB.out _ V) (by omega) N _ rfl (by omega)).mono ?_
  rintro _ w8 ⟨v8, rfl, h8, hu8⟩
  replace h7 := h7.up hu8
  replace V := V.trans hu8
  go_wp2_with fail
  refine (same_law _ _ _ _ _ _ _ _ _ h7 h8 rfl (by omega)).mono ?_
  rintro _ w9 ⟨rfl, hu9⟩
  replace V := V.trans hu9
  clear h7 h8 hu7 hu8 hu9 hN HN'
  obtain ⟨bz, hbz⟩ : ∃ bz : Int, ((M.bits na : Nat) : Int) = bz := ⟨_, rfl⟩
  have HBZ := Lib.hid hbz
  clear hbz
  go_wp2_with fail
  refine (bits_at2 _ _ _ _ _ bz (HA.out _ V) HBZ).mono ?_
  rintro _ _ ⟨rfl, rfl⟩
  go_wp2_with fail
  refine (rbits_of _ _ _ _ _ (HB.out _ V) (by omega) bz HBZ).mono ?_
  rintro _ _ ⟨rfl, rfl⟩
  go_wp2_with fail
  refine (HT.out _ _ _ _ _ _ _ (HA.out _ V) (HB.out _ V)).1.mono ?_
  rintro _ _ ⟨rfl, rfl⟩
  go_wp2_with fail
  refine (HT.out _ _ _ _ _ _ _ (HA.out _ V) (HB.out _ V)).2.mono ?_
  rintro _ _ ⟨rfl, rfl⟩
  clear HT HBZ
  obtain ⟨t0, ht0⟩ : ∃ t0, na.testBit 0 = t0 := ⟨_, rfl⟩
  have HT0 := Lib.hid ht0
  have hnt : ((!t0) == t0) = false := by cases t0 <;> rfl
  clear ht0
  go_wp2_with fail
  refine (even_at _ _ _ _ _ (HA.out _ V) t0 HT0).mono ?_
  rintro _ _ ⟨rfl, rfl⟩
  go_wp2_with fail
  refine (rbit_of _ _ _ _ _ (HB.out _ V) 0 _ rfl (by omega) t0 HT0).mono ?_
  rintro _ _ ⟨rfl, rfl⟩
  clear HT0
  have hl3 := HL2.out
  rcases Nat.eq_zero_or_pos m with hm0 | hm0
  · obtain rfl := hm0
    have hlw : lw = 0 := HLZ.out rfl
    subst hlw
    go_wp2_with fail
    refine (norm_any _ _ _ _ _ (HA.out _ V)).mono ?_
    rintro _ w10 ⟨v10, rfl, h10, hu10⟩
    replace V := V.trans hu10
    go_wp2_with fail
    refine (same_law _ _ _ _ _ _ _ _ _ h10 (HB.out _ V) rfl (by omega)).mono ?_
    rintro _ w11 ⟨rfl, hu11⟩
    replace V := V.trans hu11
    clear hu10 hu11 h10
    go_wp2_with fail
    refine (of_lit _ X _ rfl hX).mono ?_
    rintro _ w12 ⟨v12, rfl, h12, hu12⟩
    replace V := V.trans hu12
    go_wp2_with fail
    have hal := (Up.refl w12).alloc (.cells #[.int .u64 (X : Int)] 24)
    replace h12 := h12.up hal
    replace V := V.trans hal
    refine (halves_any _ _ _ 1 1 [X] (lit1_wd w12 X _ rfl hX) (by omega)).mono ?_
    rintro _ w13 ⟨v13, rfl, h13, hu13⟩
    replace h12 := h12.up hu13
    replace V := V.trans hu13
    clear hal hu12 hu13
    go_wp2_with fail
    refine (same_law _ _ _ _ _ _ _ _ _ h12 h13 (by simp [M.val]) (by omega)).mono ?_
    rintro _ w14 ⟨rfl, hu14⟩
    go_wp2_with fail
    go_ret
    exact ⟨rfl, U.trans (V.trans hu14)⟩
  · obtain ⟨bb, oo, rfl, _, hc⟩ := (hA.up V).at_ hm0
    have hc1 := (hc 0 hm0).1
    rw [HLW.out, Nat.add_zero] at hc1
    go_wp2_with fail
    refine (norm_any _ _ _ _ _ (HA.out _ V)).mono ?_
    rintro _ w10 ⟨v10, rfl, h10, hu10⟩
    replace V := V.trans hu10
    go_wp2_with fail
    refine (same_law _ _ _ _ _ _ _ _ _ h10 (HB.out _ V) rfl (by omega)).mono ?_
    rintro _ w11 ⟨rfl, hu11⟩
    replace V := V.trans hu11
    clear hu10 hu11 h10
    go_wp2_with fail
    refine (of_lit _ X _ rfl hX).mono ?_
    rintro _ w12 ⟨v12, rfl, h12, hu12⟩
    replace V := V.trans hu12
    go_wp2_with fail
    have hal := (Up.refl w12).alloc (.cells #[.int .u64 (X : Int)] 24)
    replace h12 := h12.up hal
    replace V := V.trans hal
    refine (halves_any _ _ _ 1 1 [X] (lit1_wd w12 X _ rfl hX) (by omega)).mono ?_
    rintro _ w13 ⟨v13, rfl, h13, hu13⟩
    replace h12 := h12.up hu13
    replace V := V.trans hu13
    clear hal hu12 hu13
    go_wp2_with fail
    refine (same_law _ _ _ _ _ _ _ _ _ h12 h13 (by simp [M.val]) (by omega)).mono ?_
    rintro _ w14 ⟨rfl, hu14⟩
    go_wp2_with fail
    go_ret
    exact ⟨rfl, U.trans (V.trans hu14)⟩
end Go.Proofs.YtdokioefcfcfnaaDoor
