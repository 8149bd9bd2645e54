import Derived.Test.YtijpffgocookaaaGreatDoorQWFoa
import Derived.Test.YtijpffgocookaaaGreatDoorQWPm
import Derived.OwnWalk
import Derived.Test.YtijpffgocookaaaGreatDoorQWPfa
import Derived.Test.YtijpffgocookaaaGreatDoorQWMra
import Derived.BigQuiet
import Derived.Laws.Bits64
import Derived.Laws.Bits64b
import Derived.Laws.BitsAllLaws
set_option maxHeartbeats 32000000
set_option linter.unusedVariables false
set_option linter.unusedSimpArgs false
namespace Go.Proofs.YtijpffgocookaaaGreatDoor
open Go.RowKit
namespace M
def ngs (f : Fm) (p : Int) : Bool := !decide (sgn f = 0) && decide (sgn f ≤ p)
def kyf (f : Fm) (p : Int) : Int := if ngs f p = true then (if f.k = 2 then p - sgn f else msk f - p + 1) else p
theorem sgn_ok {f : Fm} (h : Ok f) : (f.k = 4 → sgn f = 0) ∧ (f.k ≠ 4 → sgn f = half f ∧ 0 < sgn f) := by
 have hm := h.hm
 unfold sgn
 exact ⟨fun e => by rw [if_pos e], fun e => by rw [if_neg e]; exact ⟨rfl, hm.1⟩⟩
theorem kyf_rng {f : Fm} (h : Ok f) {p : Int} (p1 : 0 ≤ p) (p2 : p ≤ msk f) : 0 ≤ kyf f p ∧ kyf f p ≤ msk f ∧ (f.k ≠ 4 → kyf f p ≤ half f) ∧ (f.k = 2 → kyf f p < half f) := by
 have hm := h.hm
 obtain ⟨a, b⟩ := sgn_ok h
 unfold kyf ngs
 by_cases h4 : f.k = 4
 ·rw [a h4]
  simp
  exact ⟨p1, p2, fun e => absurd h4 e, fun e => by omega⟩
 ·obtain ⟨b1, b2⟩ := b h4
  rw [b1]
  rw [b1] at b2
  have e0 : decide (half f = 0) = false := decide_eq_false (by omega)
  rw [e0]
  by_cases hp : half f ≤ p
  ·rw [decide_eq_true hp]
   simp
   split
   ·exact ⟨by omega, by omega, fun _ => by omega, fun _ => by omega⟩
   ·rename_i h2
    exact ⟨by omega, by omega, fun _ => by omega, fun e => absurd e h2⟩
  ·rw [decide_eq_false hp]
   simp
   exact ⟨by omega, by omega, fun _ => by omega, fun _ => by omega⟩
end M
theorem rodd_any (w : World) (x m t : Nat) (e : Int) (hx : x < 18446744073709551616) (hx0 : 0 < x) (he : -100000 ≤ e ∧ e ≤ 100000) (hm : Hid (x = m * 2 ^ t)) (ho : m % 2 = 1) (z : Int) (hz : Hid (e + t = z)) :
    Calls Tryz.prog 112 #[u64 x, .int .i64 e] w (Same (.tuple #[u64 m, .int .i64 z]) w) := by
  have t64 : t < 64 := by
    have p3 : 2 ^ t ≤ m * 2 ^ t := Nat.le_mul_of_pos_left _ (by omega)
    have := hm.out
    exact M.p2inj (by have : (2 : Nat) ^ 64 = 18446744073709551616 := by decide
                      omega)
  have x1 : ((x : Int) == 0) = false := by rw [beq_eq_false_iff_ne]; omega
  go_enter Tryz.func112, Tryz.ntmps112
  go_wp2_with fail
  go_loop [0, 1] (fun xv ev => ∃ (y s : Nat) (v : Int), xv = .int .u64 (y : Int) ∧ ev = .int .i64 v ∧ s ≤ t ∧ 0 < y ∧ y ≤ x ∧ Hid (y = m * 2 ^ (t - s)) ∧ v = e + s) (fun xv _ => (intOf xv).toNat)
  case atStart => exact ⟨x, 0, e, rfl, rfl, Nat.zero_le _, hx0, Nat.le_refl _, by show _ = _; rw [hm.out]; rfl, by omega⟩
  case round =>
    obtain ⟨y, s, v, rfl, rfl, hs, hy0, hyx, HX, hv⟩ := hrel
    by_cases hst : s < t
    · obtain ⟨y', hy'⟩ : ∃ y', y / 2 = y' := ⟨_, rfl⟩
      have h2 : y = 2 * (m * 2 ^ (t - (s + 1))) := by
        rw [HX.out, show t - s = (t - (s + 1)) + 1 by omega, M.p2s]
        ac_rfl
      have HX3 : Hid (y' = m * 2 ^ (t - (s + 1))) := by show _ = _; omega
      have q1 : (y : Int) % 2 = 0 := by omega
      have q2 : (y : Int) / 2 = (y' : Int) := by omega
      have q3 : y' < y ∧ 0 < y' := by omega
      have HV : Hid (v + 1 = e + (s + 1 : Nat)) := by show _ = _; omega
      have vb : -100000 ≤ v ∧ v ≤ 100100 := by omega
      clear h2 hy' HX hv
      go_wp2_with fail
      go_round
      case rel => exact ⟨y', s + 1, v + 1, rfl, by go_num, hst, q3.2, by omega, HX3, HV.out⟩
      case measure => simp [intOf]; omega
    · obtain rfl : y = m := by rw [HX.out, show t - s = 0 by omega]; simp
      have q1 : (y : Int) % 2 = 1 := by omega
      obtain rfl : v = z := by have := hz.out; omega
      clear HX hv hz hm
      go_wp2_with fail
      go_ret2
      exact ⟨rfl, rfl⟩
def Bk (t : Bool) (k : Int) (w : World) (e : Ending) (w' : World) : Prop := e = .returned (.tuple #[.bool t, .int .u64 k]) ∧ Up w w'
set_option maxRecDepth 100000 in
theorem rparts_any (w : World) (f : M.Fm) (hf : M.Ok f) (p : Int) (p1 : 0 ≤ p) (p2 : p ≤ M.msk f) (t : Bool) (key : Int) (ht : Hid (M.ngs f p = t)) (hk : Hid (M.kyf f p = key)) : Calls Tryz.prog 81 #[fv f, .int .u64 p] w (Bk t key w) := by
 have hm := hf.hm
 obtain ⟨so1, so2⟩ := M.sgn_ok hf
 obtain ⟨S, hS⟩ : ∃ z, M.sgn f = z := ⟨_, rfl⟩
 obtain ⟨M', hM⟩ : ∃ z, M.msk f = z := ⟨_, rfl⟩
 have HS := Lib.hid hS
 have HM := Lib.hid hM
 have OK := Lib.hid hf
 have h1 := ht.out
 have h2 := hk.out
 unfold M.kyf at h2
 rw [h1] at h2
 unfold M.ngs at h1
 rw [hS] at h1 h2 so1 so2
 rw [hM] at h2 p2 hm
 have pb : p < 18446744073709551616 := by omega
 clear ht hk hS hM hf
 by_cases h4 : f.k = 4
 ·
  obtain rfl : S = 0 := so1 h4
  obtain rfl : false = t := by rw [← h1]; simp
  rw [if_neg (by decide)] at h2
  subst h2
  clear so1 so2 h1 h4
  have U := Up.refl w
  go_enter Tryz.func81, Tryz.ntmps81
  go_wp2_with fail
  obtain ⟨V1, hV1, c, uV1⟩ := Bf.nw w f 79
  rw [hV1]
  clear hV1
  replace U := U.trans uV1
  clear uV1
  refine (rsign_any _ f OK.out 0 HS).mono ?_
  rintro _ w2 ⟨rfl, h2⟩
  replace c := c.up h2
  replace U := U.trans h2
  clear h2
  obtain ⟨c0, c1, c2, c3, c4, c5, c6⟩ := Bf.cs c
  have c7 := Bf.lt c
  simp only [Nat.zero_add] at c0 c1 c2 c3 c4 c5 c6 c7
  go_wp2_with fail
  clear c0 c1 c2 c3 c4 c5 c6 c7
  go_ret2
  exact ⟨rfl, U⟩
 ·
  obtain ⟨b1, b2⟩ := so2 h4
  rw [← b1] at hm
  clear b1
  have s0 : (S == 0) = false := by rw [beq_eq_false_iff_ne]; omega
  rcases (show p < S ∨ S ≤ p by omega) with hp | hp
  ·
   obtain rfl : false = t := by rw [← h1, decide_eq_false (show ¬ S ≤ p by omega)]; simp
   rw [if_neg (by decide)] at h2
   subst h2
   have d1 : decide (p < S) = true := decide_eq_true hp
   clear so1 so2 h1 h4
   have U := Up.refl w
   go_enter Tryz.func81, Tryz.ntmps81
   go_wp2_with fail
   obtain ⟨V1, hV1, c, uV1⟩ := Bf.nw w f 79
   rw [hV1]
   clear hV1
   replace U := U.trans uV1
   clear uV1
   refine (rsign_any _ f OK.out S HS).mono ?_
   rintro _ w2 ⟨rfl, h2⟩
   replace c := c.up h2
   replace U := U.trans h2
   clear h2
   obtain ⟨c0, c1, c2, c3, c4, c5, c6⟩ := Bf.cs c
   have c7 := Bf.lt c
   simp only [Nat.zero_add] at c0 c1 c2 c3 c4 c5 c6 c7
   go_wp2_with fail
   clear c0 c1 c2 c3 c4 c5 c6 c7
   go_ret2
   exact ⟨rfl, U⟩
  ·
   obtain rfl : true = t := by rw [← h1, decide_eq_true hp, decide_eq_false (show ¬ S = 0 by omega)]; rfl
   rw [if_pos rfl] at h2
   have d1 : decide (p < S) = false := decide_eq_false (by omega)
   by_cases h3 : f.k = 2
   ·
    rw [if_pos h3] at h2
    have d2 : (f.k == 2) = true := by simp [h3]
    have sb : S ≤ 9223372036854775808 := by omega
    subst h2
    clear so1 so2 h1 h4 h3
    have U := Up.refl w
    go_enter Tryz.func81, Tryz.ntmps81
    go_wp2_with fail
    obtain ⟨V1, hV1, c, uV1⟩ := Bf.nw w f 79
    rw [hV1]
    clear hV1
    replace U := U.trans uV1
    clear uV1
    refine (rsign_any _ f OK.out S HS).mono ?_
    rintro _ w2 ⟨rfl, h2⟩
    replace c := c.up h2
    replace U := U.trans h2
    clear h2
    obtain ⟨c0, c1, c2, c3, c4, c5, c6⟩ := Bf.cs c
    have c7 := Bf.lt c
    simp only [Nat.zero_add] at c0 c1 c2 c3 c4 c5 c6 c7
    go_wp2_with fail
    clear c0 c1 c2 c3 c4 c5 c6 c7
    go_ret2
    exact ⟨rfl, U⟩
   ·
    rw [if_neg h3] at h2
    have d2 : (f.k == 2) = false := by simpa using h3
    have mb : M' ≤ 18446744073709551615 ∧ 0 ≤ M' := by omega
    have kb : M' - p + 1 ≤ 9223372036854775808 := by omega
    clear hm
    subst h2
    clear so1 so2 h1 h4 h3
    have U := Up.refl w
    go_enter Tryz.func81, Tryz.ntmps81
    go_wp2_with fail
    obtain ⟨V1, hV1, c, uV1⟩ := Bf.nw w f 79
    rw [hV1]
    clear hV1
    replace U := U.trans uV1
    clear uV1
    refine (rsign_any _ f OK.out S HS).mono ?_
    rintro _ w2 ⟨rfl, h2⟩
    replace c := c.up h2
    replace U := U.trans h2
    clear h2
    obtain ⟨c0, c1, c2, c3, c4, c5, c6⟩ := Bf.cs c
    have c7 := Bf.lt c
    simp only [Nat.zero_add] at c0 c1 c2 c3 c4 c5 c6 c7
    go_wp2_with fail
    clear c0 c1 c2 c3 c4 c5 c6 c7
    refine (rmask_any _ f OK.out M' HM).mono ?_
    rintro _ w3 ⟨rfl, h3⟩
    replace c := c.up h3
    replace U := U.trans h3
    clear h3
    obtain ⟨c0, c1, c2, c3, c4, c5, c6⟩ := Bf.cs c
    have c7 := Bf.lt c
    simp only [Nat.zero_add] at c0 c1 c2 c3 c4 c5 c6 c7
    go_wp2_with fail
    clear c0 c1 c2 c3 c4 c5 c6 c7
    go_ret2
    exact ⟨rfl, U⟩
def M.Mg (f : M.Fm) (k m : Nat) (z : Int) : Prop :=
 (f.k = 1 ∧ ∃ n : Nat, n ≤ 64 ∧ f.W = (n : Int) + 1 ∧ M.IsK n k m z) ∨
 (f.k = 2 ∧ ∃ p : Nat, f.m = (p : Int) ∧ M.mok p f.b k ∧ M.IsM p f.b k m z) ∨
 (f.k = 3 ∧ (0 ≤ f.m ∧ f.m ≤ 64) ∧ 0 < k ∧ m % 2 = 1 ∧ ∃ t : Nat, k = m * 2 ^ t ∧ -f.m + t = z) ∨
 (f.k = 4 ∧ (-100000 ≤ f.b ∧ f.b ≤ 100000) ∧ k < 1000000 ∧ m = 1 ∧ (k : Int) - f.b = z)
set_option maxRecDepth 100000 in
theorem rmag_any (w : World) (f : M.Fm) (k m : Nat) (z : Int) (hk : k < 18446744073709551616) (h : M.Mg f k m z) : Calls Tryz.prog 83 #[fv f, u64 k] w (Mz m z w) := by
 rcases h with ⟨e, n, hn, hW, h⟩ | ⟨e, p, hp, ho, h⟩ | ⟨e, hm, h0, ho, t, ht, hz⟩ | ⟨e, hb, hk2, rfl, rfl⟩
 ·
  have d1 : (f.k == 1) = true := by rw [e]; decide
  have HV : ∀ w1, Calls Tryz.prog 110 #[.int .i64 f.W, u64 k] w1 (V3 m z true w1) := fun w1 => by rw [hW]; exact rvalue_k w1 n k m z hn h
  clear h hW e
  have U := Up.refl w
  go_enter Tryz.func83, Tryz.ntmps83
  go_wp2_with fail
  obtain ⟨V1, hV1, c, uV1⟩ := Bf.nw w f 79
  rw [hV1]
  clear hV1
  replace U := U.trans uV1
  clear uV1
  obtain ⟨c0, c1, c2, c3, c4, c5, c6⟩ := Bf.cs c
  have c7 := Bf.lt c
  simp only [Nat.zero_add] at c0 c1 c2 c3 c4 c5 c6 c7
  go_wp2_with fail
  clear c0 c1 c2 c3 c4 c5 c6 c7
  refine (HV _).mono ?_
  rintro _ w2 ⟨rfl, h2⟩
  replace c := c.up h2
  replace U := U.trans h2
  clear h2
  obtain ⟨c0, c1, c2, c3, c4, c5, c6⟩ := Bf.cs c
  have c7 := Bf.lt c
  simp only [Nat.zero_add] at c0 c1 c2 c3 c4 c5 c6 c7
  go_wp2_with fail
  clear c0 c1 c2 c3 c4 c5 c6 c7
  go_ret2
  exact ⟨rfl, U⟩
 ·
  have d1 : (f.k == 1) = false := by rw [e]; decide
  have d2 : (f.k == 2) = true := by rw [e]; decide
  have HV : ∀ w1, Calls Tryz.prog 111 #[.int .i64 f.m, .int .i64 f.b, u64 k] w1 (Mz m z w1) := fun w1 => by rw [hp]; exact rvalue6 w1 p k m f.b z hk ho h
  clear h hp e ho
  have U := Up.refl w
  go_enter Tryz.func83, Tryz.ntmps83
  go_wp2_with fail
  obtain ⟨V1, hV1, c, uV1⟩ := Bf.nw w f 79
  rw [hV1]
  clear hV1
  replace U := U.trans uV1
  clear uV1
  obtain ⟨c0, c1, c2, c3, c4, c5, c6⟩ := Bf.cs c
  have c7 := Bf.lt c
  simp only [Nat.zero_add] at c0 c1 c2 c3 c4 c5 c6 c7
  go_wp2_with fail
  clear c0 c1 c2 c3 c4 c5 c6 c7
  refine (HV _).mono ?_
  rintro _ w2 ⟨rfl, h2⟩
  replace c := c.up h2
  replace U := U.trans h2
  clear h2
  obtain ⟨c0, c1, c2, c3, c4, c5, c6⟩ := Bf.cs c
  have c7 := Bf.lt c
  simp only [Nat.zero_add] at c0 c1 c2 c3 c4 c5 c6 c7
  go_wp2_with fail
  clear c0 c1 c2 c3 c4 c5 c6 c7
  go_ret2
  exact ⟨rfl, U⟩
 ·
  have d1 : (f.k == 1) = false := by rw [e]; decide
  have d2 : (f.k == 2) = false := by rw [e]; decide
  have d3 : (f.k == 3) = true := by rw [e]; decide
  have HV : ∀ w1, Calls Tryz.prog 112 #[u64 k, .int .i64 (-f.m)] w1 (Same (.tuple #[u64 m, .int .i64 z]) w1) := fun w1 => rodd_any w1 k m t (-f.m) hk h0 (by omega) (Lib.hid ht) ho z (Lib.hid hz)
  clear e ht hz ho h0
  have U := Up.refl w
  go_enter Tryz.func83, Tryz.ntmps83
  go_wp2_with fail
  obtain ⟨V1, hV1, c, uV1⟩ := Bf.nw w f 79
  rw [hV1]
  clear hV1
  replace U := U.trans uV1
  clear uV1
  obtain ⟨c0, c1, c2, c3, c4, c5, c6⟩ := Bf.cs c
  have c7 := Bf.lt c
  simp only [Nat.zero_add] at c0 c1 c2 c3 c4 c5 c6 c7
  go_wp2_with fail
  clear c0 c1 c2 c3 c4 c5 c6 c7
  refine (HV _).mono ?_
  rintro _ _ ⟨rfl, rfl⟩
  obtain ⟨c0, c1, c2, c3, c4, c5, c6⟩ := Bf.cs c
  have c7 := Bf.lt c
  simp only [Nat.zero_add] at c0 c1 c2 c3 c4 c5 c6 c7
  go_wp2_with fail
  clear c0 c1 c2 c3 c4 c5 c6 c7
  go_ret2
  exact ⟨rfl, U⟩
 ·
  have d1 : (f.k == 1) = false := by rw [e]; decide
  have d2 : (f.k == 2) = false := by rw [e]; decide
  have d3 : (f.k == 3) = false := by rw [e]; decide
  clear e
  have U := Up.refl w
  go_enter Tryz.func83, Tryz.ntmps83
  go_wp2_with fail
  obtain ⟨V1, hV1, c, uV1⟩ := Bf.nw w f 79
  rw [hV1]
  clear hV1
  replace U := U.trans uV1
  clear uV1
  obtain ⟨c0, c1, c2, c3, c4, c5, c6⟩ := Bf.cs c
  have c7 := Bf.lt c
  simp only [Nat.zero_add] at c0 c1 c2 c3 c4 c5 c6 c7
  go_wp2_with fail
  go_quiet (fail)
  go_wp2_with fail
  clear c0 c1 c2 c3 c4 c5 c6 c7
  go_ret2
  exact ⟨rfl, U.drewN _⟩
namespace M
structure Ok2 (f : Fm) : Prop where
 one : f.k = 1 → f.t + 1 = half f ∧ f.x = half f ∧ 8 ≤ f.W ∧ f.W ≤ 64
 two : f.k = 2 → 0 ≤ f.m ∧ f.m ≤ 59 ∧ -2000 ≤ f.b ∧ f.b ≤ 2000 ∧ f.t.toNat / 2 ^ f.m.toNat ≤ 4095
 tri : f.k = 3 → f.m = 6 ∧ f.t = 127 ∧ half f = 128 ∧ f.x = 0 ∧ f.n = 0
 four : f.k = 4 → f.b = 127 ∧ f.t = 254 ∧ f.x = 255 ∧ msk f = 255 ∧ f.n = 0
 inf : f.k = 1 → f.n = 0
theorem ok2 (i : Nat) (a : 1 ≤ i) (b : i ≤ 14) : Ok2 (tb i) := by
 refine all14 (p := fun i => Ok2 (tb i)) ?_ ?_ ?_ ?_ ?_ ?_ ?_ ?_ ?_ ?_ ?_ ?_ ?_ ?_ i a b <;> exact ⟨by decide, by decide +kernel, by decide, by decide, by decide⟩
def tp (f : Fm) : Int := if f.k = 3 then f.t + 1 else f.t
def mst (f : Fm) (neg : Bool) : Int := if f.k = 3 ∧ neg = true then f.t + 1 else f.t
def cls (f : Fm) (p : Int) : Int :=
 if f.k = 2 ∧ f.t < kyf f p then (if kyf f p = f.n then 3 else 4)
 else if f.k ≠ 2 ∧ f.x ≠ 0 ∧ p = f.x then 4
 else if kyf f p = 0 ∧ f.k ≠ 4 then 1 else 2
theorem cls_key {f : Fm} (h : Ok f) (h2 : Ok2 f) {p : Int} (p1 : 0 ≤ p) (p2 : p ≤ msk f) (hc : cls f p = 1 ∨ cls f p = 2) :
  0 ≤ kyf f p ∧ kyf f p ≤ tp f ∧ (ngs f p = false → kyf f p ≤ f.t) ∧ (cls f p = 2 → kyf f p ≠ 0 ∨ f.k = 4) := by
 obtain ⟨r1, r2, r3, r4⟩ := kyf_rng h p1 p2
 have hk := h.k
 have hm := h.hm
 have o1 := h2.one
 have o3 := h2.tri
 have o4 := h2.four
 unfold cls at hc ⊢
 by_cases a : f.k = 2 ∧ f.t < kyf f p
 ·rw [if_pos a] at hc
  split at hc <;> omega
 ·rw [if_neg a] at hc ⊢
  by_cases b : f.k ≠ 2 ∧ f.x ≠ 0 ∧ p = f.x
  ·rw [if_pos b] at hc; omega
  ·rw [if_neg b]
   have g : ngs f p = false → kyf f p = p := fun e => by unfold kyf; rw [e]; rfl
   have gs := sgn_ok h
   have g2 : ngs f p = false → sgn f = 0 ∨ p < sgn f := fun e => by
    unfold ngs at e
    by_cases s0 : sgn f = 0
    ·exact .inl s0
    ·rw [decide_eq_false s0] at e
     simp at e
     exact .inr e
   have g3 : ngs f p = true → sgn f ≠ 0 ∧ sgn f ≤ p := fun e => by
    unfold ngs at e
    simp at e
    exact e
   have g4 : ngs f p = true → f.k ≠ 2 → kyf f p = msk f - p + 1 := fun e n => by unfold kyf; rw [e, if_pos rfl, if_neg n]
   refine ⟨r1, ?_, ?_, ?_⟩
   ·unfold tp
    cases hn : ngs f p with
    | false =>
     have e := g hn
     have e2 := g2 hn
     split <;> omega
    | true =>
     have e := g3 hn
     split
     ·rename_i k3
      have := g4 hn (by omega)
      omega
     ·rename_i k3
      rcases hk with k1 | k2 | k4 | k4
      ·have := g4 hn (by omega)
       have := o1 k1
       omega
      ·omega
      ·omega
      ·exact absurd (gs.1 k4) e.1
   ·intro hn
    have e := g hn
    have e2 := g2 hn
    rcases hk with k1 | k2 | k4 | k4
    ·have := o1 k1
     omega
    ·omega
    ·have := o3 k4
     omega
    ·omega
   ·intro e
    by_cases c : kyf f p = 0 ∧ f.k ≠ 4
    ·rw [if_pos c] at e; omega
    ·omega
def Bd (f : Fm) (k m : Nat) (z : Int) : Prop :=
 (f.k = 1 ∧ ∃ n : Nat, 2 ≤ n ∧ n ≤ 63 ∧ f.W = (n : Int) + 1 ∧ IsK (n + 1) (2 * k + 1) m z) ∨
 (f.k = 2 ∧ ∃ p : Nat, p ≤ 59 ∧ f.m = (p : Int) ∧ mok (p + 1) f.b (2 * k + 1) ∧ IsM (p + 1) f.b (2 * k + 1) m z) ∨
 (f.k = 3 ∧ (0 ≤ f.m ∧ f.m ≤ 64) ∧ k < 1000000 ∧ m = 2 * k + 1 ∧ -f.m - 1 = z) ∨
 (f.k = 4 ∧ (-100000 ≤ f.b ∧ f.b ≤ 100000) ∧ k < 1000000 ∧ m = 3 ∧ (k : Int) - f.b - 1 = z)
def Mg0 (f : Fm) (k m : Nat) (z : Int) : Prop := (k = 0 ∧ f.k ≠ 4 ∧ m = 0 ∧ z = 0) ∨ ((k ≠ 0 ∨ f.k = 4) ∧ Mg f k m z)
theorem half_nat {f : Fm} {n : Nat} (h : f.W = (n : Int) + 1) : half f = ((2 ^ n : Nat) : Int) := by
 unfold half
 rw [h, show ((n : Int) + 1).toNat - 1 = n by omega]
 push_cast; rfl
theorem mok_of {f : Fm} (h2 : Ok2 f) (hk : f.k = 2) {k : Nat} (ht : (k : Int) ≤ f.t) : ∃ p : Nat, p ≤ 59 ∧ f.m = (p : Int) ∧ mok p f.b k := by
 obtain ⟨a, b, c, d, e⟩ := h2.two hk
 refine ⟨f.m.toNat, by omega, by omega, by omega, c, d, Nat.le_trans (Nat.div_le_div_right (by omega)) e⟩
theorem mok_more {p k : Nat} {b : Int} (hp : p ≤ 59) (h : mok p b k) : mok (p + 1) b (2 * k + 1) := by
 obtain ⟨_, c, d, e⟩ := h
 refine ⟨by omega, c, d, ?_⟩
 rw [p2s, ← Nat.div_div_eq_div_mul, show (2 * k + 1) / 2 = k by omega]
 exact e
theorem mg_ex {f : Fm} (_h : Ok f) (h2 : Ok2 f) {k : Nat} (ht : (k : Int) ≤ tp f) (h0 : k ≠ 0 ∨ f.k = 4) : ∃ m z, Mg f k m z := by
 unfold tp at ht
 rcases _h.k with e | e | e | e
 ·rw [if_neg (by omega)] at ht
  obtain ⟨a, b, c, d⟩ := h2.one e
  obtain ⟨n, hn⟩ : ∃ n : Nat, f.W = (n : Int) + 1 := ⟨(f.W - 1).toNat, by omega⟩
  have hh := half_nat hn
  obtain ⟨m, z, hm⟩ := isk_ex (n := n) (k := k) (by omega) (by omega) (by omega)
  exact ⟨m, z, .inl ⟨e, n, by omega, hn, hm⟩⟩
 ·rw [if_neg (by omega)] at ht
  obtain ⟨p, hp, hm, ho⟩ := mok_of h2 e ht
  obtain ⟨m, z, hz⟩ := ism_ex p f.b k
  exact ⟨m, z, .inr (.inl ⟨e, p, hm, ho, hz⟩)⟩
 ·rw [if_pos e] at ht
  obtain ⟨a, b, c, d⟩ := h2.tri e
  obtain ⟨m, t, h1, h2⟩ := odd_ex k (by omega)
  exact ⟨m, -f.m + t, .inr (.inr (.inl ⟨e, by omega, by omega, h2, t, h1, rfl⟩))⟩
 ·rw [if_neg (by omega)] at ht
  obtain ⟨a, b, c, d⟩ := h2.four e
  exact ⟨1, k - f.b, .inr (.inr (.inr ⟨e, by omega, by omega, rfl, rfl⟩))⟩
theorem mg0_ex {f : Fm} (h : Ok f) (h2 : Ok2 f) {k : Nat} (ht : (k : Int) ≤ tp f) : ∃ m z, Mg0 f k m z := by
 by_cases c : k = 0 ∧ f.k ≠ 4
 ·exact ⟨0, 0, .inl ⟨c.1, c.2, rfl, rfl⟩⟩
 ·obtain ⟨m, z, hm⟩ := mg_ex h h2 ht (by omega)
  exact ⟨m, z, .inr ⟨by omega, hm⟩⟩
theorem bd_ex {f : Fm} (_h : Ok f) (h2 : Ok2 f) {k : Nat} (ht : (k : Int) ≤ tp f) : ∃ m z, Bd f k m z := by
 unfold tp at ht
 rcases _h.k with e | e | e | e
 ·rw [if_neg (by omega)] at ht
  obtain ⟨a, b, c, d⟩ := h2.one e
  obtain ⟨n, hn⟩ : ∃ n : Nat, f.W = (n : Int) + 1 := ⟨(f.W - 1).toNat, by omega⟩
  have hh := half_nat hn
  obtain ⟨m, z, hm⟩ := isk_ex (n := n + 1) (k := 2 * k + 1) (by omega) (by omega) (by rw [p2s]; omega)
  exact ⟨m, z, .inl ⟨e, n, by omega, by omega, hn, hm⟩⟩
 ·rw [if_neg (by omega)] at ht
  obtain ⟨p, hp, hm, ho⟩ := mok_of h2 e ht
  obtain ⟨m, z, hz⟩ := ism_ex (p + 1) f.b (2 * k + 1)
  exact ⟨m, z, .inr (.inl ⟨e, p, hp, hm, mok_more hp ho, hz⟩)⟩
 ·rw [if_pos e] at ht
  obtain ⟨a, b, c, d⟩ := h2.tri e
  exact ⟨2 * k + 1, -f.m - 1, .inr (.inr (.inl ⟨e, by omega, by omega, rfl, rfl⟩))⟩
 ·rw [if_neg (by omega)] at ht
  obtain ⟨a, b, c, d⟩ := h2.four e
  exact ⟨3, k - f.b - 1, .inr (.inr (.inr ⟨e, by omega, by omega, rfl, rfl⟩))⟩
def Dv (f : Fm) (p c : Int) (g : Bool) (m : Nat) (z : Int) : Prop :=
 (cls f p = 4 ∧ c = 4 ∧ g = false ∧ m = 0 ∧ z = 0) ∨ (cls f p = 3 ∧ c = 3 ∧ g = ngs f p ∧ m = 0 ∧ z = 0) ∨
 (cls f p = 1 ∧ c = 1 ∧ g = (ngs f p && decide (f.k = 2)) ∧ m = 0 ∧ z = 0) ∨ (cls f p = 2 ∧ c = 2 ∧ g = ngs f p ∧ ∃ k : Nat, kyf f p = k ∧ Mg f k m z)
def Dc (ii : Int) (p : Nat) (c : Int) (g : Bool) (m : Nat) (z x : Int) : Prop :=
 ((ii < 1 ∨ 15 ≤ ii) ∧ c = 0 ∧ g = false ∧ m = 0 ∧ z = 0 ∧ x = 3) ∨
 ∃ i : Nat, ii = i ∧ 1 ≤ i ∧ i ≤ 14 ∧ ((msk (tb i) < p ∧ c = 0 ∧ g = false ∧ m = 0 ∧ z = 0 ∧ x = 1) ∨ ((p : Int) ≤ msk (tb i) ∧ Dv (tb i) p c g m z ∧ x = 0))
def Kv (f : Fm) (p : Int) (g : Bool) (k : Nat) (x : Int) : Prop :=
 ((cls f p = 3 ∨ cls f p = 4) ∧ g = false ∧ k = 0 ∧ x = 5) ∨ (cls f p = 1 ∧ g = (ngs f p && decide (f.k = 2)) ∧ kyf f p = k ∧ x = 0) ∨ (cls f p = 2 ∧ g = ngs f p ∧ kyf f p = k ∧ x = 0)
def Mc (ii : Int) (neg : Bool) (q x : Int) : Prop :=
 ((ii < 1 ∨ 15 ≤ ii) ∧ q = 0 ∧ x = 3) ∨
 ∃ i : Nat, ii = i ∧ 1 ≤ i ∧ i ≤ 14 ∧ (((tb i).k = 4 ∧ neg = true ∧ q = 0 ∧ x = 5) ∨ (¬ ((tb i).k = 4 ∧ neg = true) ∧ q = mst (tb i) neg ∧ x = 0))
def pat (f : Fm) (neg : Bool) (k : Nat) : Int := if neg = false then k else if f.k = 2 then k + half f else if k = 0 then 0 else msk f - k + 1
def Pc (ii : Int) (neg : Bool) (k : Nat) (q x : Int) : Prop :=
 ((ii < 1 ∨ 15 ≤ ii) ∧ q = 0 ∧ x = 3) ∨
 ∃ i : Nat, ii = i ∧ 1 ≤ i ∧ i ≤ 14 ∧ (((tb i).k = 4 ∧ neg = true ∧ q = 0 ∧ x = 5) ∨ (¬ ((tb i).k = 4 ∧ neg = true) ∧ ((mst (tb i) neg < k ∧ q = 0 ∧ x = 4) ∨ ((k : Int) ≤ mst (tb i) neg ∧ q = pat (tb i) neg k ∧ x = 0))))
def Bc (ii : Int) (k m : Nat) (z x : Int) : Prop :=
 ((ii < 1 ∨ 15 ≤ ii) ∧ m = 0 ∧ z = 0 ∧ x = 3) ∨
 ∃ i : Nat, ii = i ∧ 1 ≤ i ∧ i ≤ 14 ∧ ((tp (tb i) < k ∧ m = 0 ∧ z = 0 ∧ x = 4) ∨ ((k : Int) ≤ tp (tb i) ∧ Bd (tb i) k m z ∧ x = 0))
theorem in_or_out (ii : Int) : (ii < 1 ∨ 15 ≤ ii) ∨ ∃ i : Nat, ii = i ∧ 1 ≤ i ∧ i ≤ 14 := by
 rcases (show (ii < 1 ∨ 15 ≤ ii) ∨ (1 ≤ ii ∧ ii ≤ 14) by omega) with h | h
 ·exact .inl h
 ·exact .inr ⟨ii.toNat, by omega, by omega, by omega⟩
theorem cls_four (f : Fm) (p : Int) : cls f p = 1 ∨ cls f p = 2 ∨ cls f p = 3 ∨ cls f p = 4 := by
 unfold cls
 split
 ·split <;> simp
 ·split
  ·simp
  ·split <;> simp
theorem dv_ex {f : Fm} (h : Ok f) (h2 : Ok2 f) {p : Int} (p1 : 0 ≤ p) (p2 : p ≤ msk f) : ∃ c g m z, Dv f p c g m z := by
 rcases cls_four f p with e | e | e | e
 ·exact ⟨1, _, 0, 0, .inr (.inr (.inl ⟨e, rfl, rfl, rfl, rfl⟩))⟩
 ·obtain ⟨a, b, _, d⟩ := cls_key h h2 p1 p2 (.inr e)
  obtain ⟨k, hk⟩ : ∃ k : Nat, kyf f p = k := ⟨(kyf f p).toNat, by omega⟩
  obtain ⟨m, z, hm⟩ := mg_ex h h2 (k := k) (by omega) (by have := d e; omega)
  exact ⟨2, _, m, z, .inr (.inr (.inr ⟨e, rfl, rfl, k, hk, hm⟩))⟩
 ·exact ⟨3, _, 0, 0, .inr (.inl ⟨e, rfl, rfl, rfl, rfl⟩)⟩
 ·exact ⟨4, _, 0, 0, .inl ⟨e, rfl, rfl, rfl, rfl⟩⟩
theorem dc_ex (ii : Int) (p : Nat) : ∃ c g m z x, Dc ii p c g m z x := by
 rcases in_or_out ii with h | ⟨i, h, a, b⟩
 ·exact ⟨_, _, _, _, _, .inl ⟨h, rfl, rfl, rfl, rfl, rfl⟩⟩
 ·by_cases c : msk (tb i) < p
  ·exact ⟨_, _, _, _, _, .inr ⟨i, h, a, b, .inl ⟨c, rfl, rfl, rfl, rfl, rfl⟩⟩⟩
  ·obtain ⟨_, _, _, _, hd⟩ := dv_ex (ok i a b) (ok2 i a b) (p := p) (by omega) (by omega)
   exact ⟨_, _, _, _, _, .inr ⟨i, h, a, b, .inr ⟨by omega, hd, rfl⟩⟩⟩
theorem bit_top {n p : Nat} (hp : p < 2 ^ (n + 1)) : p.testBit n = decide (2 ^ n ≤ p) := by
 have h := p2 n
 rw [Nat.testBit_eq_decide_div_mod_eq]
 rw [p2s] at hp
 by_cases c : 2 ^ n ≤ p
 ·have : p / 2 ^ n = 1 := Nat.div_eq_of_lt_le (by omega) (by omega)
  simp [this, c]
 ·have : p / 2 ^ n = 0 := Nat.div_eq_of_lt (by omega)
  simp [this, c]
theorem and_top {n p : Nat} (hp : p < 2 ^ (n + 1)) : p &&& 2 ^ n = if 2 ^ n ≤ p then 2 ^ n else 0 := by
 apply Nat.eq_of_testBit_eq
 intro j
 rw [Nat.testBit_and, Nat.testBit_two_pow]
 by_cases h : n = j
 ·subst h
  rw [bit_top hp]
  by_cases c : 2 ^ n ≤ p <;> simp [c, Nat.testBit_two_pow_self]
 ·by_cases c : 2 ^ n ≤ p <;> simp [c, h]
theorem or_top {n p : Nat} (hp : p < 2 ^ n) : 2 ^ n ||| p = 2 ^ n + p := by
 have := Nat.two_pow_add_eq_or_of_lt hp 1
 rw [Nat.mul_one] at this
 exact this.symm
theorem neg_low {n p : Nat} (hn : n ≤ 64) (h0 : 0 < p) (hp : p ≤ 2 ^ n) : (18446744073709551616 - p) % 2 ^ n = (2 ^ n - p) := by
 have e : 2 ^ (64 - n) * 2 ^ n = 18446744073709551616 := by rw [← Nat.pow_add, show 64 - n + n = 64 by omega]
 have h := p2 (64 - n)
 obtain ⟨q, hq⟩ : ∃ q, 2 ^ (64 - n) = q + 1 := ⟨2 ^ (64 - n) - 1, by omega⟩
 rw [hq, Nat.add_mul, Nat.one_mul] at e
 rw [← e, show q * 2 ^ n + 2 ^ n - p = (2 ^ n - p) + 2 ^ n * q by rw [Nat.mul_comm]; omega, Nat.add_mul_mod_self_left, Nat.mod_eq_of_lt (by omega)]
theorem ok_pow {f : Fm} (h : Ok f) : ∃ n : Nat, n ≤ 63 ∧ f.W = (n : Int) + 1 ∧ half f = ((2 ^ n : Nat) : Int) ∧ msk f = ((2 ^ (n + 1) : Nat) : Int) - 1 := by
 obtain ⟨n, hn, h63⟩ : ∃ n : Nat, f.W = (n : Int) + 1 ∧ n ≤ 63 := by
  rcases h.W with e | e | e | e | e | e
  ·exact ⟨3, by omega, by omega⟩
  ·exact ⟨5, by omega, by omega⟩
  ·exact ⟨7, by omega, by omega⟩
  ·exact ⟨15, by omega, by omega⟩
  ·exact ⟨31, by omega, by omega⟩
  ·exact ⟨63, by omega, by omega⟩
 have hh := half_nat hn
 refine ⟨n, h63, hn, hh, ?_⟩
 have := h.hm.2.1
 rw [this, hh, p2s]
 push_cast
 rfl
theorem pow_le64 {n : Nat} (h : n ≤ 63) : 2 ^ n ≤ 9223372036854775808 ∧ 2 ^ (n + 1) ≤ 18446744073709551616 := by
 have h1 := p2le h
 have h2 : (2 : Nat) ^ 63 = 9223372036854775808 := by decide
 have h3 := p2s n
 omega
theorem and_half {f : Fm} (h : Ok f) {p : Int} (p1 : 0 ≤ p) (p2' : p ≤ msk f) : (Go.bits BinOp.and IntKind.u64 p (half f) != 0) = decide (half f ≤ p) := by
 obtain ⟨n, hn, _, hh, hm⟩ := ok_pow h
 obtain ⟨q, rfl⟩ := Int.eq_ofNat_of_zero_le p1
 obtain ⟨a, b⟩ := pow_le64 hn
 have pp := p2 n
 rw [hh, bits_and_u64_nat q (2 ^ n) (by omega) (by omega), and_top (by omega)]
 by_cases c : 2 ^ n ≤ q
 ·rw [if_pos c, decide_eq_true (by omega)]
  rw [bne_iff_ne]
  omega
 ·rw [if_neg c, decide_eq_false (by omega)]
  rfl
theorem andNot_half {f : Fm} (h : Ok f) {p : Int} (p1 : 0 ≤ p) (p2' : p ≤ msk f) : Go.bits BinOp.andNot IntKind.u64 p (half f) = if half f ≤ p then p - half f else p := by
 obtain ⟨n, hn, _, hh, hm⟩ := ok_pow h
 obtain ⟨q, rfl⟩ := Int.eq_ofNat_of_zero_le p1
 obtain ⟨a, b⟩ := pow_le64 hn
 have pp := p2 n
 have ps := p2s n
 rw [hh, u64_andNot_nat q (2 ^ n) (by omega) (by omega), and_not_bit n q (by omega) (by omega)]
 by_cases c : 2 ^ n ≤ q
 ·rw [if_pos (by omega), show q = (q - 2 ^ n) + 2 ^ n by omega, Nat.add_mod_right, Nat.mod_eq_of_lt (by omega)]
  omega
 ·rw [if_neg (by omega), Nat.mod_eq_of_lt (by omega)]
theorem or_half {f : Fm} (h : Ok f) {p : Int} (p1 : 0 ≤ p) (p2' : p < half f) : Go.bits BinOp.or IntKind.u64 (half f) p = half f + p := by
 obtain ⟨n, hn, _, hh, hm⟩ := ok_pow h
 obtain ⟨q, rfl⟩ := Int.eq_ofNat_of_zero_le p1
 obtain ⟨a, b⟩ := pow_le64 hn
 rw [hh] at p2' ⊢
 rw [bits_or_u64_nat (2 ^ n) q (by omega) (by omega), or_top (by omega)]
 push_cast
 rfl
def trn (f : Fm) (p : Int) : Int := if p = 0 then 0 else msk f + 1 - p
theorem and_neg_mask {f : Fm} (h : Ok f) {p : Int} (p1 : 0 ≤ p) (p2' : p ≤ msk f) : Go.bits BinOp.and IntKind.u64 (IntKind.u64.wrap (-p)) (msk f) = trn f p := by
 obtain ⟨n, hn, _, hh, hm⟩ := ok_pow h
 obtain ⟨q, rfl⟩ := Int.eq_ofNat_of_zero_le p1
 obtain ⟨a, b⟩ := pow_le64 hn
 have pp := p2 (n + 1)
 unfold trn
 rw [hm] at p2' ⊢
 have e : (((2 ^ (n + 1) : Nat) : Int) - 1) = ((2 ^ (n + 1) - 1 : Nat) : Int) := by omega
 by_cases c : q = 0
 ·subst c
  rw [if_pos (by simp), show IntKind.u64.wrap (-((0 : Nat) : Int)) = ((0 : Nat) : Int) by rw [IntKind.wrap_u64]; decide, e, bits_and_u64_nat 0 _ (by decide) (by omega)]
  simp
 ·rw [if_neg (by omega), show IntKind.u64.wrap (-(q : Int)) = ((18446744073709551616 - q : Nat) : Int) by rw [IntKind.wrap_u64]; omega, e, bits_and_u64_nat _ _ (by omega) (by omega), Nat.and_two_pow_sub_one_eq_mod, neg_low (by omega) (by omega) (by omega)]
  omega
def Rd (f : Fm) (p c : Int) (g : Bool) (k : Int) : Prop :=
 (cls f p = 1 ∧ c = 1 ∧ g = (ngs f p && decide (f.k = 2)) ∧ k = 0) ∨ (cls f p = 2 ∧ c = 2 ∧ g = ngs f p ∧ k = kyf f p) ∨ (cls f p = 3 ∧ c = 3 ∧ g = ngs f p ∧ k = 0) ∨ (cls f p = 4 ∧ c = 4 ∧ g = false ∧ k = 0)
theorem rd_uniq {f : Fm} {p c c' k k' : Int} {g g' : Bool} (h : Rd f p c g k) (h' : Rd f p c' g' k') : c = c' ∧ g = g' ∧ k = k' := by
 rcases h with ⟨a, rfl, rfl, rfl⟩ | ⟨a, rfl, rfl, rfl⟩ | ⟨a, rfl, rfl, rfl⟩ | ⟨a, rfl, rfl, rfl⟩ <;>
 rcases h' with ⟨b, rfl, rfl, rfl⟩ | ⟨b, rfl, rfl, rfl⟩ | ⟨b, rfl, rfl, rfl⟩ | ⟨b, rfl, rfl, rfl⟩ <;> first | exact ⟨rfl, rfl, rfl⟩ | (exfalso; omega)
theorem rd_turned {f : Fm} (h : Ok f) (h2 : Ok2 f) (hk : f.k = 1 ∨ f.k = 3) {p : Int} (p1 : 0 ≤ p) (p2' : p ≤ msk f) :
  (p = 0 ∧ Rd f p 1 false 0) ∨ (p ≠ 0 ∧ p = f.x ∧ Rd f p 4 false 0) ∨ (p ≠ 0 ∧ p ≠ f.x ∧ half f ≤ p ∧ Rd f p 2 true (trn f p)) ∨ (p ≠ 0 ∧ p ≠ f.x ∧ p < half f ∧ Rd f p 2 false p) := by
 have hm := h.hm
 have o1 := h2.one
 have o3 := h2.tri
 have hs : sgn f = half f := ((sgn_ok h).2 (by omega)).1
 have hn : ngs f p = decide (half f ≤ p) := by
  unfold ngs
  rw [hs, decide_eq_false (show ¬ half f = 0 by omega)]
  rfl
 have hkk : kyf f p = if half f ≤ p then msk f - p + 1 else p := by
  unfold kyf
  rw [hn, if_neg (show ¬ f.k = 2 by omega)]
  by_cases c : half f ≤ p <;> simp [c]
 have hc : cls f p = if f.x ≠ 0 ∧ p = f.x then 4 else if kyf f p = 0 ∧ f.k ≠ 4 then 1 else 2 := by
  unfold cls
  rw [if_neg (show ¬ (f.k = 2 ∧ f.t < kyf f p) by omega)]
  congr 1
  exact propext ⟨fun e => e.2, fun e => ⟨by omega, e⟩⟩
 by_cases c0 : p = 0
 ·refine .inl ⟨c0, .inl ⟨?_, rfl, ?_, rfl⟩⟩
  ·have h0 : kyf f p = 0 := by rw [hkk, if_neg (by omega)]; exact c0
   rw [hc, if_neg (by omega), if_pos ⟨h0, by omega⟩]
  ·rw [hn, decide_eq_false (by omega)]; rfl
 ·by_cases cx : p = f.x
  ·refine .inr (.inl ⟨c0, cx, .inr (.inr (.inr ⟨?_, rfl, rfl, rfl⟩))⟩)
   rw [hc, if_pos (by omega)]
  ·by_cases ch : half f ≤ p
   ·refine .inr (.inr (.inl ⟨c0, cx, ch, .inr (.inl ⟨?_, rfl, ?_, ?_⟩)⟩))
    ·rw [hc, if_neg (by omega), hkk, if_pos ch, if_neg (by omega)]
    ·rw [hn, decide_eq_true ch]
    ·rw [hkk, if_pos ch, trn, if_neg c0]; omega
   ·refine .inr (.inr (.inr ⟨c0, cx, by omega, .inr (.inl ⟨?_, rfl, ?_, ?_⟩)⟩))
    ·rw [hc, if_neg (by omega), hkk, if_neg ch, if_neg (by omega)]
    ·rw [hn, decide_eq_false ch]
    ·rw [hkk, if_neg ch]
theorem rd_signed {f : Fm} (h : Ok f) (hk : f.k = 2) {p m : Int} {g : Bool} (p1 : 0 ≤ p) (hg : decide (half f ≤ p) = g) (hq : (if half f ≤ p then p - half f else p) = m) :
  0 ≤ m ∧ ((m = 0 ∧ Rd f p 1 g 0) ∨ (m ≠ 0 ∧ m ≤ f.t ∧ Rd f p 2 g m) ∨ (m ≠ 0 ∧ f.t < m ∧ m = f.n ∧ Rd f p 3 g 0) ∨ (m ≠ 0 ∧ f.t < m ∧ m ≠ f.n ∧ Rd f p 4 false 0)) := by
 have hm := h.hm
 have ht := h.t
 have hs : sgn f = half f := ((sgn_ok h).2 (by omega)).1
 have hn : ngs f p = g := by
  unfold ngs
  rw [hs, decide_eq_false (show ¬ half f = 0 by omega), ← hg]
  rfl
 have hkk : kyf f p = m := by
  unfold kyf
  rw [hn, ← hg, if_pos hk, hs, ← hq]
  by_cases c : half f ≤ p <;> simp [c]
 have m0 : 0 ≤ m := by
  rw [← hq]
  split <;> omega
 refine ⟨m0, ?_⟩
 have hc : cls f p = if f.t < m then (if m = f.n then 3 else 4) else if m = 0 then 1 else 2 := by
  unfold cls
  rw [hkk]
  by_cases c : f.t < m
  ·rw [if_pos ⟨hk, c⟩, if_pos c]
  ·rw [if_neg (by omega), if_neg c, if_neg (by omega)]
   by_cases c0 : m = 0
   ·rw [if_pos ⟨c0, by omega⟩, if_pos c0]
   ·rw [if_neg (by omega), if_neg c0]
 by_cases c0 : m = 0
 ·exact .inl ⟨c0, .inl ⟨by rw [hc, if_neg (by omega), if_pos c0], rfl, by rw [hn, decide_eq_true hk, Bool.and_true], rfl⟩⟩
 ·by_cases ct : m ≤ f.t
  ·exact .inr (.inl ⟨c0, ct, .inr (.inl ⟨by rw [hc, if_neg (by omega), if_neg c0], rfl, hn.symm, hkk.symm⟩)⟩)
  ·by_cases cn : m = f.n
   ·exact .inr (.inr (.inl ⟨c0, by omega, cn, .inr (.inr (.inl ⟨by rw [hc, if_pos (by omega), if_pos cn], rfl, hn.symm, rfl⟩))⟩))
   ·exact .inr (.inr (.inr ⟨c0, by omega, cn, .inr (.inr (.inr ⟨by rw [hc, if_pos (by omega), if_neg cn], rfl, rfl, rfl⟩))⟩))
theorem rd_scale {f : Fm} (h : Ok f) (h2 : Ok2 f) (hk : f.k = 4) {p : Int} : (p = f.x ∧ Rd f p 4 false 0) ∨ (p ≠ f.x ∧ Rd f p 2 false p) := by
 have o4 := h2.four hk
 have hs : sgn f = 0 := (sgn_ok h).1 hk
 have hn : ngs f p = false := by
  unfold ngs
  rw [hs]
  rfl
 have hkk : kyf f p = p := by
  unfold kyf
  rw [hn, if_neg (by decide)]
 by_cases c : p = f.x
 ·refine .inl ⟨c, .inr (.inr (.inr ⟨?_, rfl, rfl, rfl⟩))⟩
  unfold cls
  rw [if_neg (by omega), if_pos (by omega)]
 ·refine .inr ⟨c, .inr (.inl ⟨?_, rfl, hn.symm, hkk.symm⟩)⟩
  unfold cls
  rw [if_neg (by omega), if_neg (by omega), if_neg (by omega)]
end M
def Vd (c : Int) (g : Bool) (m : Nat) (z x : Int) (w : World) (e : Ending) (w' : World) : Prop := e = .returned (.tuple #[.agg #[.int .i64 c, .bool g, u64 m, .int .i64 z], .int .i64 x]) ∧ Up w w'
def Mzx (m : Nat) (z x : Int) (w : World) (e : Ending) (w' : World) : Prop := e = .returned (.tuple #[u64 m, .int .i64 z, .int .i64 x]) ∧ Up w w'
namespace M
theorem ngs_is {f : Fm} (h : Ok f) (hk : f.k ≠ 4) (p : Int) : ngs f p = decide (half f ≤ p) := by
 have hm := h.hm
 unfold ngs
 rw [((sgn_ok h).2 hk).1, decide_eq_false (show ¬ half f = 0 by omega)]
 rfl
theorem ngs_four {f : Fm} (h : Ok f) (hk : f.k = 4) (p : Int) : ngs f p = false := by
 unfold ngs
 rw [(sgn_ok h).1 hk]
 rfl
theorem kyf_pos {f : Fm} {p : Int} (h : ngs f p = false) : kyf f p = p := by
 unfold kyf
 rw [h, if_neg (by decide)]
theorem kyf_two {f : Fm} (h : Ok f) (hk : f.k = 2) {p : Int} (hn : ngs f p = true) : kyf f p = p - half f := by
 unfold kyf
 rw [hn, if_pos rfl, if_pos hk, ((sgn_ok h).2 (by omega)).1]
theorem kyf_trn {f : Fm} (hk : f.k ≠ 2) {p : Int} (hn : ngs f p = true) : kyf f p = msk f - p + 1 := by
 unfold kyf
 rw [hn, if_pos rfl, if_neg hk]
theorem mg_nz {f : Fm} {k m : Nat} {z : Int} (h : Mg f k m z) (h0 : k ≠ 0 ∨ f.k = 4) : m ≠ 0 := by
 rcases h with ⟨_, n, _, _, h⟩ | ⟨e, p, _, _, h⟩ | ⟨_, _, _, ho, _⟩ | ⟨_, _, _, rfl, _⟩
 ·have := h.1; omega
 ·intro h1
  have := h.zero.1.1 h1
  omega
 ·omega
 ·decide
theorem kv_back {f : Fm} (ok : Ok f) (ok2 : Ok2 f) {p : Nat} {g : Bool} {k : Nat} (p2' : (p : Int) ≤ msk f) (h : Kv f p g k 0) :
  ¬ (f.k = 4 ∧ g = true) ∧ (k : Int) ≤ mst f g ∧ pat f g k = p ∧ (k : Int) ≤ tp f ∧ ∃ c m z, Dv f p c g m z ∧ Mg0 f k m z ∧ ((c = 1 ∧ m = 0) ∨ (c = 2 ∧ m ≠ 0)) := by
 have hm := ok.hm
 have ht := ok.t
 have hc : cls f p = 1 ∨ cls f p = 2 := by
  rcases h with ⟨_, _, _, h⟩ | ⟨h, _⟩ | ⟨h, _⟩
  ·omega
  ·exact .inl h
  ·exact .inr h
 obtain ⟨r1, r2, r3, r4⟩ := cls_key ok ok2 (p := p) (by omega) p2' hc
 rcases h with ⟨_, _, _, h⟩ | ⟨h1, rfl, hk, _⟩ | ⟨h1, rfl, hk, _⟩
 ·omega
 ·-- a nought
  have h4 : f.k ≠ 4 := by
   intro h4
   have h2 := h1
   unfold cls at h2
   rw [if_neg (by omega)] at h2
   split at h2
   ·omega
   ·rw [if_neg (by omega)] at h2
    omega
  have k0 : kyf f p = 0 := by
   have h2 := h1
   unfold cls at h2
   split at h2
   ·split at h2 <;> omega
   ·split at h2
    ·omega
    ·split at h2
     ·rename_i h3; exact h3.1
     ·omega
  have hn := ngs_is ok h4 p
  obtain rfl : k = 0 := by omega
  refine ⟨fun e => h4 e.1, ?_, ?_, by unfold tp; split <;> omega, 1, 0, 0, .inr (.inr (.inl ⟨h1, rfl, rfl, rfl, rfl⟩)), .inl ⟨rfl, h4, rfl, rfl⟩, .inl ⟨rfl, rfl⟩⟩
  ·unfold mst; split <;> omega
  ·unfold pat
   by_cases h2 : f.k = 2
   ·rw [decide_eq_true h2, Bool.and_true]
    cases hg : ngs f p with
    | false =>
     have := kyf_pos hg
     rw [if_pos rfl]; omega
    | true =>
     have := kyf_two ok h2 hg
     rw [if_neg (by decide), if_pos h2]; omega
   ·rw [decide_eq_false h2, Bool.and_false, if_pos rfl]
    cases hg : ngs f p with
    | false =>
     have := kyf_pos hg
     omega
    | true =>
     have := kyf_trn h2 hg
     omega
 ·obtain ⟨m, z, hmz⟩ := mg_ex ok ok2 (k := k) (by omega) (by have := r4 h1; omega)
  have k0 : k ≠ 0 ∨ f.k = 4 := by have := r4 h1; omega
  refine ⟨?_, ?_, ?_, by omega, 2, m, z, .inr (.inr (.inr ⟨h1, rfl, rfl, k, hk, hmz⟩)), .inr ⟨k0, hmz⟩, .inr ⟨rfl, mg_nz hmz k0⟩⟩
  ·rintro ⟨h4, hg⟩
   rw [ngs_four ok h4] at hg
   cases hg
  ·unfold mst
   unfold tp at r2
   cases hg : ngs f p with
   | false =>
    have := r3 hg
    split <;> omega
   | true =>
    by_cases h3 : f.k = 3
    ·rw [if_pos ⟨h3, rfl⟩]
     rw [if_pos h3] at r2
     omega
    ·rw [if_neg (fun e => h3 e.1)]
     rw [if_neg h3] at r2
     omega
  ·unfold pat
   cases hg : ngs f p with
   | false =>
    have := kyf_pos hg
    rw [if_pos rfl]; omega
   | true =>
    have h4 : f.k ≠ 4 := by
     intro h4
     rw [ngs_four ok h4] at hg
     cases hg
    rw [if_neg (by decide)]
    by_cases h2 : f.k = 2
    ·have := kyf_two ok h2 hg
     rw [if_pos h2]; omega
    ·have := kyf_trn h2 hg
     rw [if_neg h2, if_neg (by omega)]; omega
theorem cls_two_ {f : Fm} (hk : f.k = 2) {p : Int} : cls f p = if f.t < kyf f p then (if kyf f p = f.n then 3 else 4) else if kyf f p = 0 then 1 else 2 := by
 unfold cls
 by_cases c : f.t < kyf f p
 ·rw [if_pos ⟨hk, c⟩, if_pos c]
 ·rw [if_neg (fun e => c e.2), if_neg c, if_neg (fun e => e.1 hk)]
  by_cases c0 : kyf f p = 0
  ·rw [if_pos ⟨c0, by omega⟩, if_pos c0]
  ·rw [if_neg (fun e => c0 e.1), if_neg c0]
theorem cls_trn_ {f : Fm} (hk : f.k = 1 ∨ f.k = 3) {p : Int} : cls f p = if f.x ≠ 0 ∧ p = f.x then 4 else if kyf f p = 0 then 1 else 2 := by
 unfold cls
 rw [if_neg (fun e => by omega)]
 by_cases c : f.x ≠ 0 ∧ p = f.x
 ·rw [if_pos ⟨by omega, c⟩, if_pos c]
 ·rw [if_neg (fun e => c e.2), if_neg c]
  by_cases c0 : kyf f p = 0
  ·rw [if_pos ⟨c0, by omega⟩, if_pos c0]
  ·rw [if_neg (fun e => c0 e.1), if_neg c0]
def Gt (a : Nat) (d : Int) (b : Nat) (e : Int) : Prop := ∃ D : Int, 0 ≤ d + D ∧ 0 ≤ e + D ∧ b * 2 ^ (e + D).toNat < a * 2 ^ (d + D).toNat
theorem isk7_longer {n k m : Nat} {z : Int} (hn : n ≤ 63) (h : IsK n k m z) : IsK (n + 1) (2 * k) m z := by
 have g := h.rng (by omega)
 obtain ⟨R, r, q, h1, e⟩ := h.vx (by omega)
 have rg := h1.rng
 obtain ⟨r', q', h2, e2⟩ := h1.longer hn
 obtain ⟨m', z', hk'⟩ := isk_ex (n := n + 1) (k := 2 * k) (by omega) (by omega) (by rw [p2s]; omega)
 have g' := hk'.rng (by omega)
 obtain ⟨R2, r2, q2, h3, e3⟩ := hk'.vx (by omega)
 obtain ⟨rfl, rfl, rfl⟩ := ps_uniq h2 h3
 have e4 : vz m' z' = vz m z := by rw [← e3, ← e]; unfold vx; rw [e2]
 obtain ⟨a, b⟩ := odd_uniq hk'.1 h.1 e4
 obtain rfl : z' = z := by omega
 rwa [a] at hk'
theorem isk_gt {n k k' m m' : Nat} {z z' : Int} (hn : n ≤ 64) (h : IsK n k m z) (h' : IsK n k' m' z') (hk : k < k') : Gt m' z' m z := by
 have r := h.rng hn
 have r' := h'.rng hn
 exact ⟨1000, by omega, by omega, isk_lt hn h h' hk⟩
theorem ism_mv {p k m : Nat} {b z : Int} (h : IsM p b k m z) (h0 : m ≠ 0) : 0 ≤ z + (b + p - 1) ∧ m * 2 ^ (z + (b + p - 1)).toNat = mv p k := by
 rcases h with ⟨_, h2, _⟩ | ⟨h1, t, h2, h3⟩
 ·exact absurd h2 h0
 ·rw [mS_eq] at h3
  unfold mv
  obtain ⟨g, hg⟩ : ∃ g, max (k / 2 ^ p) 1 - 1 = g := ⟨_, rfl⟩
  rw [hg] at h3 ⊢
  refine ⟨by omega, ?_⟩
  rw [h2, Nat.mul_assoc, ← Nat.pow_add]
  congr 2
  omega
theorem ism_gt {p k k' m m' : Nat} {b z z' : Int} (h : IsM p b k m z) (h0 : m ≠ 0) (h' : IsM p b k' m' z') (h0' : m' ≠ 0) (hk : k < k') : Gt m' z' m z := by
 obtain ⟨a1, a2⟩ := ism_mv h h0
 obtain ⟨b1, b2⟩ := ism_mv h' h0'
 exact ⟨_, b1, a1, by rw [a2, b2]; exact mv_lt hk⟩
theorem bd_nz {f : Fm} {k n : Nat} {y : Int} (h : Bd f k n y) : n ≠ 0 := by
 rcases h with ⟨_, _, _, _, _, h⟩ | ⟨_, p, _, _, _, h⟩ | ⟨_, _, _, rfl, _⟩ | ⟨_, _, _, rfl, _⟩
 ·have := h.1; omega
 ·intro e
  have := h.zero.1.1 e
  omega
 ·omega
 ·omega
theorem gt_mid {f : Fm} {k m n : Nat} {z y : Int} (h : Mg0 f k m z) (h' : Bd f k n y) : m = 0 ∨ (m ≠ 0 ∧ Gt n y m z) := by
 rcases h with ⟨_, _, h, _⟩ | ⟨h0, h⟩
 ·exact .inl h
 ·have mz := mg_nz h h0
  refine .inr ⟨mz, ?_⟩
  have nz := bd_nz h'
  rcases h with ⟨e, a, ha, haW, h⟩ | ⟨e, p, hp, ho, h⟩ | ⟨e, hm, k0, ho, t, hk, hz⟩ | ⟨e, hb, hk, rfl, rfl⟩
  ·rcases h' with ⟨_, a', ha2, ha', haW', h'⟩ | ⟨e', _⟩ | ⟨e', _⟩ | ⟨e', _⟩
   ·obtain rfl : a = a' := by omega
    exact isk_gt (by omega) (isk7_longer ha' h) h' (by omega)
   ·omega
   ·omega
   ·omega
  ·rcases h' with ⟨e', _⟩ | ⟨_, p', hp', hpm', ho', h'⟩ | ⟨e', _⟩ | ⟨e', _⟩
   ·omega
   ·obtain rfl : p = p' := by omega
    exact ism_gt h.longer mz h' nz (by omega)
   ·omega
   ·omega
  ·rcases h' with ⟨e', _⟩ | ⟨e', _⟩ | ⟨_, _, _, rfl, rfl⟩ | ⟨e', _⟩
   ·omega
   ·omega
   ·refine ⟨f.m + 1, by omega, by omega, ?_⟩
    rw [show (z + (f.m + 1)).toNat = t + 1 by omega, show (-f.m - 1 + (f.m + 1)).toNat = 0 by omega, p2s, hk]
    have : m * (2 * 2 ^ t) = 2 * (m * 2 ^ t) := by ac_rfl
    omega
   ·omega
  ·rcases h' with ⟨e', _⟩ | ⟨e', _⟩ | ⟨e', _⟩ | ⟨_, _, _, rfl, rfl⟩
   ·omega
   ·omega
   ·omega
   ·refine ⟨f.b - k + 1, by omega, by omega, ?_⟩
    rw [show ((k : Int) - f.b + (f.b - k + 1)).toNat = 1 by omega, show ((k : Int) - f.b - 1 + (f.b - k + 1)).toNat = 0 by omega]
    decide
theorem gt_next {f : Fm} {k x n : Nat} {z y : Int} (h' : Bd f k n y) (h : Mg0 f (k + 1) x z) : x ≠ 0 ∧ Gt x z n y := by
 rcases h with ⟨h, _⟩ | ⟨h0, h⟩
 ·omega
 ·have xz := mg_nz h h0
  refine ⟨xz, ?_⟩
  have nz := bd_nz h'
  rcases h with ⟨e, a, ha, haW, h⟩ | ⟨e, p, hp, ho, h⟩ | ⟨e, hm, k0, ho, t, hk, hz⟩ | ⟨e, hb, hk, rfl, hz⟩
  ·rcases h' with ⟨_, a', ha2, ha', haW', h'⟩ | ⟨e', _⟩ | ⟨e', _⟩ | ⟨e', _⟩
   ·obtain rfl : a = a' := by omega
    exact isk_gt (by omega) h' (isk7_longer ha' h) (by omega)
   ·omega
   ·omega
   ·omega
  ·rcases h' with ⟨e', _⟩ | ⟨_, p', hp', hpm', ho', h'⟩ | ⟨e', _⟩ | ⟨e', _⟩
   ·omega
   ·obtain rfl : p = p' := by omega
    exact ism_gt h' nz h.longer xz (by omega)
   ·omega
   ·omega
  ·rcases h' with ⟨e', _⟩ | ⟨e', _⟩ | ⟨_, _, _, rfl, rfl⟩ | ⟨e', _⟩
   ·omega
   ·omega
   ·refine ⟨f.m + 1, by omega, by omega, ?_⟩
    rw [show (z + (f.m + 1)).toNat = t + 1 by omega, show (-f.m - 1 + (f.m + 1)).toNat = 0 by omega, p2s]
    have : x * (2 * 2 ^ t) = 2 * (x * 2 ^ t) := by ac_rfl
    omega
   ·omega
  ·rcases h' with ⟨e', _⟩ | ⟨e', _⟩ | ⟨e', _⟩ | ⟨_, _, _, rfl, rfl⟩
   ·omega
   ·omega
   ·omega
   ·refine ⟨f.b - k + 1, by omega, by omega, ?_⟩
    rw [show (z + (f.b - k + 1)).toNat = 2 by omega, show ((k : Int) - f.b - 1 + (f.b - k + 1)).toNat = 0 by omega]
    decide
theorem mg_rng {f : Fm} {k m : Nat} {z : Int} (kb : k < 18446744073709551616) (h : Mg0 f k m z) : m < 18446744073709551616 ∧ -100000 ≤ z ∧ z ≤ 1200000 := by
  rcases h with ⟨_, _, rfl, rfl⟩ | ⟨_, h⟩
  · exact ⟨by decide, by decide, by decide⟩
  · rcases h with ⟨e, a, ha, haW, h⟩ | ⟨e, p, hp, ho, h⟩ | ⟨e, hm, k0, ho, t, hk, hz⟩ | ⟨e, hb, hk, rfl, hz⟩
    · have := h.rng ha; omega
    · have := h.rng ho; omega
    · have p3 : m ≤ m * 2 ^ t := Nat.le_mul_of_pos_right _ (p2 t)
      have p4 : 2 ^ t ≤ m * 2 ^ t := Nat.le_mul_of_pos_left _ (by omega)
      have t64 : t < 64 := p2inj (by have : (2 : Nat) ^ 64 = 18446744073709551616 := by decide
                                     omega)
      omega
    · omega
theorem bd_rng {f : Fm} {k m : Nat} {z : Int} (h : Bd f k m z) : m < 18446744073709551616 ∧ -200000 ≤ z ∧ z ≤ 1200000 := by
 rcases h with ⟨e, a, _, ha, haW, h⟩ | ⟨e, p, _, hp, ho, h⟩ | ⟨e, hm, k0, rfl, rfl⟩ | ⟨e, hb, hk, rfl, rfl⟩
 ·have := h.rng (by omega); omega
 ·have := h.rng ho; omega
 ·omega
 ·omega
end M
end Go.Proofs.YtijpffgocookaaaGreatDoor
