import Derived.Test.YtcmlanfgafancaaGreatDoorQTTake
import Derived.Test.YtcmlanfgafancaaGreatDoorQTDigs
import Derived.Test.YtcmlanfgafancaaGreatDoorQTRn
import Derived.OwnWalk
import Derived.BigQuiet
set_option maxHeartbeats 32000000
set_option linter.unusedVariables false
set_option linter.unusedSimpArgs false
namespace Go.Proofs.YtcmlanfgafancaaGreatDoor
open Go.RowKit Go.Shelf
namespace M
def rtn (a : Nat) (k : Int) : Prop := (a = 0 ∧ k = 0) ∨ (a ≠ 0 ∧ (-5000 ≤ k ∧ k ≤ 5000) ∧ (Lib.decDigits a).length ≤ 2000 ∧ a % 10 ≠ 0)
instance (a : Nat) (k : Int) : Decidable (rtn a k) := by unfold rtn; infer_instance
def rt (xs : List Nat) (k : Int) : Prop := Nrm xs ∧ rtn (val xs) k
instance (xs : List Nat) (k : Int) : Decidable (rt xs k) := by unfold rt Nrm; infer_instance
theorem dd_lt (a : Nat) : a < 10 ^ (Lib.decDigits a).length := by
 obtain ⟨k1, k2, _, _⟩ := dd_all a a (Nat.le_refl _)
 have := vsa_lt _ k1
 rwa [k2] at this
theorem b_two (m : Nat) : (18446744073709551616 : Nat) ^ m = 2 ^ (64 * m) := (Nat.pow_mul 2 64 m).symm
theorem ten_gap (K : Nat) (h : K ≤ 2000) : 10 ^ K < 18446744073709551616 ^ 128 := by
 obtain ⟨G, hG⟩ : ∃ G, 64 * 128 = G := ⟨_, rfl⟩
 have h1 : (10 : Nat) ^ K ≤ (2 ^ 4) ^ K := Nat.pow_le_pow_left (by omega) _
 rw [← Nat.pow_mul] at h1
 have h2 : (2 : Nat) ^ (4 * K) < 2 ^ G := Nat.pow_lt_pow_right (by omega) (by omega)
 rw [b_two, hG]
 exact Nat.lt_of_le_of_lt h1 h2
theorem rt_len {xs : List Nat} {k : Int} (h : rt xs k) : xs.length ≤ 128 := by
 obtain ⟨h1, h2⟩ := h
 refine len_of_lt h1 ?_
 rcases h2 with ⟨h3, _⟩ | ⟨_, _, h3, _⟩
 ·rw [h3]; exact Nat.pow_pos (by omega)
 ·exact Nat.lt_trans (dd_lt _) (ten_gap _ h3)
theorem dd_room (a n : Nat) (h : a < 18446744073709551616 ^ n) : (Lib.decDigits a).length ≤ 20 * n + 1 := by
 rw [Lib.decDigits_length]
 refine nd_lt (20 * n) a ?_
 have h1 : (18446744073709551616 : Nat) ^ n ≤ (10 ^ 20) ^ n := Nat.pow_le_pow_left (by omega) _
 rw [← Nat.pow_mul] at h1
 exact Nat.lt_of_lt_of_le h (Nat.le_trans h1 (Nat.pow_le_pow_right (by omega) (by omega)))
theorem dd_end (a : Nat) : ((Lib.decDigits a).getD ((Lib.decDigits a).length - 1) 0).toNat = 48 + a % 10 := by
 rw [dd_step, List.length_append, List.length_singleton, List.getD_eq_getElem?_getD, show (dz (a / 10)).length + 1 - 1 = (dz (a / 10)).length from by omega, List.getElem?_concat_length]
 exact ofNat_toNat (by omega)
end M
structure Dr (w : World) (A : Option Addr) (n c : Nat) (xs : List Nat) : Prop where
 num : xs.length = n
 wd : n ≤ 1000 → Wd w 0 A n c xs
 src : 1000 < n → Src w A n c xs
 mx : n ≤ 17592186044416
theorem Dr.up {w w' : World} {A : Option Addr} {n c : Nat} {xs : List Nat} (h : Dr w A n c xs) (hu : Up w w') : Dr w' A n c xs :=
 ⟨h.num, fun hn => (h.wd hn).up hu, fun hn => (h.src hn).up hu, h.mx⟩
theorem Wd.dr {w : World} {lo : Nat} {A : Option Addr} {n c : Nat} {xs : List Nat} (h : Wd w lo A n c xs) (hn : n ≤ 1000) : Dr w A n c xs :=
 ⟨h.num, fun _ => h.lower (Nat.zero_le _), fun h1 => absurd h1 (by omega), by omega⟩
theorem Nt.dr {w : World} {lo s : Nat} {A : Option Addr} {n c a : Nat} (h : Nt w lo s (.slice A n c) a) (hs : s ≤ 1000) : ∃ xs, Dr w A n c xs ∧ M.val xs = a ∧ M.Nrm xs := by
 obtain ⟨A', n', c', xs, e, h1, h2, h3, h4⟩ := h
 cases e
 exact ⟨xs, h1.dr (by omega), h2, h4⟩
theorem Dr.cell {w : World} {A : Option Addr} {n c : Nat} {xs : List Nat} (h : Dr w A n c xs) (h0 : 0 < n) : ∃ ad, A = some ad ∧ ∀ j, j < n → w.cell? (ad.add j) = some (u64 (xs.getD j 0)) := by
 by_cases hn : n ≤ 1000
 ·obtain ⟨b, o, rfl, _, hc⟩ := (h.wd hn).at_ h0
  refine ⟨_, rfl, fun j hj => ?_⟩
  have e : (Addr.mk b o none).add j = ⟨b, o + j, none⟩ := by
   unfold Addr.add
   split
   ·rename_i e; subst e; rfl
   ·rfl
  rw [e]
  exact (hc j hj).1
 ·have k := h.src (by omega)
  rcases A with _ | ad
  ·have := k.none_ rfl
   have := k.len
   omega
  ·exact ⟨ad, rfl, k.at_ ad rfl⟩
theorem Dr.last {w : World} {A : Option Addr} {n c : Nat} {xs : List Nat} (h : Dr w A n c xs) (h0 : 0 < n) :
  ∃ ad y, A = some ad ∧ w.cell? (ad.add (n - 1)) = some (u64 y) ∧ (M.Nrm xs ↔ y ≠ 0) := by
 obtain ⟨ad, rfl, hc⟩ := h.cell h0
 have hl := h.num
 refine ⟨ad, xs.getD (n - 1) 0, rfl, hc (n - 1) (by omega), ?_⟩
 unfold M.Nrm
 rw [List.getLast?_eq_getElem?, hl, List.getD_eq_getElem?_getD, List.getElem?_eq_getElem (by omega)]
 simp
theorem Dr.nil {w : World} {A : Option Addr} {c : Nat} {xs : List Nat} (h : Dr w A 0 c xs) : xs = [] := List.eq_nil_of_length_eq_zero h.num
abbrev dv (ng : Bool) (v : Value) (k : Int) : Value := .agg #[.bool ng, v, .int .i64 k]
theorem rright12_any (w : World) (ng : Bool) (A : Option Addr) (n c : Nat) (xs : List Nat) (k : Int) (h : Dr w A n c xs) (r : Bool) (hr : Hid (decide (M.rt xs k) = r)) :
  Calls Tryz.prog 49 #[dv ng (.slice A n c) k] w (Boo r w) := by
 have hu := (Up.refl w).alloc (.cells #[.bool ng, .slice A n c, .int .i64 k] 44)
 rcases Nat.eq_zero_or_pos n with h0 | h0
 ·subst h0
  have hx := h.nil
  subst hx
  have HR : Hid ((k == 0) = r) := by
   show _ = _
   rw [← hr.out, Bool.eq_iff_iff, decide_eq_true_iff, beq_iff_eq]
   constructor
   ·intro e; exact ⟨M.Nrm.nil, .inl ⟨rfl, e⟩⟩
   ·rintro ⟨_, h | h⟩
    ·exact h.2
    ·exact absurd rfl h.1
  clear hr h
  go_enter Tryz.func49, Tryz.ntmps49
  go_wp2_with fail
  go_ret
  exact ⟨ret_bool HR.out, hu⟩
 ·have hn0 : ((n : Int) == 0) = false := by rw [beq_eq_false_iff_ne]; omega
  have hnm := h.mx
  by_cases h128 : n ≤ 128
  ·obtain ⟨ad, y, rfl, hc, hny⟩ := h.last h0
   have hc2 := cell_up hu hc
   have d1 : decide ((n : Int) > 128) = false := decide_eq_false (by omega)
   by_cases hy : y = 0
   ·have HR : Hid (false = r) := by
     show _ = _
     rw [← hr.out, eq_comm, decide_eq_false_iff_not]
     intro h2
     exact hny.1 h2.1 hy
    subst hy
    clear hr h hc hny
    go_enter Tryz.func49, Tryz.ntmps49
    go_wp2_with fail
    go_ret
    exact ⟨ret_bool HR.out, hu⟩
   ·have hy0 : ((y : Int) == 0) = false := by rw [beq_eq_false_iff_ne]; omega
    have hne : M.val xs ≠ 0 := by
     intro e
     have h1 := M.val_zero (hny.2 hy) e
     have h2 := h.num
     rw [h1] at h2
     simp at h2
     omega
    have hiff : M.rt xs k ↔ (-5000 ≤ k ∧ k ≤ 5000) ∧ (Lib.decDigits (M.val xs)).length ≤ 2000 ∧ M.val xs % 10 ≠ 0 := by
     constructor
     ·rintro ⟨_, h | h⟩
      ·exact absurd h.1 hne
      ·exact h.2
     ·intro h; exact ⟨hny.2 hy, .inr ⟨hne, h⟩⟩
    have HI := Lib.hid hiff
    by_cases hk : -5000 ≤ k ∧ k ≤ 5000
    ·obtain ⟨k1, k2⟩ := hk
     have d2 : decide (k < -5000) = false := decide_eq_false (by omega)
     have d3 : decide (k > 5000) = false := decide_eq_false (by omega)
     have hwd := h.wd (by omega)
     have NW : Hid (Nw (w.alloc (.cells #[.bool ng, .slice (some ad) n c, .int .i64 k] 44)) 0 128 (.slice (some ad) n c) (M.val xs)) := ⟨_, _, _, _, rfl, hwd.up hu, rfl, h128⟩
     have CH := Lib.hid (halves_of _ _ _ _ _ NW.out (by omega))
     obtain ⟨a, ha⟩ : ∃ a, M.val xs = a := ⟨_, rfl⟩
     have hlt : a < 18446744073709551616 ^ 128 := by
      rw [← ha]
      exact Nat.lt_of_lt_of_le (M.val_lt hwd.wds) (Nat.pow_le_pow_right (by omega) (by have := hwd.num; omega))
     have hroom := M.dd_room a 128 hlt
     rw [ha] at CH HI
     obtain ⟨S, hS⟩ : ∃ S : ByteArray, (⟨(Lib.decDigits a).toArray⟩ : ByteArray) = S := ⟨_, rfl⟩
     have HS : Tx S (Lib.decDigits a) := by rw [← hS]; exact Tx.lit _
     have HZ := HS.size
     have hpos := M.decDigits_pos a
     have hend := M.dd_end a
     obtain ⟨e, he⟩ : ∃ e : Nat, 48 + a % 10 = e := ⟨_, rfl⟩
     have hix : ∀ (hp : S.size - 1 < S.size), ((S[S.size - 1]'hp).toNat : Int) = (e : Int) := by
      intro hp
      rw [HS.get _ hp, HZ, hend, he]
     have hp : S.size - 1 < S.size := by omega
     have hix2 := hix hp
     obtain ⟨b, hb⟩ : ∃ b, ((e : Int) != 48) = b := ⟨_, rfl⟩
     have HR : Hid ((decide (S.size ≤ 2000) && b) = r) := by
      show _ = _
      rw [← hr.out, Bool.eq_iff_iff, decide_eq_true_iff, HI.out, ← hb, Bool.and_eq_true, decide_eq_true_iff, bne_iff_ne, HZ]
      constructor
      ·rintro ⟨a1, a2⟩; exact ⟨⟨k1, k2⟩, a1, by omega⟩
      ·rintro ⟨_, a1, a2⟩; exact ⟨a1, by omega⟩
     have hSs : S.size ≤ 2561 := by omega
     have hSp : 0 < S.size := by omega
     have HSS := Lib.hid hS
     clear hr h hc hny hiff HI hwd hlt hroom HS HZ hpos hend he hix hS ha
     go_enter Tryz.func49, Tryz.ntmps49
     go_wp2_with fail
     refine CH.out.mono ?_
     rintro _ w2 ⟨v2, rfl, N2, u2⟩
     have CD := Lib.hid (rdigits1_any w2 _ _ v2 a N2 (by omega) (by have := HSS.out; rw [show (Lib.decDigits a).length = S.size from by rw [← this]; rfl]; omega) S HSS.out)
     clear CH N2
     go_wp2_with fail
     refine CD.out.mono ?_
     rintro _ w3 ⟨rfl, u3⟩
     clear CD HSS
     by_cases hL : S.size ≤ 2000
     ·have d4 : decide ((S.size : Int) ≤ 2000) = true := decide_eq_true (by omega)
      have HR2 : Hid (b = r) := by have := HR.out; rw [decide_eq_true hL, Bool.true_and] at this; exact this
      go_wp2_with fail
      go_ret
      exact ⟨ret_bool HR2.out, (hu.trans u2).trans u3⟩
     ·have d4 : decide ((S.size : Int) ≤ 2000) = false := decide_eq_false (by omega)
      have HR2 : Hid (false = r) := by have := HR.out; rw [decide_eq_false hL, Bool.false_and] at this; exact this
      go_wp2_with fail
      go_ret
      exact ⟨ret_bool HR2.out, (hu.trans u2).trans u3⟩
    ·have HR : Hid (false = r) := by
      show _ = _
      rw [← hr.out, eq_comm, decide_eq_false_iff_not]
      intro h2
      exact hk (hiff.1 h2).1
     by_cases k1 : k < -5000
     ·have d2 : decide (k < -5000) = true := decide_eq_true k1
      clear hr h hc hny hiff HI hk
      go_enter Tryz.func49, Tryz.ntmps49
      go_wp2_with fail
      go_ret
      exact ⟨ret_bool HR.out, hu⟩
     ·have d2 : decide (k < -5000) = false := decide_eq_false k1
      have d3 : decide (k > 5000) = true := decide_eq_true (by omega)
      clear hr h hc hny hiff HI hk
      go_enter Tryz.func49, Tryz.ntmps49
      go_wp2_with fail
      go_ret
      exact ⟨ret_bool HR.out, hu⟩
  ·have d1 : decide ((n : Int) > 128) = true := decide_eq_true (by omega)
   have HR : Hid (false = r) := by
    show _ = _
    rw [← hr.out, eq_comm, decide_eq_false_iff_not]
    intro h2
    exact h128 (by have := M.rt_len h2; rw [h.num] at this; exact this)
   clear hr h h128
   go_enter Tryz.func49, Tryz.ntmps49
   go_wp2_with fail
   go_ret
   exact ⟨ret_bool HR.out, hu⟩
end Go.Proofs.YtcmlanfgafancaaGreatDoor
