/-
  QuireWide: its walk.
-/
import Derived.Test.YtijpffgocookaaaGreatDoorYf
import Derived.Test.YtijpffgocookaaaGreatDoorNb
import Derived.Test.YtijpffgocookaaaGreatDoorExa
namespace Go.Proofs.YtijpffgocookaaaGreatDoor
open Go.RowKit Go.Shelf
set_option linter.unusedVariables false
set_option linter.unusedSimpArgs false

theorem and_65535 (x : Int) : ∃ m : Nat, Go.bits BinOp.and IntKind.i64 x 65535 = (m : Int) ∧ m ≤ 65535 := by
  refine ⟨((BitVec.ofInt 64 x).toNat &&& 65535), ?_, ?_⟩
  · show IntKind.i64.wrap ((BitVec.ofInt 64 x &&& BitVec.ofInt 64 65535).toNat : Int) = _
    rw [BitVec.toNat_and, show (BitVec.ofInt 64 65535).toNat = 65535 from rfl]
    have : (BitVec.ofInt 64 x).toNat &&& 65535 ≤ 65535 := Nat.and_le_right
    exact IntWalk.i64_in _ (by omega)
  · exact Nat.and_le_right
theorem Sd3.fit {w0 w : World} {φ ψ : Thg} {s k : Nat} {v : Value} {a : Nat} (S : Sd3 w0 w φ ψ (Nmb s v a)) (hk : a < 18446744073709551616 ^ k) : Sd3 w0 w φ ψ (Nmb k v a) := by
  obtain ⟨F, G, H, h1, h2, ⟨A, n, c, xs, e, g1, g2, g3, g4, g5⟩, d⟩ := S.st
  obtain ⟨A', n', c', xs', e', q1, q2, q3, q4⟩ := S.nt.fit hk
  rw [e] at e'
  injection e' with e1 e2 e3
  subst e1 e2 e3
  exact ⟨⟨F, G, H, h1, h2, ⟨A, n, c, xs, e, g1, g2, q3, g4, g5⟩, d⟩, S.up, S.k1, S.k2, Nmb.kpt _ _ _⟩
namespace M
theorem ad_wide {N b : Nat} (hb : b < N) : (b + 1 < N ∧ ad N b 1 = b + 1) ∨ (b + 1 = N ∧ ad N b 1 = 0) := by
  unfold ad
  rcases Nat.lt_or_eq_of_le (Nat.succ_le_of_lt hb) with h | h
  · exact .inl ⟨h, Nat.mod_eq_of_lt h⟩
  · exact .inr ⟨h, by rw [show b + 1 = N from h, Nat.mod_self]⟩
theorem word_20 {i b : Nat} (i1 : 1 ≤ i) (i2 : i ≤ 4) (h : b ≤ 2 ^ qS i) : b < 18446744073709551616 ^ 20 := by
  have hq := q_facts i1 i2
  obtain ⟨K, hK⟩ : ∃ K, 64 * 20 = K := ⟨_, rfl⟩
  rw [show (18446744073709551616 : Nat) = 2 ^ 64 by decide, ← Nat.pow_mul, hK]
  exact Nat.lt_of_le_of_lt h (Nat.pow_lt_pow_right (by decide) (by omega))
end M
section
variable {Is : Nat → Nat → Nat → Thg}
set_option maxHeartbeats 4000000 in
set_option maxRecDepth 100000 in
theorem qwide_walk (Q : Qui Is) (w : World) (TT : Hid (Tz w)) (TF : Hid (TabF w)) (x0 : Int) (_wx0 : (Lit.int .i64 x0).wf = true) (A : Option Addr) (n c : Nat) (xs : List Nat) (h : Src w A n c xs) (hz : Fz w A n) (x2 : Int) (_wx2 : (Lit.int .i64 x2).wf = true) : Calls Tryz.prog 10 #[.int .i64 x0, .slice A n c, .int .i64 x2] w (True15 w) := by
  obtain ⟨L0, hL0, L0b⟩ := and_65535 x2
  obtain ⟨L, hL⟩ : ∃ L, L0 % 51 = L := ⟨_, rfl⟩
  have qL : (L0 : Int).tmod 51 = (L : Int) := by rw [Int.tmod_eq_emod_of_nonneg (by omega)]; omega
  have qL2 : (L0 : Int) % 51 = (L : Int) := by omega
  have bL : L ≤ 50 := by omega
  clear hL
  have CH := Lib.hid (fun W (u : Up w W) => shown15_any Q W (Lib.hid (TT.out.up u)) (Lib.hid (TF.out.up u)))
  have U := Up.refl w
  obtain ⟨mm, hm, m3⟩ := and_3 x0
  obtain ⟨i, hi⟩ : ∃ i : Nat, 1 + mm = i := ⟨_, rfl⟩
  have q1 : (1 : Int) + (mm : Int) = (i : Int) := by omega
  have i1 : Hid (1 ≤ i) := Lib.hid (show 1 ≤ i by omega)
  have i2 : Hid (i ≤ 4) := Lib.hid (show i ≤ 4 by omega)
  clear hi
  obtain ⟨k, hk⟩ : ∃ k : Nat, min (n : Int) 20 = (k : Int) := ⟨min n 20, by omega⟩
  have hkn : k ≤ n := by omega
  have k20 : k ≤ 20 := by omega
  have hnc := h.len
  have hwd := (h.take (m := k) (by omega)).wd0 (fun ad e j hj => hz ad e j (by omega)) (by omega)
  obtain ⟨ys, hys⟩ : ∃ ys, xs.take k = ys := ⟨_, rfl⟩
  rw [hys] at hwd
  clear hys h hz
  have HW := Lib.hid hwd
  clear hwd
  obtain ⟨b, ex, hs⟩ := M.qs_ex i (M.val ys) 0
  have HS := Lib.hid hs
  have HW1 := Lib.hid (M.wide_q i1.out i2.out)
  have he : ex = 0 ∨ (ex = 4 ∧ b = 0) := by
    rcases hs with ⟨_, _, e⟩ | ⟨_, e, e'⟩
    · exact .inl e
    · exact .inr ⟨e', e⟩
  clear hs
  rcases he with rfl | ⟨rfl, rfl⟩
  · go_enter Tryz.func10, Tryz.ntmps10
    go_wp2_with fail
    refine (CH.out _ (by first | exact U | exact U.drew | exact U.drewN _)).mono ?_
    rintro _ w1 ⟨rfl, h1⟩
    replace U := Up.trans (by first | exact U | exact U.drew | exact U.drewN _) h1
    have S := Sd3.start U
    clear CH h1 U
    go_wp2_with fail
    refine (Q.fresh_ TF.out (by first | exact S | exact S.pure ((Up.refl _).drew) | exact S.pure ((Up.refl _).drewN _)) i1.out i2.out).mono ?_
    clear S
    rintro _ w2 ⟨p1, rfl, S⟩
    go_wp2_with fail
    refine (Q.set_ TT.out TF.out (by first | exact S | exact S.pure ((Up.refl _).drew) | exact S.pure ((Up.refl _).drewN _)) _ _ _ _ _ (HW.out.up (by first | exact S.up | exact S.up.drew | exact S.up.drewN _)) k20 _ _ HS.out).mono ?_
    clear S
    rintro _ w3 ⟨rfl, S⟩
    go_wp2_with fail
    refine (Q.keep_ TT.out TF.out (by first | exact S | exact S.pure ((Up.refl _).drew) | exact S.pure ((Up.refl _).drewN _))).mono ?_
    clear S
    rintro _ w4 ⟨v, rfl, S⟩
    obtain ⟨B, n0, c0, rfl⟩ := S.sl
    go_wp2_with fail
    go_loopw [11, 12] (fun wv iv wr => ∃ (j b1 : Nat), iv = .int .i64 (j : Int) ∧ j ≤ L ∧ Sd3 w wr (Is p1 i b1) Non (Nmb 20 wv b1)) (fun _ iv _ => L - (intOf iv).toNat)
    case atStart => exact ⟨0, _, rfl, Nat.zero_le _, (by first | exact S | exact S.pure ((Up.refl _).drew) | exact S.pure ((Up.refl _).drewN _))⟩
    case round =>
      clear S
      obtain ⟨j, b1, rfl, hj, S⟩ := hrel
      obtain ⟨B1, n1, c1, rfl⟩ := S.sl
      by_cases jn : j < L
      · have e1 : (j : Int) < (L : Int) := by omega
        by_cases hn : b1 = M.qn i
        · have HN := Lib.hid hn
          clear hn
          go_wp2_with fail
          refine (Q.nar_ TT.out TF.out (by first | exact S | exact S.pure ((Up.refl _).drew) | exact S.pure ((Up.refl _).drewN _)) true (decide_eq_true HN.out)).mono ?_
          clear S
          rintro _ w31 ⟨rfl, S⟩
          go_wp2_with fail
          go_ret
          exact ⟨by first | rfl | simp, by first | exact S.up | exact S.up.drew | exact S.up.drewN _⟩
        · have HN := Lib.hid hn
          clear hn
          have hlt := (Q.rng_ S).2.2
          have hw := M.ad_wide hlt
          have h20 := Lib.hid (M.word_20 i1.out i2.out (Nat.succ_le_of_lt hlt))
          go_wp2_with fail
          refine (Q.nar_ TT.out TF.out (by first | exact S | exact S.pure ((Up.refl _).drew) | exact S.pure ((Up.refl _).drewN _)) false (decide_eq_false HN.out)).mono ?_
          clear S
          rintro _ w31 ⟨rfl, S⟩
          go_wp2_with fail
          refine (Q.add_ TT.out TF.out (by first | exact S | exact S.pure ((Up.refl _).drew) | exact S.pure ((Up.refl _).drewN _)) 1 1 (by decide) (by decide) _ _ HW1.out).mono ?_
          clear S
          rintro _ w32 ⟨rfl, S⟩
          rw [M.qst_some HN.out] at S
          have hv := S.nt
          go_wp2_with fail
          refine (of_lit _ 1 1 rfl (by decide)).mono ?_
          rintro _ w33 ⟨v1, rfl, hn1, u⟩
          have uu := Up.trans (by first | exact Up.refl _ | exact (Up.refl _).drew | exact (Up.refl _).drewN _) u
          replace S := S.pure uu
          replace hv := hv.up uu
          obtain ⟨B2, n2, c2, rfl⟩ := hn1.sl
          clear uu u
          replace S := S.swap3.drop
          go_wp2_with fail
          refine ((show Sd3 _ _ _ _ _ from by first | exact S | exact S.pure ((Up.refl _).drew) | exact S.pure ((Up.refl _).drewN _)).num (r := fun v => v) (add_any _ _ _ 20 _ _ _ _ (by first | exact hv.nw | exact (hv.up ((Up.refl _).drew)).nw | exact (hv.up ((Up.refl _).drewN _)).nw) (by first | exact (hn1.nw).more (by decide) | exact ((hn1.up ((Up.refl _).drew)).nw).more (by decide) | exact ((hn1.up ((Up.refl _).drewN _)).nw).more (by decide)) (by decide))).mono ?_
          clear S
          rintro _ w34 ⟨v2, rfl, S⟩
          clear hv hn1
          replace S := S.swap3.fit h20.out
          obtain ⟨B2, n2, c2, rfl⟩ := S.sl
          rcases hw with ⟨hw1, hw2⟩ | ⟨hw1, hw2⟩
          · rw [hw2] at S
            obtain ⟨z, hz⟩ : ∃ z : Int, (M.bits (b1 + 1) : Int) = z := ⟨_, rfl⟩
            have hz2 : z ≤ (M.qS i : Int) := by have := M.bits_le_of_lt hw1; omega
            have HZ := Lib.hid (Lib.hid hz)
            clear hw1 hw2 hz
            go_wp2_with fail
            refine (bits_at2 _ _ _ _ _ z (by first | exact S.nt.nw | exact (S.nt.up ((Up.refl _).drew)).nw | exact (S.nt.up ((Up.refl _).drewN _)).nw) HZ.out).mono ?_
            rintro _ _ ⟨rfl, rfl⟩
            go_wp2_with fail
            refine (Q.size_ TT.out TF.out (by first | exact S | exact S.pure ((Up.refl _).drew) | exact S.pure ((Up.refl _).drewN _))).mono ?_
            clear S
            rintro _ w41 ⟨rfl, S⟩
            go_wp2_with fail
            refine (Q.bits_ TT.out TF.out (by first | exact S | exact S.pure ((Up.refl _).drew) | exact S.pure ((Up.refl _).drewN _))).mono ?_
            clear S
            rintro _ w42 ⟨v3, rfl, hn3, u3, S⟩
            obtain ⟨A3, m3_, d3_, rfl⟩ := hn3.sl
            clear u3
            have hw := S.nt
            go_wp2_with fail
            refine (bits15_any _ _ _ _ _ _ _ _ _ _ _ _ _ (by first | exact hn3 | exact hn3.up ((Up.refl _).drew) | exact hn3.up ((Up.refl _).drewN _)) (by first | exact hw | exact hw.up ((Up.refl _).drew) | exact hw.up ((Up.refl _).drewN _)) (by decide) (by decide) true (decide_eq_true rfl)).mono ?_
            rintro _ w43 ⟨rfl, u43⟩
            replace S := S.pure (Up.trans (by first | exact Up.refl _ | exact (Up.refl _).drew | exact (Up.refl _).drewN _) u43)
            clear u43 hn3
            clear hw
            go_wp2_with fail
            go_roundw
            case rel => exact ⟨j + 1, _, by go_num, by omega, (by first | exact S | exact S.pure ((Up.refl _).drew) | exact S.pure ((Up.refl _).drewN _))⟩
            case measure => simp [intOf]; omega
          · rw [hw2] at S
            obtain ⟨z, hz⟩ : ∃ z : Int, (M.bits (b1 + 1) : Int) = z := ⟨_, rfl⟩
            have hz2 : ¬ z ≤ (M.qS i : Int) := by
              have h1 := M.bits_lt (b1 + 1)
              have h2 : M.qS i < M.bits (b1 + 1) := M.p2inj (by rw [← hw1]; exact h1)
              omega
            have hz3 : (M.qS i : Int) < z := by omega
            have HZ := Lib.hid (Lib.hid hz)
            clear hw1 hw2 hz
            go_wp2_with fail
            refine (bits_at2 _ _ _ _ _ z (by first | exact S.nt.nw | exact (S.nt.up ((Up.refl _).drew)).nw | exact (S.nt.up ((Up.refl _).drewN _)).nw) HZ.out).mono ?_
            rintro _ _ ⟨rfl, rfl⟩
            go_wp2_with fail
            refine (Q.size_ TT.out TF.out (by first | exact S | exact S.pure ((Up.refl _).drew) | exact S.pure ((Up.refl _).drewN _))).mono ?_
            clear S
            rintro _ w41 ⟨rfl, S⟩
            replace S := S.swap3.drop
            go_wp2_with fail
            refine ((show Sd3 _ _ _ _ _ from by first | exact S | exact S.pure ((Up.refl _).drew) | exact S.pure ((Up.refl _).drewN _)).num (r := fun v => v) (of_lit _ 0 0 rfl (by decide))).mono ?_
            clear S
            rintro _ w42 ⟨v2, rfl, S⟩
            replace S := S.swap3.fit (k := 20) (Nat.pow_pos (by decide))
            obtain ⟨B3, n3, c3, rfl⟩ := S.sl
            go_wp2_with fail
            refine (Q.bits_ TT.out TF.out (by first | exact S | exact S.pure ((Up.refl _).drew) | exact S.pure ((Up.refl _).drewN _))).mono ?_
            clear S
            rintro _ w43 ⟨v3, rfl, hn3, u3, S⟩
            obtain ⟨A3, m3_, d3_, rfl⟩ := hn3.sl
            clear u3
            have hw := S.nt
            go_wp2_with fail
            refine (bits15_any _ _ _ _ _ _ _ _ _ _ _ _ _ (by first | exact hn3 | exact hn3.up ((Up.refl _).drew) | exact hn3.up ((Up.refl _).drewN _)) (by first | exact hw | exact hw.up ((Up.refl _).drew) | exact hw.up ((Up.refl _).drewN _)) (by decide) (by decide) true (decide_eq_true rfl)).mono ?_
            rintro _ w44 ⟨rfl, u44⟩
            replace S := S.pure (Up.trans (by first | exact Up.refl _ | exact (Up.refl _).drew | exact (Up.refl _).drewN _) u44)
            clear u44 hn3
            clear hw
            go_wp2_with fail
            go_roundw
            case rel => exact ⟨j + 1, _, by go_num, by omega, (by first | exact S | exact S.pure ((Up.refl _).drew) | exact S.pure ((Up.refl _).drewN _))⟩
            case measure => simp [intOf]; omega
      · obtain rfl : j = L := by omega
        by_cases hn : b1 = M.qn i
        · have HN := Lib.hid hn
          clear hn
          go_wp2_with fail
          refine (Q.nar_ TT.out TF.out (by first | exact S | exact S.pure ((Up.refl _).drew) | exact S.pure ((Up.refl _).drewN _)) true (decide_eq_true HN.out)).mono ?_
          clear S
          rintro _ w61 ⟨rfl, S⟩
          go_wp2_with fail
          go_ret
          exact ⟨by first | rfl | simp, by first | exact S.up | exact S.up.drew | exact S.up.drewN _⟩
        · have HN := Lib.hid hn
          clear hn
          go_wp2_with fail
          refine (Q.nar_ TT.out TF.out (by first | exact S | exact S.pure ((Up.refl _).drew) | exact S.pure ((Up.refl _).drewN _)) false (decide_eq_false HN.out)).mono ?_
          clear S
          rintro _ w61 ⟨rfl, S⟩
          go_wp2_with fail
          refine (Q.bits_ TT.out TF.out (by first | exact S | exact S.pure ((Up.refl _).drew) | exact S.pure ((Up.refl _).drewN _))).mono ?_
          clear S
          rintro _ w62 ⟨v3, rfl, hn3, u3, S⟩
          obtain ⟨A3, m3_, d3_, rfl⟩ := hn3.sl
          clear u3
          have hw := S.nt
          go_wp2_with fail
          refine (bits15_any _ _ _ _ _ _ _ _ _ _ _ _ _ (by first | exact hn3 | exact hn3.up ((Up.refl _).drew) | exact hn3.up ((Up.refl _).drewN _)) (by first | exact hw | exact hw.up ((Up.refl _).drew) | exact hw.up ((Up.refl _).drewN _)) (by decide) (by decide) true (decide_eq_true rfl)).mono ?_
          rintro _ w63 ⟨rfl, u63⟩
          replace S := S.pure (Up.trans (by first | exact Up.refl _ | exact (Up.refl _).drew | exact (Up.refl _).drewN _) u63)
          clear u63 hn3
          go_wp2_with fail
          go_ret
          exact ⟨by first | rfl | simp, by first | exact S.up | exact S.up.drew | exact S.up.drewN _⟩
  · go_enter Tryz.func10, Tryz.ntmps10
    go_wp2_with fail
    refine (CH.out _ (by first | exact U | exact U.drew | exact U.drewN _)).mono ?_
    rintro _ w1 ⟨rfl, h1⟩
    replace U := Up.trans (by first | exact U | exact U.drew | exact U.drewN _) h1
    have S := Sd3.start U
    clear CH h1 U
    go_wp2_with fail
    refine (Q.fresh_ TF.out (by first | exact S | exact S.pure ((Up.refl _).drew) | exact S.pure ((Up.refl _).drewN _)) i1.out i2.out).mono ?_
    clear S
    rintro _ w2 ⟨p1, rfl, S⟩
    go_wp2_with fail
    refine (Q.set_ TT.out TF.out (by first | exact S | exact S.pure ((Up.refl _).drew) | exact S.pure ((Up.refl _).drewN _)) _ _ _ _ _ (HW.out.up (by first | exact S.up | exact S.up.drew | exact S.up.drewN _)) k20 _ _ HS.out).mono ?_
    clear S
    rintro _ w3 ⟨rfl, S⟩
    go_wp2_with fail
    refine (Q.keep_ TT.out TF.out (by first | exact S | exact S.pure ((Up.refl _).drew) | exact S.pure ((Up.refl _).drewN _))).mono ?_
    clear S
    rintro _ w4 ⟨v, rfl, S⟩
    obtain ⟨B, n0, c0, rfl⟩ := S.sl
    obtain rfl := S.nt.no_word
    go_wp2_with fail
    go_loopw [11, 12] (fun wv iv wr => ∃ (j b1 : Nat), iv = .int .i64 (j : Int) ∧ j ≤ L ∧ Sd3 w wr (Is p1 i b1) Non (Nmb 20 wv b1)) (fun _ iv _ => L - (intOf iv).toNat)
    case atStart => exact ⟨0, _, rfl, Nat.zero_le _, (by first | exact S | exact S.pure ((Up.refl _).drew) | exact S.pure ((Up.refl _).drewN _))⟩
    case round =>
      clear S
      obtain ⟨j, b1, rfl, hj, S⟩ := hrel
      obtain ⟨B1, n1, c1, rfl⟩ := S.sl
      by_cases jn : j < L
      · have e1 : (j : Int) < (L : Int) := by omega
        by_cases hn : b1 = M.qn i
        · have HN := Lib.hid hn
          clear hn
          go_wp2_with fail
          refine (Q.nar_ TT.out TF.out (by first | exact S | exact S.pure ((Up.refl _).drew) | exact S.pure ((Up.refl _).drewN _)) true (decide_eq_true HN.out)).mono ?_
          clear S
          rintro _ w31 ⟨rfl, S⟩
          go_wp2_with fail
          go_ret
          exact ⟨by first | rfl | simp, by first | exact S.up | exact S.up.drew | exact S.up.drewN _⟩
        · have HN := Lib.hid hn
          clear hn
          have hlt := (Q.rng_ S).2.2
          have hw := M.ad_wide hlt
          have h20 := Lib.hid (M.word_20 i1.out i2.out (Nat.succ_le_of_lt hlt))
          go_wp2_with fail
          refine (Q.nar_ TT.out TF.out (by first | exact S | exact S.pure ((Up.refl _).drew) | exact S.pure ((Up.refl _).drewN _)) false (decide_eq_false HN.out)).mono ?_
          clear S
          rintro _ w31 ⟨rfl, S⟩
          go_wp2_with fail
          refine (Q.add_ TT.out TF.out (by first | exact S | exact S.pure ((Up.refl _).drew) | exact S.pure ((Up.refl _).drewN _)) 1 1 (by decide) (by decide) _ _ HW1.out).mono ?_
          clear S
          rintro _ w32 ⟨rfl, S⟩
          rw [M.qst_some HN.out] at S
          have hv := S.nt
          go_wp2_with fail
          refine (of_lit _ 1 1 rfl (by decide)).mono ?_
          rintro _ w33 ⟨v1, rfl, hn1, u⟩
          have uu := Up.trans (by first | exact Up.refl _ | exact (Up.refl _).drew | exact (Up.refl _).drewN _) u
          replace S := S.pure uu
          replace hv := hv.up uu
          obtain ⟨B2, n2, c2, rfl⟩ := hn1.sl
          clear uu u
          replace S := S.swap3.drop
          go_wp2_with fail
          refine ((show Sd3 _ _ _ _ _ from by first | exact S | exact S.pure ((Up.refl _).drew) | exact S.pure ((Up.refl _).drewN _)).num (r := fun v => v) (add_any _ _ _ 20 _ _ _ _ (by first | exact hv.nw | exact (hv.up ((Up.refl _).drew)).nw | exact (hv.up ((Up.refl _).drewN _)).nw) (by first | exact (hn1.nw).more (by decide) | exact ((hn1.up ((Up.refl _).drew)).nw).more (by decide) | exact ((hn1.up ((Up.refl _).drewN _)).nw).more (by decide)) (by decide))).mono ?_
          clear S
          rintro _ w34 ⟨v2, rfl, S⟩
          clear hv hn1
          replace S := S.swap3.fit h20.out
          obtain ⟨B2, n2, c2, rfl⟩ := S.sl
          rcases hw with ⟨hw1, hw2⟩ | ⟨hw1, hw2⟩
          · rw [hw2] at S
            obtain ⟨z, hz⟩ : ∃ z : Int, (M.bits (b1 + 1) : Int) = z := ⟨_, rfl⟩
            have hz2 : z ≤ (M.qS i : Int) := by have := M.bits_le_of_lt hw1; omega
            have HZ := Lib.hid (Lib.hid hz)
            clear hw1 hw2 hz
            go_wp2_with fail
            refine (bits_at2 _ _ _ _ _ z (by first | exact S.nt.nw | exact (S.nt.up ((Up.refl _).drew)).nw | exact (S.nt.up ((Up.refl _).drewN _)).nw) HZ.out).mono ?_
            rintro _ _ ⟨rfl, rfl⟩
            go_wp2_with fail
            refine (Q.size_ TT.out TF.out (by first | exact S | exact S.pure ((Up.refl _).drew) | exact S.pure ((Up.refl _).drewN _))).mono ?_
            clear S
            rintro _ w41 ⟨rfl, S⟩
            go_wp2_with fail
            refine (Q.bits_ TT.out TF.out (by first | exact S | exact S.pure ((Up.refl _).drew) | exact S.pure ((Up.refl _).drewN _))).mono ?_
            clear S
            rintro _ w42 ⟨v3, rfl, hn3, u3, S⟩
            obtain ⟨A3, m3_, d3_, rfl⟩ := hn3.sl
            clear u3
            have hw := S.nt
            go_wp2_with fail
            refine (bits15_any _ _ _ _ _ _ _ _ _ _ _ _ _ (by first | exact hn3 | exact hn3.up ((Up.refl _).drew) | exact hn3.up ((Up.refl _).drewN _)) (by first | exact hw | exact hw.up ((Up.refl _).drew) | exact hw.up ((Up.refl _).drewN _)) (by decide) (by decide) true (decide_eq_true rfl)).mono ?_
            rintro _ w43 ⟨rfl, u43⟩
            replace S := S.pure (Up.trans (by first | exact Up.refl _ | exact (Up.refl _).drew | exact (Up.refl _).drewN _) u43)
            clear u43 hn3
            clear hw
            go_wp2_with fail
            go_roundw
            case rel => exact ⟨j + 1, _, by go_num, by omega, (by first | exact S | exact S.pure ((Up.refl _).drew) | exact S.pure ((Up.refl _).drewN _))⟩
            case measure => simp [intOf]; omega
          · rw [hw2] at S
            obtain ⟨z, hz⟩ : ∃ z : Int, (M.bits (b1 + 1) : Int) = z := ⟨_, rfl⟩
            have hz2 : ¬ z ≤ (M.qS i : Int) := by
              have h1 := M.bits_lt (b1 + 1)
              have h2 : M.qS i < M.bits (b1 + 1) := M.p2inj (by rw [← hw1]; exact h1)
              omega
            have hz3 : (M.qS i : Int) < z := by omega
            have HZ := Lib.hid (Lib.hid hz)
            clear hw1 hw2 hz
            go_wp2_with fail
            refine (bits_at2 _ _ _ _ _ z (by first | exact S.nt.nw | exact (S.nt.up ((Up.refl _).drew)).nw | exact (S.nt.up ((Up.refl _).drewN _)).nw) HZ.out).mono ?_
            rintro _ _ ⟨rfl, rfl⟩
            go_wp2_with fail
            refine (Q.size_ TT.out TF.out (by first | exact S | exact S.pure ((Up.refl _).drew) | exact S.pure ((Up.refl _).drewN _))).mono ?_
            clear S
            rintro _ w41 ⟨rfl, S⟩
            replace S := S.swap3.drop
            go_wp2_with fail
            refine ((show Sd3 _ _ _ _ _ from by first | exact S | exact S.pure ((Up.refl _).drew) | exact S.pure ((Up.refl _).drewN _)).num (r := fun v => v) (of_lit _ 0 0 rfl (by decide))).mono ?_
            clear S
            rintro _ w42 ⟨v2, rfl, S⟩
            replace S := S.swap3.fit (k := 20) (Nat.pow_pos (by decide))
            obtain ⟨B3, n3, c3, rfl⟩ := S.sl
            go_wp2_with fail
            refine (Q.bits_ TT.out TF.out (by first | exact S | exact S.pure ((Up.refl _).drew) | exact S.pure ((Up.refl _).drewN _))).mono ?_
            clear S
            rintro _ w43 ⟨v3, rfl, hn3, u3, S⟩
            obtain ⟨A3, m3_, d3_, rfl⟩ := hn3.sl
            clear u3
            have hw := S.nt
            go_wp2_with fail
            refine (bits15_any _ _ _ _ _ _ _ _ _ _ _ _ _ (by first | exact hn3 | exact hn3.up ((Up.refl _).drew) | exact hn3.up ((Up.refl _).drewN _)) (by first | exact hw | exact hw.up ((Up.refl _).drew) | exact hw.up ((Up.refl _).drewN _)) (by decide) (by decide) true (decide_eq_true rfl)).mono ?_
            rintro _ w44 ⟨rfl, u44⟩
            replace S := S.pure (Up.trans (by first | exact Up.refl _ | exact (Up.refl _).drew | exact (Up.refl _).drewN _) u44)
            clear u44 hn3
            clear hw
            go_wp2_with fail
            go_roundw
            case rel => exact ⟨j + 1, _, by go_num, by omega, (by first | exact S | exact S.pure ((Up.refl _).drew) | exact S.pure ((Up.refl _).drewN _))⟩
            case measure => simp [intOf]; omega
      · obtain rfl : j = L := by omega
        by_cases hn : b1 = M.qn i
        · have HN := Lib.hid hn
          clear hn
          go_wp2_with fail
          refine (Q.nar_ TT.out TF.out (by first | exact S | exact S.pure ((Up.refl _).drew) | exact S.pure ((Up.refl _).drewN _)) true (decide_eq_true HN.out)).mono ?_
          clear S
          rintro _ w61 ⟨rfl, S⟩
          go_wp2_with fail
          go_ret
          exact ⟨by first | rfl | simp, by first | exact S.up | exact S.up.drew | exact S.up.drewN _⟩
        · have HN := Lib.hid hn
          clear hn
          go_wp2_with fail
          refine (Q.nar_ TT.out TF.out (by first | exact S | exact S.pure ((Up.refl _).drew) | exact S.pure ((Up.refl _).drewN _)) false (decide_eq_false HN.out)).mono ?_
          clear S
          rintro _ w61 ⟨rfl, S⟩
          go_wp2_with fail
          refine (Q.bits_ TT.out TF.out (by first | exact S | exact S.pure ((Up.refl _).drew) | exact S.pure ((Up.refl _).drewN _))).mono ?_
          clear S
          rintro _ w62 ⟨v3, rfl, hn3, u3, S⟩
          obtain ⟨A3, m3_, d3_, rfl⟩ := hn3.sl
          clear u3
          have hw := S.nt
          go_wp2_with fail
          refine (bits15_any _ _ _ _ _ _ _ _ _ _ _ _ _ (by first | exact hn3 | exact hn3.up ((Up.refl _).drew) | exact hn3.up ((Up.refl _).drewN _)) (by first | exact hw | exact hw.up ((Up.refl _).drew) | exact hw.up ((Up.refl _).drewN _)) (by decide) (by decide) true (decide_eq_true rfl)).mono ?_
          rintro _ w63 ⟨rfl, u63⟩
          replace S := S.pure (Up.trans (by first | exact Up.refl _ | exact (Up.refl _).drew | exact (Up.refl _).drewN _) u63)
          clear u63 hn3
          go_wp2_with fail
          go_ret
          exact ⟨by first | rfl | simp, by first | exact S.up | exact S.up.drew | exact S.up.drewN _⟩
end
end Go.Proofs.YtijpffgocookaaaGreatDoor
