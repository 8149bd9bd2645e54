import Derived.Test.YtcmlanfgafancaaGreatDoorQTKf
import Derived.OwnWalk
import Derived.Deep.RegionHeld3
import Derived.Deep.DrawnRows
import Derived.LoopTactic
import Derived.BigQuiet
import Derived.Test.YtcmlanfgafancaaGreatDoorQTRef7
import Derived.Test.YtcmlanfgafancaaGreatDoorQTZda
set_option maxHeartbeats 32000000
set_option linter.unusedVariables false
set_option linter.unusedSimpArgs false
namespace Go.Proofs.YtcmlanfgafancaaGreatDoor
open Go.RowKit
set_option maxRecDepth 100000 in
theorem radd_any (w : World) (lo lo' S : Nat) (v v' : Value) (a b : Nat) (h : Nw w lo S v a) (h' : Nw w lo' S v' b) (hS : S ≤ 1000000) : Calls Tryz.prog 58 #[v, v'] w (Res (2 * S + 2) (a + b) w) := by
 have C1 := Lib.hid (fun W (U : Up w W) => halves_of W lo S v a (h.up U) (by omega))
 have C2 := Lib.hid (fun W (U : Up w W) => halves_of W lo' S v' b (h'.up U) (by omega))
 obtain ⟨A, n, c, xs, rfl, _⟩ := id h
 obtain ⟨A', n', c', xs', rfl, _⟩ := id h'
 clear h h'
 have U := Up.refl w
 go_enter Tryz.func58, Tryz.ntmps58
 go_wp2_with fail
 refine (C1.out _ U).mono ?_
 rintro _ w1 ⟨v1, rfl, N1, h1⟩
 replace U := U.trans h1
 clear h1
 obtain ⟨B1, m1, d1, ys1, rfl, N1⟩ := N1
 replace N1 : Nh _ _ _ (.slice B1 m1 d1) a := ⟨_, _, _, _, rfl, N1⟩
 go_wp2_with fail
 refine (C2.out _ U).mono ?_
 rintro _ w2 ⟨v2, rfl, N2, h2⟩
 replace U := U.trans h2
 replace N1 := N1.up h2
 clear h2
 obtain ⟨B2, m2, d2, ys2, rfl, N2⟩ := N2
 replace N2 : Nh _ _ _ (.slice B2 m2 d2) b := ⟨_, _, _, _, rfl, N2⟩
 go_wp2_with fail
 refine (plus_of _ _ _ _ _ (2 * S) _ _ _ _ N1 N2 (by omega) (by omega) (by omega)).mono ?_
 rintro _ w3 ⟨v3, rfl, N3, h3⟩
 replace U := U.trans h3
 replace N1 := N1.up h3
 replace N2 := N2.up h3
 clear h3
 clear N1 N2
 obtain ⟨B3, m3, d3, ys3, rfl, N3⟩ := N3
 replace N3 : Nh _ _ _ (.slice B3 m3 d3) _ := ⟨_, _, _, _, rfl, N3⟩
 have U3 := Up.size U
 go_wp2_with fail
 refine (words_of _ _ _ _ _ N3 (by omega)).mono ?_
 rintro _ w4 ⟨v4, rfl, N4, h4⟩
 replace U := U.trans h4
 clear h4
 obtain ⟨B4, m4, d4, rfl, N4⟩ := N4.sl
 clear N3
 go_wp2_with fail
 go_ret
 exact ⟨_, rfl, (N4.more (by omega)).lower U3, U⟩
set_option maxRecDepth 100000 in
theorem rmul_any (w : World) (lo lo' S : Nat) (v v' : Value) (a b : Nat) (h : Nw w lo S v a) (h' : Nw w lo' S v' b) (hS : S ≤ 1000000) : Calls Tryz.prog 53 #[v, v'] w (Res (4 * S + 2) (a * b) w) := by
 have C1 := Lib.hid (fun W (U : Up w W) => halves_of W lo S v a (h.up U) (by omega))
 have C2 := Lib.hid (fun W (U : Up w W) => halves_of W lo' S v' b (h'.up U) (by omega))
 obtain ⟨A, n, c, xs, rfl, _⟩ := id h
 obtain ⟨A', n', c', xs', rfl, _⟩ := id h'
 clear h h'
 have U := Up.refl w
 go_enter Tryz.func53, Tryz.ntmps53
 go_wp2_with fail
 refine (C1.out _ U).mono ?_
 rintro _ w1 ⟨v1, rfl, N1, h1⟩
 replace U := U.trans h1
 clear h1
 obtain ⟨B1, m1, d1, ys1, rfl, N1⟩ := N1
 replace N1 : Nh _ _ _ (.slice B1 m1 d1) a := ⟨_, _, _, _, rfl, N1⟩
 go_wp2_with fail
 refine (C2.out _ U).mono ?_
 rintro _ w2 ⟨v2, rfl, N2, h2⟩
 replace U := U.trans h2
 replace N1 := N1.up h2
 clear h2
 obtain ⟨B2, m2, d2, ys2, rfl, N2⟩ := N2
 replace N2 : Nh _ _ _ (.slice B2 m2 d2) b := ⟨_, _, _, _, rfl, N2⟩
 go_wp2_with fail
 refine (times_of _ _ _ _ _ _ _ _ _ N1 N2 (by omega) (by omega)).mono ?_
 rintro _ w3 ⟨v3, rfl, N3, h3⟩
 replace U := U.trans h3
 replace N1 := N1.up h3
 replace N2 := N2.up h3
 clear h3
 clear N1 N2
 obtain ⟨B3, m3, d3, ys3, rfl, N3⟩ := N3
 replace N3 : Nh _ _ _ (.slice B3 m3 d3) _ := ⟨_, _, _, _, rfl, N3⟩
 have U3 := Up.size U
 go_wp2_with fail
 refine (words_of _ _ _ _ _ N3 (by omega)).mono ?_
 rintro _ w4 ⟨v4, rfl, N4, h4⟩
 replace U := U.trans h4
 clear h4
 obtain ⟨B4, m4, d4, rfl, N4⟩ := N4.sl
 clear N3
 go_wp2_with fail
 go_ret
 exact ⟨_, rfl, (N4.more (by omega)).lower U3, U⟩
def Rdv (s q r : Nat) (w : World) (e : Ending) (w' : World) : Prop := ∃ A n c A' n' c', e = .returned (.tuple #[.slice A n c, .slice A' n' c']) ∧ Nt w' w.heap.size s (.slice A n c) q ∧ Nt w' w.heap.size s (.slice A' n' c') r ∧ Up w w'
set_option maxRecDepth 100000 in
theorem rdiv_any (w : World) (lo lo' S : Nat) (v v' : Value) (a b : Nat) (h : Nw w lo S v a) (h' : Nw w lo' S v' b) (b0 : 0 < b) (hS : S ≤ 100000) : Calls Tryz.prog 99 #[v, v'] w (Rdv (2 * S + 1) (a / b) (a % b) w) := by
 have C1 := Lib.hid (fun W (U : Up w W) => halves_of W lo S v a (h.up U) (by omega))
 have C2 := Lib.hid (fun W (U : Up w W) => halves_of W lo' S v' b (h'.up U) (by omega))
 obtain ⟨A, n, c, xs, rfl, _⟩ := id h
 obtain ⟨A', n', c', xs', rfl, _⟩ := id h'
 clear h h'
 have U := Up.refl w
 go_enter Tryz.func99, Tryz.ntmps99
 go_wp2_with fail
 refine (C1.out _ U).mono ?_
 rintro _ w1 ⟨v1, rfl, N1, h1⟩
 replace U := U.trans h1
 clear h1
 obtain ⟨B1, m1, d1, ys1, rfl, N1⟩ := N1
 replace N1 : Nh _ _ _ (.slice B1 m1 d1) a := ⟨_, _, _, _, rfl, N1⟩
 go_wp2_with fail
 refine (C2.out _ U).mono ?_
 rintro _ w2 ⟨v2, rfl, N2, h2⟩
 replace U := U.trans h2
 replace N1 := N1.up h2
 clear h2
 obtain ⟨B2, m2, d2, ys2, rfl, N2⟩ := N2
 replace N2 : Nh _ _ _ (.slice B2 m2 d2) b := ⟨_, _, _, _, rfl, N2⟩
 go_wp2_with fail
 refine (over_of _ _ _ _ _ _ _ _ _ N1 N2 b0 (by omega) (by omega)).mono ?_
 rintro _ w3 ⟨v3, v3b, rfl, N3, N5, h3⟩
 replace U := U.trans h3
 replace N1 := N1.up h3
 replace N2 := N2.up h3
 clear h3
 clear N1 N2 b0
 obtain ⟨B3, m3, d3, ys3, rfl, N3⟩ := N3
 replace N3 : Nh _ _ _ (.slice B3 m3 d3) _ := ⟨_, _, _, _, rfl, N3⟩
 obtain ⟨B5, m5, d5, ys5, rfl, N5⟩ := N5
 replace N5 : Nh _ _ _ (.slice B5 m5 d5) _ := ⟨_, _, _, _, rfl, N5⟩
 have U3 := Up.size U
 go_wp2_with fail
 refine (words_of _ _ _ _ _ N3 (by omega)).mono ?_
 rintro _ w4 ⟨v4, rfl, N4, h4⟩
 replace U := U.trans h4
 replace N5 := N5.up h4
 clear h4
 obtain ⟨B4, m4, d4, rfl, N4⟩ := N4.sl
 clear N3
 have U4 := Up.size U
 go_wp2_with fail
 refine (words_of _ _ _ _ _ N5 (by omega)).mono ?_
 rintro _ w5 ⟨v6, rfl, N6, h5⟩
 replace U := U.trans h5
 replace N4 := N4.up h5
 clear h5
 obtain ⟨B6, m6, d6, rfl, N6⟩ := N6.sl
 clear N5
 go_wp2_with fail
 go_ret2
 exact ⟨_, _, _, _, _, _, rfl, N4.lower U3, (N6.lower U4), U⟩
set_option maxRecDepth 100000 in
theorem rten_any (w : World) (lo s : Nat) (ng : Bool) (A : Option Addr) (n c : Nat) (k : Int) (a : Nat) (h : Nt w lo s (.slice A n c) a) (a0 : 0 < a) : Calls Tryz.prog 60 #[.bool ng, .slice A n c, .int .i64 k] w (Xe (xv ng (.slice A n c) k k) w) := by
 have hn : 0 < n := by have := h.nil_iff; omega
 have e1 : decide ((n : Int) > 0) = true := decide_eq_true (by omega)
 have e2 : decide (0 < n) = true := decide_eq_true hn
 clear h a0
 cases ng
 ·
  have U := Up.refl w
  go_enter Tryz.func60, Tryz.ntmps60
  go_upto_region 1 with fail
  obtain ⟨V1, hV1, R, uV1⟩ := Ob.nw w 84 #[.bool false, .slice none 0 0, .int .i64 0, .int .i64 0]
  have sV1 : V1.heap.size = w.heap.size + 1 := by rw [← hV1]; exact (Array.size_push _)
  have ltR : w.heap.size ≤ w.heap.size := by have := U.size; omega
  rw [hV1]
  clear hV1
  replace U := U.trans uV1
  clear uV1
  clear sV1
  have glR := R.lt
  go_wp2_with (refine store_ob2 rfl 84 (.tmp 6) (.tmp 16) rfl _ #[.bool false, .slice none 0 0, .int .i64 0, .int .i64 0] #[.bool false, .slice A n c, .int .i64 k, .int .i64 k] rfl rfl 4 (by kernel_rfl) rfl rfl (by simp [Value.oneCell']) w U ltR 84 R ?_; clear U; intro V9 Z9 U ho; clear ho R; have R := Z9; clear Z9)
  obtain ⟨R0, R1, R2, R3⟩ := R.g4
  refine bodyPost_ret (v := xv false (.slice A n c) k k) (by simp [results, Tryz.results60, go_sem, R0, R1, R2, R3]) rfl ?_
  exact ⟨rfl, U⟩
 ·
  have U := Up.refl w
  go_enter Tryz.func60, Tryz.ntmps60
  go_upto_region 1 with fail
  obtain ⟨V1, hV1, R, uV1⟩ := Ob.nw w 84 #[.bool false, .slice none 0 0, .int .i64 0, .int .i64 0]
  have sV1 : V1.heap.size = w.heap.size + 1 := by rw [← hV1]; exact (Array.size_push _)
  have ltR : w.heap.size ≤ w.heap.size := by have := U.size; omega
  rw [hV1]
  clear hV1
  replace U := U.trans uV1
  clear uV1
  clear sV1
  have glR := R.lt
  go_wp2_with (refine store_ob2 rfl 84 (.tmp 6) (.tmp 16) rfl _ #[.bool false, .slice none 0 0, .int .i64 0, .int .i64 0] #[.bool true, .slice A n c, .int .i64 k, .int .i64 k] rfl rfl 4 (by kernel_rfl) rfl rfl (by simp [Value.oneCell']) w U ltR 84 R ?_; clear U; intro V9 Z9 U ho; clear ho R; have R := Z9; clear Z9)
  obtain ⟨R0, R1, R2, R3⟩ := R.g4
  refine bodyPost_ret (v := xv true (.slice A n c) k k) (by simp [results, Tryz.results60, go_sem, R0, R1, R2, R3]) rfl ?_
  exact ⟨rfl, U⟩
def Dz (lo : Nat) (ng : Bool) (D : Nat) (K : Int) (w : World) (e : Ending) (w' : World) : Prop := ∃ A n c, e = .returned (.agg #[.bool ng, .slice A n c, .int .i64 K]) ∧ Nt w' lo 128 (.slice A n c) D ∧ Up w w'
theorem M.tens_step {D j i : Nat} (h : i < j) : D * 10 ^ (j - i) = 10 * (D * 10 ^ (j - (i + 1))) := by
 rw [show j - i = j - (i + 1) + 1 by omega, Nat.pow_succ]
 rw [← Nat.mul_assoc, Nat.mul_comm]
set_option maxRecDepth 100000 in
theorem rstrip_any (w : World) (lo : Nat) (ng : Bool) (A : Option Addr) (n c : Nat) (K : Int) (y : Nat) (h : Nt w lo 128 (.slice A n c) y) (hlo : lo ≤ w.heap.size) (D j : Nat) (hD : D * 10 ^ j = y) (h10 : D % 10 ≠ 0) (jb : j ≤ 10000) (kb : -10000 ≤ K ∧ K ≤ 10000) : Calls Tryz.prog 54 #[.bool ng, .slice A n c, .int .i64 K] w (Dz lo ng D (K + j) w) := by
 have y1 : y < 18446744073709551616 ^ 128 := h.lt128 (by omega)
 have hb : ∀ i, D * 10 ^ (j - i) < 18446744073709551616 ^ 128 := fun i => by
  have a : 10 ^ (j - i) ≤ 10 ^ j := Nat.pow_le_pow_right (by decide) (by omega)
  have b : D * 10 ^ (j - i) ≤ D * 10 ^ j := Nat.mul_le_mul_left D a
  omega
 have HB := Lib.hid hb
 have H10 := Lib.hid h10
 have pos : Hid (∀ i, 0 < D * 10 ^ (j - i)) := Lib.hid (fun i => Nat.mul_pos (by omega) (Nat.pow_pos (by decide)))
 have N0 : Nt w lo 128 (.slice A n c) (D * 10 ^ (j - 0)) := by rw [Nat.sub_zero, hD]; exact h
 have own0 := N0.own_hi (pos.out 0) (Nat.le_refl _)
 have CV := Lib.hid (fun W lo1 lo2 v1 v2 (a : Nat) (N1 : Nt W lo1 128 v1 a) (N2 : Nt W lo2 1 v2 10) => rdiv_any W lo1 lo2 128 v1 v2 a 10 N1.nw (N2.more (by omega)).nw (by omega) (by omega))
 clear h hD h10 hb y1
 have U := Up.refl w
 go_enter Tryz.func54, Tryz.ntmps54
 go_wp2_with fail
 obtain ⟨V1, hV1, R, uV1⟩ := Ob.nw w 44 #[.bool false, .slice none 0 0, .int .i64 0]
 have sV1 : V1.heap.size = w.heap.size + 1 := by rw [← hV1]; exact (Array.size_push _)
 have ltR : w.heap.size ≤ w.heap.size := by have := U.size; omega
 rw [hV1]
 clear hV1
 replace U := U.trans uV1
 clear uV1
 clear sV1
 have glR := R.lt
 replace N0 := N0.up U
 go_loopw [1, 2] (fun dv kv wr => ∃ (i : Nat) (A9 : Option Addr) (n9 c9 : Nat), i ≤ j ∧ dv = .slice A9 n9 c9 ∧ kv = .int .i64 (K + i) ∧ Nt wr lo 128 (.slice A9 n9 c9) (D * 10 ^ (j - i)) ∧ (Value.slice A9 n9 c9).ownBlock ≠ some w.heap.size ∧ Ob wr w.heap.size 44 #[.bool false, .slice none 0 0, .int .i64 0] ∧ Up w wr) (fun _ kv _ => (K + j + 1 - intOf kv).toNat)
 case atStart => exact ⟨0, _, _, _, Nat.zero_le _, rfl, by go_num, N0, own0, R, U⟩
 case round =>
  clear N0 R U
  obtain ⟨i, A9, n9, c9, hi, rfl, rfl, N9, own9, R, U⟩ := hrel
  have n0 : 0 < n9 := by
   have := N9.nil_iff
   have := pos.out i
   omega
  have e1 : decide ((n9 : Int) > 0) = true := decide_eq_true (by omega)
  have e2 : decide (0 < n9) = true := decide_eq_true n0
  clear n0
  go_wp2_with fail
  obtain ⟨V2, hV2⟩ : ∃ V, wr.alloc (.cells #[.int .u64 10] 22) = V := ⟨_, rfl⟩
  have NL : Nt V2 wr.heap.size 1 (.slice (some ⟨wr.heap.size, 0, none⟩) 1 1) 10 := by rw [← hV2]; exact lit1n wr 10 10 rfl (by decide) (by decide)
  have uV2 : Up wr V2 := Up.al hV2
  rw [hV2]
  clear hV2
  replace U := U.trans uV2
  replace R := R.up uV2
  replace N9 := N9.up uV2
  clear uV2
  have lR := R.lt
  have lV : lo ≤ V2.heap.size := by have := Up.size U; omega
  refine (CV.out _ _ _ _ _ _ N9 NL).mono ?_
  rintro _ w3 ⟨Aq, nq, cq, Ar, nr, cr, rfl, Nq, Nr, h3⟩
  replace U := U.trans h3
  replace R := R.up h3
  replace N9 := N9.up h3
  replace NL := NL.up h3
  clear h3
  clear NL
  by_cases e : i = j
  ·
   subst e
   rw [Nat.sub_self, Nat.pow_zero, Nat.mul_one] at Nr N9
   have r0 : 0 < nr := by
    have := Nr.nil_iff
    have := H10.out
    omega
   have e3 : decide ((nr : Int) > 0) = true := decide_eq_true (by omega)
   have e4 : decide (0 < nr) = true := decide_eq_true r0
   clear r0 Nq Nr
   have P9 := pos.out i
   rw [Nat.sub_self, Nat.pow_zero, Nat.mul_one] at P9
   go_upto_region 6 with fail
   go_wp2_with (refine store_ob2 rfl 44 (.tmp 6) (.tmp 27) rfl _ #[.bool false, .slice none 0 0, .int .i64 0] #[.bool ng, .slice A9 n9 c9, .int .i64 (K + i)] rfl rfl 3 (by kernel_rfl) rfl rfl (by simp [Value.oneCell']) w U (Nat.le_refl _) 44 R ?_; clear U; intro V9 Z9 U ho; replace N9 := N9.oth P9 ho own9; clear ho R; have R := Z9; clear Z9)
   obtain ⟨R0, R1, R2⟩ := R.g3
   refine bodyPost_ret (v := .agg #[.bool ng, .slice A9 n9 c9, .int .i64 (K + i)]) (by simp [results, Tryz.results54, go_sem, R0, R1, R2]) rfl ?_
   exact ⟨_, _, _, rfl, N9, U⟩
  ·
   have hlt : i < j := by omega
   have st := M.tens_step (D := D) hlt
   have er : D * 10 ^ (j - i) % 10 = 0 := by omega
   have eq : D * 10 ^ (j - i) / 10 = D * 10 ^ (j - (i + 1)) := by omega
   rw [er] at Nr
   rw [eq] at Nq
   have r0 : nr = 0 := Nr.nil_iff.2 rfl
   subst r0
   have ownq := Nq.own_lo (pos.out (i + 1)) lR
   replace Nq := ((Nq.fit (HB.out (i + 1))).lower lV)
   have wk : IntKind.i64.wrap (K + (i : Int) + 1) = K + (i : Int) + 1 := by simp [IntKind.wrap, IntKind.bits, IntKind.signed]; omega
   clear er eq st Nr N9 e
   go_wp2_with fail
   go_roundw
   case rel => exact ⟨i + 1, _, _, _, hlt, rfl, by go_num, Nq, ownq, R, U⟩
   case measure => simp [intOf]; omega
namespace M
theorem strip_dgs {y D : Nat} {k K : Int} (h : Dgs (sz y k k) D K) (y0 : 0 < y) (hk : -5000 ≤ k) : ∃ j : Nat, D * 10 ^ j = y ∧ K = k + j := by
 obtain ⟨D', j, h1, h2⟩ := strip_ex y y (Nat.le_refl _) y0
 have e : sz D' (k + j) (k + j) = sz y k k := by rw [← h2, sz_one D', sz_pow j k hk, ← Nat.mul_assoc, ← sz_one]
 obtain ⟨rfl, rfl⟩ := ten_uniq (by omega) (by have := h.lo; omega) h1 h.ten (e.trans h.eq.symm)
 exact ⟨j, h2, rfl⟩
end M
theorem Nt.first {w : World} {lo s : Nat} {A : Option Addr} {n c a : Nat} (h : Nt w lo s (.slice A n c) a) (h0 : 0 < a) : 0 < n ∧ ∃ b o x, A = some ⟨b, o, none⟩ ∧ w.cell? ⟨b, o, none⟩ = some (u64 x) ∧ x % 2 = a % 2 := by
 have hn : 0 < n := by have := h.nil_iff; omega
 obtain ⟨A', n', c', xs, e, h1, h2, h3, h4⟩ := h
 cases e
 obtain ⟨b, o, rfl, _, hc⟩ := h1.at_ hn
 have hl := h1.num
 refine ⟨hn, b, o, xs.getD 0 0, rfl, by simpa using (hc 0 hn).1, ?_⟩
 cases xs with
 | nil => simp at hl; omega
 | cons x r =>
  rw [← h2]
  simp [M.val]
  omega
theorem rfloor_bes (w : World) (lo s : Nat) (neg : Bool) (v : Value) (t f : Int) (a : Nat) (h : Nw w lo s v a) (hs : s ≤ 1000) (bt : -5000 ≤ t ∧ t ≤ 5000) (bf : -5000 ≤ f ∧ f ≤ 5000) (k : Int) (bk : -4900 ≤ k ∧ k ≤ 4900) (d : Nat) (z : Int) (hb : M.Bes (M.sz a t f) k d z) :
  Calls Tryz.prog 57 #[xv neg v t f, .int .i64 k] w (Flr 30000 d z w) := by
 obtain ⟨T, hT⟩ : ∃ T : Nat, max 0 (t - k) = (T : Int) := ⟨(max 0 (t - k)).toNat, by omega⟩
 obtain ⟨F, hF⟩ : ∃ F : Nat, max 0 (f - k) = (F : Int) := ⟨(max 0 (f - k)).toNat, by omega⟩
 obtain ⟨T', hT'⟩ : ∃ T : Nat, max 0 (-(t - k)) = (T : Int) := ⟨(max 0 (-(t - k))).toNat, by omega⟩
 obtain ⟨F', hF'⟩ : ∃ F : Nat, max 0 (-(f - k)) = (F : Int) := ⟨(max 0 (-(f - k))).toNat, by omega⟩
 obtain ⟨c, c0, e1, e2⟩ := M.floor_sz (a := a) bt.1 bf.1 (by omega) hT hF hT' hF'
 have hB := M.bes_of c0 (Nat.mul_pos (Nat.pow_pos (by decide)) (M.p2 T')) e1 e2
 obtain ⟨g1, g2⟩ := M.bes_uniq hB hb
 refine (rfloor_any w lo s neg v t f a h (by omega) k (by omega) (by omega) (by omega) T F T' F' (by show _ = _; omega) (by show _ = _; omega) (by show _ = _; omega) (by show _ = _; omega) d _ g1 rfl z g2).mono ?_
 rintro _ w' ⟨v', rfl, h', u⟩
 exact ⟨v', rfl, h'.more (by omega), u⟩
theorem rlog_tp (w : World) (lo s : Nat) (neg : Bool) (A : Option Addr) (n c : Nat) (t f : Int) (a : Nat) (h : Nt w lo s (.slice A n c) a) (a0 : a ≠ 0) (hs : s ≤ 100000) (bt : -3100 ≤ t ∧ t ≤ 3100) (bf : -3100 ≤ f ∧ f ≤ 3100) (K : Int) (ht : M.Tp (M.sz a t f) K) :
  Calls Tryz.prog 56 #[xv neg (.slice A n c) t f] w (Num K w) := by
 have lo' := ht.lo
 have hi := ht.hi
 have h1 := ht.le
 have h2 := ht.lt
 refine rlog_any w lo s neg A n c t f a h hs (by have := h.nil_iff; omega) bt bf K ⟨by omega, hi⟩ (fun k b1 b2 => ?_)
 show M.sz a t f < M.sz 1 k k ↔ K < k
 constructor
 ·intro hlt
  rcases (show K < k ∨ k ≤ K by omega) with e | e
  ·exact e
  ·have := M.sz_mono10 (i := k) (j := K) (by omega) e
   omega
 ·intro hlt
  have := M.sz_mono10 (i := K + 1) (j := k) (by omega) (by omega)
  omega
namespace M
theorem full_fit {m : Nat} {z : Int} (hm : m < 18446744073709551616) (hz : -3000 ≤ z ∧ z ≤ 3000) : m * 2 ^ z.toNat * 5 ^ (-z).toNat < 18446744073709551616 ^ 128 := by
 have cf := c_fit
 have cf5 := c_fit5
 have c3 := c_3064
 obtain ⟨N, hN⟩ : ∃ N, N = 3000 := ⟨_, rfl⟩
 obtain ⟨L, hL⟩ : ∃ L, L = 3064 := ⟨_, rfl⟩
 obtain ⟨F, hF⟩ : ∃ F, 18446744073709551616 ^ 128 = F := ⟨_, rfl⟩
 rw [← hN] at c3 cf5
 rw [← hL] at c3 cf
 rw [hF] at cf cf5 ⊢
 rcases Int.le_total 0 z with c | c
 ·rw [show (-z).toNat = 0 by omega, Nat.pow_zero, Nat.mul_one]
  have a : m * 2 ^ z.toNat ≤ m * 2 ^ N := Nat.mul_le_mul_left m (p2le (by omega))
  have b : m * 2 ^ N < 18446744073709551616 * 2 ^ N := Nat.mul_lt_mul_of_pos_right hm (p2 N)
  omega
 ·rw [show z.toNat = 0 by omega, Nat.pow_zero, Nat.mul_one]
  have a : m * 5 ^ (-z).toNat ≤ m * 5 ^ N := Nat.mul_le_mul_left m (Nat.pow_le_pow_right (by decide) (by omega))
  have b : m * 5 ^ N < 18446744073709551616 * 5 ^ N := Nat.mul_lt_mul_of_pos_right hm (Nat.pow_pos (by decide))
  omega
theorem full_sz {m : Nat} {z : Int} (hz : -3000 ≤ z ∧ z ≤ 3000) : sz (m * 2 ^ z.toNat * 5 ^ (-z).toNat) (-((-z).toNat : Int)) (-((-z).toNat : Int)) = sz m z 0 := by
 rcases Int.le_total 0 z with c | c
 ·rw [show (-z).toNat = 0 by omega, Nat.pow_zero, Nat.mul_one]
  have := sz_two_ m z.toNat 0 (by decide)
  rw [show (0 : Int) + (z.toNat : Int) = z by omega] at this
  exact this
 ·rw [show z.toNat = 0 by omega, Nat.pow_zero, Nat.mul_one]
  have := sz_five_ m (-z).toNat (by omega)
  rw [show -((-z).toNat : Int) = z by omega] at *
  exact this
end M
set_option maxRecDepth 100000 in
theorem rfull11_any (w : World) (i : Nat) (i1 : 1 ≤ i) (i2 : i ≤ 14) (p : Nat) (pb : p < 18446744073709551616) (hp : (p : Int) ≤ M.msk (M.tb i)) (gg : Bool) (m : Nat) (z : Int) (hd : M.Dv (M.tb i) p 2 gg m z) (D : Nat) (K : Int) (hg : M.Dgs (M.sz m z 0) D K) : Calls Tryz.prog 24 #[.int .i64 (i : Int), u64 p] w (Dz w.heap.size gg D K w) := by
 obtain ⟨m0, mb, zb⟩ := M.pt_rng (M.ok i i1 i2) (M.ok2 i i1 i2) (M.ok3 i i1 i2) hp hd
 have CV := Lib.hid (fun W => rdecode_any W (i : Int) p pb 2 gg m z 0 (.inr ⟨i, rfl, i1, i2, .inr ⟨hp, hd, rfl⟩⟩))
 obtain ⟨Z, hZ⟩ : ∃ Z, z.toNat = Z := ⟨_, rfl⟩
 obtain ⟨Y, hY⟩ : ∃ Y, (-z).toNat = Y := ⟨_, rfl⟩
 have hfit := M.full_fit mb zb
 have hsz := M.full_sz (m := m) zb
 rw [hZ, hY] at hfit hsz
 have y0 : 0 < m * 2 ^ Z * 5 ^ Y := Nat.mul_pos (Nat.mul_pos (by omega) (M.p2 Z)) (Nat.pow_pos (by decide))
 obtain ⟨j, hj, hK⟩ := M.strip_dgs (hsz ▸ hg) y0 (by omega)
 have fit1 : Hid (∀ c, c ≤ Z → m * 2 ^ c < 18446744073709551616 ^ 128) := Lib.hid (fun c hc => by
  have a : m * 2 ^ c ≤ m * 2 ^ Z := Nat.mul_le_mul_left m (M.p2le hc)
  have b : m * 2 ^ Z ≤ m * 2 ^ Z * 5 ^ Y := Nat.le_mul_of_pos_right _ (Nat.pow_pos (by decide))
  omega)
 have fit2 : Hid (∀ c, c ≤ Y → m * 2 ^ Z * 5 ^ c < 18446744073709551616 ^ 128) := Lib.hid (fun c hc => by
  have a : m * 2 ^ Z * 5 ^ c ≤ m * 2 ^ Z * 5 ^ Y := Nat.mul_le_mul_left _ (Nat.pow_le_pow_right (by decide) hc)
  omega)
 have CM := Lib.hid (fun W lo1 lo2 v1 v2 (a b : Nat) (N1 : Nt W lo1 128 v1 a) (N2 : Nt W lo2 1 v2 b) => rmul_any W lo1 lo2 128 v1 v2 a b N1.nw (N2.more (by omega)).nw (by omega))
 have CN := Lib.hid (fun W => lit1n W m (m : Int) rfl mb m0)
 have CS := Lib.hid (fun W lo A n c (N : Nt W lo 128 (.slice A n c) (m * 2 ^ Z * 5 ^ Y)) (hlo : lo ≤ W.heap.size) => rstrip_any W lo gg A n c (-(Y : Int)) (m * 2 ^ Z * 5 ^ Y) N hlo D j hj hg.ten (by have := hg.hi; omega) (by omega))
 have HK := Lib.hid hK
 have D0 := Lib.hid (show 0 < D by have := hg.ten; omega)
 have wm : IntKind.u64.wrap (m : Int) = (m : Int) := wrap_u64 rfl mb
 have HZ := Lib.hid hZ
 have HY := Lib.hid hY
 have ZB := Lib.hid zb
 clear hp hd hg i1 i2 pb zb mb m0 hfit hsz y0 hj hK hZ hY
 have U := Up.refl w
 go_enter Tryz.func24, Tryz.ntmps24
 go_wp2_with fail
 obtain ⟨V1, hV1, R, uV1⟩ := Ob.nw w 44 #[.bool false, .slice none 0 0, .int .i64 0]
 have sV1 : V1.heap.size = w.heap.size + 1 := by rw [← hV1]; exact (Array.size_push _)
 have ltR : w.heap.size ≤ w.heap.size := by have := U.size; omega
 rw [hV1]
 clear hV1
 replace U := U.trans uV1
 clear uV1
 clear sV1
 have glR := R.lt
 refine (CV.out _).mono ?_
 rintro _ w2 ⟨rfl, h2⟩
 replace U := U.trans h2
 replace R := R.up h2
 clear h2
 clear CV
 go_upto_region 2 with fail
 have gVR := R.lt
 obtain ⟨V3, hV3, V, uV3⟩ := Ob.nw w2 38 #[.int .i64 2, .bool gg, u64 m, .int .i64 z]
 have sV3 : V3.heap.size = w2.heap.size + 1 := by rw [← hV3]; exact (Array.size_push _)
 have ltV : w.heap.size ≤ w2.heap.size := by have := U.size; omega
 rw [hV3]
 clear hV3
 replace U := U.trans uV3
 replace R := R.up uV3
 clear uV3
 clear sV3
 have glV := V.lt
 obtain ⟨V0, V1, V2, V3, Vf0, Vf1, Vf2, Vf3, Vl⟩ := V.c4
 go_wp2_with fail
 clear V0 Vf0 V1 Vf1 V2 Vf2 V3 Vf3 Vl
 obtain ⟨V9, hV9⟩ : ∃ V, V3.alloc (.cells #[.int .u64 (m : Int)] 22) = V := ⟨_, rfl⟩
 have NL : Nt V9 V3.heap.size 128 (.slice (some ⟨V3.heap.size, 0, none⟩) 1 1) (m * 2 ^ 0) := by rw [← hV9, Nat.pow_zero, Nat.mul_one]; exact (CN.out V3).more (by omega)
 have lR := R.lt
 have uV9 : Up V3 V9 := Up.al hV9
 rw [hV9]
 clear hV9 CN
 replace U := U.trans uV9
 replace R := R.up uV9
 replace V := V.up uV9
 clear uV9
 replace NL := NL.lower (lo' := w.heap.size + 1) (by omega)
 have lV := V.lt
 go_loopw [7, 9] (fun dv iv wr => ∃ (c : Nat) (I : Int) (A9 : Option Addr) (n9 c9 : Nat), c ≤ Z ∧ I + c = z ∧ dv = .slice A9 n9 c9 ∧ iv = .int .i64 I ∧ Nt wr (w.heap.size + 1) 128 (.slice A9 n9 c9) (m * 2 ^ c) ∧ Ob wr w.heap.size 44 #[.bool false, .slice none 0 0, .int .i64 0] ∧ Ob wr (w2.heap.size) 38 #[.int .i64 2, .bool gg, u64 m, .int .i64 z] ∧ Up w wr) (fun _ iv _ => (intOf iv).toNat)
 case atStart => exact ⟨0, z, _, _, _, Nat.zero_le _, by omega, rfl, rfl, NL, R, V, U⟩
 case round =>
  clear NL R V U lV lR
  obtain ⟨c, I, A9, n9, c9, hc, hI, rfl, rfl, N9, R, V, U⟩ := hrel
  by_cases e : c < Z
  ·
   have zb := ZB.out
   have hz := HZ.out
   have f1 : decide (I > 0) = true := decide_eq_true (by omega)
   have f2 : decide (0 < I) = true := decide_eq_true (by omega)
   have w1 : IntKind.i64.wrap (I - 1) = I - 1 := by simp [IntKind.wrap, IntKind.bits, IntKind.signed]; omega
   have hm : Hid (0 ≤ I - 1) := by show _ ≤ _; omega
   have HI := Lib.hid hI
   clear zb hz hI
   go_wp2_with fail
   obtain ⟨V4, hV4⟩ : ∃ V, wr.alloc (.cells #[.int .u64 2] 22) = V := ⟨_, rfl⟩
   have NL : Nt V4 wr.heap.size 1 (.slice (some ⟨wr.heap.size, 0, none⟩) 1 1) 2 := by rw [← hV4]; exact lit1n wr 2 2 rfl (by decide) (by decide)
   have uV4 : Up wr V4 := Up.al hV4
   rw [hV4]
   clear hV4
   replace U := U.trans uV4
   replace R := R.up uV4
   replace V := V.up uV4
   replace N9 := N9.up uV4
   clear uV4
   have lR := R.lt
   refine (CM.out _ _ _ _ _ _ _ N9 NL).mono ?_
   rintro _ w5 ⟨vq, rfl, NQ, h5⟩
   replace U := U.trans h5
   replace R := R.up h5
   replace V := V.up h5
   replace N9 := N9.up h5
   replace NL := NL.up h5
   clear h5
   clear NL N9
   replace NQ := (NQ.fit (by rw [Nat.mul_assoc, ← Nat.pow_succ]; exact fit1.out (c + 1) e)).lower (lo' := w.heap.size + 1) lR
   rw [Nat.mul_assoc, ← Nat.pow_succ] at NQ
   obtain ⟨Aq, nq, cq, rfl, NQ⟩ := NQ.sl
   have HE := Lib.hid e
   clear e hc
   go_wp2_with fail
   go_roundw
   case rel => exact ⟨c + 1, I - 1, _, _, _, HE.out, by have := HI.out; omega, rfl, rfl, NQ, R, V, U⟩
   case measure => have := hm.out; simp [intOf]; omega
  ·
   have ec : c = Z := by omega
   have EC := Lib.hid ec
   have zb := ZB.out
   have hz := HZ.out
   have f1 : decide (I > 0) = false := decide_eq_false (by omega)
   have f2 : decide (0 < I) = false := decide_eq_false (by omega)
   rw [ec] at N9
   clear ec e hc zb hz hI
   obtain ⟨V0, V1, V2, V3, Vf0, Vf1, Vf2, Vf3, Vl⟩ := V.c4
   go_wp2_with fail
   clear V0 Vf0 V1 Vf1 V2 Vf2 V3 Vf3 Vl
   have N8 : Nt wr (w.heap.size + 1) 128 (.slice A9 n9 c9) (m * 2 ^ Z * 5 ^ 0) := by rw [Nat.pow_zero, Nat.mul_one]; exact N9
   clear N9 f1 f2
   go_loopw [7, 8, 10] (fun dv kv iv wr => ∃ (c : Nat) (I J : Int) (A9 : Option Addr) (n9 c9 : Nat), c ≤ Y ∧ I = z + c ∧ J + c = 0 ∧ dv = .slice A9 n9 c9 ∧ kv = .int .i64 J ∧ iv = .int .i64 I ∧ Nt wr (w.heap.size + 1) 128 (.slice A9 n9 c9) (m * 2 ^ Z * 5 ^ c) ∧ Ob wr w.heap.size 44 #[.bool false, .slice none 0 0, .int .i64 0] ∧ Ob wr (w2.heap.size) 38 #[.int .i64 2, .bool gg, u64 m, .int .i64 z] ∧ Up w wr) (fun _ _ iv _ => (-intOf iv).toNat)
   case atStart => exact ⟨0, z, 0, _, _, _, Nat.zero_le _, by omega, by omega, rfl, rfl, rfl, N8, R, V, U⟩
   case round =>
    clear N8 R V U EC
    obtain ⟨c, I, J, A9, n9, c9, hc, hI, hJ, rfl, rfl, rfl, N9, R, V, U⟩ := hrel
    by_cases e : c < Y
    ·
     have zb := ZB.out
     have hy := HY.out
     have f1 : decide (I < 0) = true := decide_eq_true (by omega)
     have w1 : IntKind.i64.wrap (I + 1) = I + 1 := by simp [IntKind.wrap, IntKind.bits, IntKind.signed]; omega
     have w2 : IntKind.i64.wrap (J - 1) = J - 1 := by simp [IntKind.wrap, IntKind.bits, IntKind.signed]; omega
     have hm : Hid (I + 1 ≤ 0) := by show _ ≤ _; omega
     have HI := Lib.hid hI
     have HJ := Lib.hid hJ
     clear zb hy hI hJ
     go_wp2_with fail
     obtain ⟨V6, hV6⟩ : ∃ V, wr.alloc (.cells #[.int .u64 5] 22) = V := ⟨_, rfl⟩
     have NL : Nt V6 wr.heap.size 1 (.slice (some ⟨wr.heap.size, 0, none⟩) 1 1) 5 := by rw [← hV6]; exact lit1n wr 5 5 rfl (by decide) (by decide)
     have uV6 : Up wr V6 := Up.al hV6
     rw [hV6]
     clear hV6
     replace U := U.trans uV6
     replace R := R.up uV6
     replace V := V.up uV6
     replace N9 := N9.up uV6
     clear uV6
     have lR := R.lt
     refine (CM.out _ _ _ _ _ _ _ N9 NL).mono ?_
     rintro _ w7 ⟨vq, rfl, NQ, h7⟩
     replace U := U.trans h7
     replace R := R.up h7
     replace V := V.up h7
     replace N9 := N9.up h7
     replace NL := NL.up h7
     clear h7
     clear NL N9
     replace NQ := (NQ.fit (by rw [Nat.mul_assoc, ← Nat.pow_succ]; exact fit2.out (c + 1) e)).lower (lo' := w.heap.size + 1) lR
     rw [Nat.mul_assoc, ← Nat.pow_succ] at NQ
     obtain ⟨Aq, nq, cq, rfl, NQ⟩ := NQ.sl
     have HE := Lib.hid e
     clear e hc
     go_wp2_with fail
     go_roundw
     case rel => exact ⟨c + 1, I + 1, J - 1, _, _, _, HE.out, by have := HI.out; omega, by have := HJ.out; omega, rfl, rfl, rfl, NQ, R, V, U⟩
     case measure => have := hm.out; simp [intOf]; omega
    ·
     have ec : c = Y := by omega
     have zb := ZB.out
     have hy := HY.out
     have f1 : decide (I < 0) = false := decide_eq_false (by omega)
     have eJ : J = -(Y : Int) := by omega
     subst eJ
     rw [ec] at N9
     clear ec e hc zb hy hI hJ
     have lZ := R.lt
     obtain ⟨V0, V1, V2, V3, Vf0, Vf1, Vf2, Vf3, Vl⟩ := V.c4
     go_wp2_with fail
     clear V0 Vf0 V1 Vf1 V2 Vf2 V3 Vf3 Vl
     refine (CS.out _ _ _ _ _ N9 (by omega)).mono ?_
     rintro _ w8 ⟨AS, nS, cS, rfl, NS, h9⟩
     replace U := U.trans h9
     replace R := R.up h9
     replace V := V.up h9
     clear h9 N9
     go_wp2_with (refine store_ob2 rfl 44 (.tmp 4) (.tmp 44) rfl _ #[.bool false, .slice none 0 0, .int .i64 0] #[.bool gg, .slice AS nS cS, .int .i64 (-(Y : Int) + j)] rfl rfl 3 (by kernel_rfl) rfl rfl (by simp [Value.oneCell']) w U (Nat.le_refl _) 44 R ?_; clear U; intro V9 Z9 U ho; replace NS := Nt.other NS ho (Nat.lt_succ_self _); clear ho R; have R := Z9; clear Z9)
     obtain ⟨R0, R1, R2⟩ := R.g3
     refine bodyPost_ret (v := .agg #[.bool gg, .slice AS nS cS, .int .i64 (-(Y : Int) + j)]) (by simp [results, Tryz.results24, go_sem, R0, R1, R2]) rfl ?_
     exact ⟨_, _, _, by rw [HK.out], NS.lower (Nat.le_succ _), U⟩
end Go.Proofs.YtcmlanfgafancaaGreatDoor
