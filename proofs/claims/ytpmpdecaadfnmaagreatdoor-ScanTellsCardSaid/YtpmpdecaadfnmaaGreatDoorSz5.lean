/-
  The walk of ScanTells: true, and nothing that was there has turned.
-/
import Derived.Test.YtpmpdecaadfnmaaGreatDoorSz4
import Derived.Test.YtpmpdecaadfnmaaGreatDoorSw
namespace Go.Proofs.YtpmpdecaadfnmaaGreatDoor
open Go.RowKit Go.Shelf
set_option linter.unusedVariables false

theorem conv_any {w : World} {A : Option Addr} {n c : Nat} {l : List UInt8} (h : Sb w A n c l) (S : ByteArray) (hS : Hid ((⟨l.toArray⟩ : ByteArray) = S)) :
    (convert 22 9 (.slice A n c)).run Tryz.prog w = .ok (.string S) w := by
  rcases Nat.eq_zero_or_pos n with h0 | h0
  · subst h0
    have hl : l = [] := List.eq_nil_of_length_eq_zero h.num
    rw [← hS.out, hl]
    cases A with
    | none =>
      rw [run_convert_bytes_string w 22 9 5 none 0 c Tryz.underlying22 Tryz.underlying5 Tryz.underlying9]
      simp [Conv.bytesToString]
      rfl
    | some ad => exact run_convert_bytes_back w 22 9 5 ad c [] Tryz.underlying22 Tryz.underlying5 Tryz.underlying9 (fun j hj => by simp at hj)
  · exact conv_sb h h0 S hS
theorem rscan_val (w : World) (S : ByteArray) (l : List UInt8) (hS : Hid (S.data.toList = l)) (hl : l.length ≤ 3000) (r : M.It) (i : Nat) (er : Int) (hr : Hid (M.rs l = (r, i, er)))
    (K : Int) (ng : Bool) (d : Nat) (k bg : Int) (ct : Bool) (I : Int) (e1 : (r.kind : Int) = K) (e2 : r.neg = ng) (e3 : r.n = ⟨d, k, bg, ct⟩) (e4 : (i : Int) = I) : Calls Tryz.prog 6 #[.string S] w (Scv K ng d k bg ct I er w) := by
  refine (rscan_any w S l hS hl).mono ?_
  rintro e w' ⟨r', i', er', hr', v, rfl, ⟨A, n, c, xs, rfl, h1, h2, h3, h4⟩, u⟩
  rw [hr.out] at hr'
  injection hr' with q1 q2
  injection q2 with q2 q3
  subst q1; subst q2; subst q3
  exact ⟨A, n, c, xs, by rw [e1, e2, e3, e4], h1, by rw [h2, e3], h3, h4, u⟩

set_option maxHeartbeats 16000000 in
set_option maxRecDepth 100000 in
theorem stells_walk (w : World) (hTW : TabW w) (hEW : ErrW w) (A0 : Option Addr) (n0 c0 : Nat) (l0 : List UInt8) (e0 : Sb w A0 n0 c0 l0) :
    Calls Tryz.prog 3 #[.slice A0 n0 c0] w (True9 w) := by
  obtain ⟨k, hk, hk1, hk2⟩ : ∃ k : Nat, min (n0 : Int) 3000 = (k : Int) ∧ k ≤ n0 ∧ k ≤ 3000 := ⟨min n0 3000, by omega, by omega, by omega⟩
  have hc0 := e0.len
  have hsl := slice_j A0 n0 c0 k (by omega) e0.none_
  obtain ⟨l, hl⟩ : ∃ l, l0.take k = l := ⟨_, rfl⟩
  have HS0 := Lib.hid (show Sb w A0 k c0 l by rw [← hl]; exact e0.take hk1)
  have TW := Lib.hid hTW
  have EW := Lib.hid hEW
  have CH := Lib.hid (shown9_any w TW EW)
  obtain ⟨S, hSS⟩ : ∃ S : ByteArray, (⟨l.toArray⟩ : ByteArray) = S := ⟨_, rfl⟩
  have HSS := Lib.hid hSS
  have HSL : Hid (S.data.toList = l) := by show _ = _; rw [← hSS]
  obtain ⟨r, i, er, hr⟩ : ∃ r i er, M.rs l = (r, i, er) := ⟨_, _, _, rfl⟩
  have HR := Lib.hid hr
  obtain ⟨K, hK⟩ : ∃ K : Int, (r.kind : Int) = K := ⟨_, rfl⟩
  obtain ⟨ng, hng⟩ : ∃ ng, r.neg = ng := ⟨_, rfl⟩
  obtain ⟨d, kk, bg, ct, hnn⟩ : ∃ d kk bg ct, r.n = ⟨d, kk, bg, ct⟩ := ⟨_, _, _, _, rfl⟩
  obtain ⟨I, hI⟩ : ∃ I : Int, (i : Int) = I := ⟨_, rfl⟩
  have HK := Lib.hid hK
  have HNG := Lib.hid hng
  have HNN := Lib.hid hnn
  have HI := Lib.hid hI
  clear hl hTW hEW hSS hr hK hng hnn hI e0
  go_enter Tryz.func3, Tryz.ntmps3
  go_upto_region 2 with (go_at_call 4; refine CH.out.mono ?_; rintro _ w1 ⟨rfl, u1⟩)
  have HL := Lib.hid (show Rb (w1.alloc (.cells #[] 5)) w1.heap.size (.slice (some ⟨w1.heap.size, 0, none⟩) 0 0) [] from World.ownsRow_lit w1 #[] 0 (Nat.le_refl _) (by simp only [maxLen]; omega) rfl)
  have HS2 := Lib.hid (HS0.out.up (u1.alloc (.cells #[] 5)))
  have hk9 : ([] : List UInt8).length + k ≤ 1000000000000 := by simp; omega
  go_upto_region 3 with (at_builtin; go_loud (refine wpList_append_sb _ rfl _ _ 22 rfl info_u8 w1.heap.size Tryz.underlying22 _ [] rfl HL.out _ k _ l rfl HS2.out hk9 (by simp) ?_; intro v2 X2 R2 G2; have uX : Up w1 X2 := Up.grown ((Up.refl w1).alloc _) G2 (fun b hb => (HL.out.lt b hb).1); obtain ⟨B2, m2, k2, rfl, S2, _, _⟩ := R2.sl; clear R2 G2))
  rw [List.nil_append] at S2
  have hm2 : m2 ≤ 3000 := by have := S2.num; have := HS0.out.num; omega
  have HLN := Lib.hid (show l.length ≤ 3000 by have := HS0.out.num; omega)
  have U2 := u1.trans uX
  have hv1 := conv_any S2 S HSS
  have HX := Lib.hid S2
  clear HL HS2 hk9 S2 uX u1 hsl HS0
  go_upto_region 4 with fail
  clear hv1
  have C1 := Lib.hid (scan_val X2 (Lib.hid (EW.out.up U2)) B2 m2 k2 l HX.out (by omega) r i er HR K ng d kk bg ct I HK.out HNG.out HNN.out HI.out)
  go_upto_region 5 with (first | (go_at_call 5; refine C1.out.mono ?_; rintro _ V1 ⟨A1, n1, c1, xs1, rfl, a1, b1, d1, e1, u2⟩) | (refine store_ob rfl 27 (.tmp 5) (.tmp 24) rfl _ #[.int .i64 0, .bool false, .slice none 0 0, .int .i64 0, .int .i64 0, .bool false] #[.int .i64 K, .bool ng, .slice A1 n1 c1, .int .i64 kk, .int .i64 bg, .bool ct] rfl rfl 6 (by kernel_rfl) rfl rfl (by simp [Value.oneCell']) V1 ((Up.refl _).alloc _) (Nat.le_refl _) 27 (Ob.mk_ _ _ _) ?_; intro W1 I1 q1))
  have N1 := (wd_nt a1 b1 d1 e1).up q1
  have u3 := u2.trans q1
  have U3 := U2.trans u3
  have HX3 := Lib.hid (HX.out.up u3)
  clear C1 a1 b1 d1 e1 u2 q1 u3 HX U2
  have C2 := Lib.hid (rscan_val W1 S l HSL HLN.out r i er HR K ng d kk bg ct I HK.out HNG.out HNN.out HI.out)
  go_upto_region 6 with (first | (go_at_call 6; refine C2.out.mono ?_; rintro _ V2 ⟨A2, n2, c2, xs2, rfl, a2, b2, d2, e2, u4⟩) | (refine store_ob rfl 31 (.tmp 8) (.tmp 30) rfl _ #[.int .i64 0, .bool false, .slice none 0 0, .int .i64 0, .int .i64 0, .bool false] #[.int .i64 K, .bool ng, .slice A2 n2 c2, .int .i64 kk, .int .i64 bg, .bool ct] rfl rfl 6 (by kernel_rfl) rfl rfl (by simp [Value.oneCell']) V2 ((Up.refl _).alloc _) (Nat.le_refl _) 31 (Ob.mk_ _ _ _) ?_; intro W2 I2 q2))
  have N2 := (wd_nt a2 b2 d2 e2).up q2
  have u5 := u4.trans q2
  have U4 := U3.trans u5
  have HX4 := Lib.hid (HX3.out.up u5)
  replace I1 := I1.up u5
  replace N1 := N1.up u5
  clear C2 a2 b2 d2 e2 u4 q2 u5 HX3 U3
  have CS := Lib.hid (same_true W2 K ng (.slice A1 n1 c1) (.slice A2 n2 c2) kk bg ct _ _ _ _ d N1.nw N2.nw)
  obtain ⟨i0, i1, i2, i3, i4, i5⟩ := I1.six
  obtain ⟨j0, j1, j2, j3, j4, j5⟩ := I2.six
  have z1 : (I == I) = true := by simp
  have z2 : (er == er) = true := by simp
  clear N1 N2 I1 I2 HK HNG HNN HI HR HSL HLN
  go_wp2_with fail
  refine CS.out.mono ?_
  rintro _ W4 ⟨rfl, u6⟩
  have hv2 := conv_any (HX4.out.up u6) S HSS
  have z3 : (S.toList == S.toList) = true := by simp
  clear i0 i1 i2 i3 i4 i5 j0 j1 j2 j3 j4 j5 CS HX4
  go_wp2_with fail
  go_ret
  exact ⟨rfl, U4.trans u6⟩
end Go.Proofs.YtpmpdecaadfnmaaGreatDoor
