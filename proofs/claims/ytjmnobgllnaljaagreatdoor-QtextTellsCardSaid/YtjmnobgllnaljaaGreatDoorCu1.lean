/-
  Package qtext: Parse's contract; what is asked of the package holds.
-/
import Derived.Test.YtjmnobgllnaljaaGreatDoorCr
import Derived.Test.YtjmnobgllnaljaaGreatDoorLong
import Derived.StillTailTactics
import Derived.Deep.RegionHeld3
namespace Go.Proofs.YtjmnobgllnaljaaGreatDoor
open Go.RowKit Go.Shelf
set_option linter.unusedVariables false
set_option linter.unusedSimpArgs false

/-- A panic with what is wrong. -/
def Pn16 (x : Int) (w : World) (e : Ending) (w' : World) : Prop := e = .panicked [{ v := .iface 26 (.int .i64 x), recovered := false }] ∧ Up w w'
set_option maxHeartbeats 4000000 in
set_option maxRecDepth 100000 in
theorem qmust_ok (w : World) (x : Int) : Calls Tryz.prog 28 #[.bool true, .int .i64 x] w (fun e w' => e = .returned (.tuple #[]) ∧ w = w') := by
  go_enter Tryz.func28, Tryz.ntmps28
  go_wp2_with fail
  go_end0
  exact ⟨rfl, rfl⟩
set_option maxHeartbeats 4000000 in
set_option maxRecDepth 100000 in
theorem qmust_bad (w : World) (x : Int) : Calls Tryz.prog 28 #[.bool false, .int .i64 x] w (Pn16 x w) := by
  go_enter Tryz.func28, Tryz.ntmps28
  go_wp2_with fail
  exact ⟨rfl, rfl, Up.refl w⟩
set_option maxHeartbeats 4000000 in
set_option maxRecDepth 100000 in
theorem qtms_ok (w : World) (lo s : Nat) (v : Value) (n base : Nat) (k : Int) (h : Nt w lo s v n) (hs : s ≤ 100000) (hb : 1 < base) (hb2 : base < 18446744073709551616) (hk : -5000 ≤ k ∧ k ≤ 5000) (c : Nat) (ht : M.Tms n base k c) : Calls Tryz.prog 53 #[v, u64 base, .int .i64 k] w (Res (s + 5002) c w) := by
  have U := Up.refl w
  obtain ⟨A, nn, cc, rfl, h⟩ := h.slr
  by_cases h0 : 0 ≤ k
  · obtain ⟨K, rfl⟩ : ∃ K : Nat, k = K := ⟨k.toNat, by omega⟩
    obtain rfl := (M.tms_up rfl).1 ht
    have d1 : decide ((K : Int) ≥ 0) = true := decide_eq_true h0
    have d2 : decide (0 ≤ (K : Int)) = true := decide_eq_true h0
    have CP := Lib.hid (fun W => pow_any W base K (K : Int) hb2 (by omega))
    have CM := Lib.hid (fun W (u : Up w W) lo' v' (N : Nt W lo' (K + 1) v' (base ^ K)) => mul_any W lo lo' s (K + 1) _ v' n (base ^ K) (h.up u).nw N.nw (by omega) (by omega))
    clear h ht
    go_enter Tryz.func53, Tryz.ntmps53
    go_wp2_with fail
    refine (CP.out _).mono ?_
    rintro _ w1 ⟨v1, rfl, N1, u1⟩
    replace U := Up.trans (by first | exact U | exact U.drew | exact U.drewN _) u1
    clear u1
    go_wp2_with fail
    refine (CM.out _ (by first | exact U | exact U.drew | exact U.drewN _) _ _ (by first | exact N1 | exact N1.up ((Up.refl _).drew) | exact N1.up ((Up.refl _).drewN _))).mono ?_
    rintro _ w2 ⟨v2, rfl, N2, u2⟩
    have N3 := N2.lower (lo' := w.heap.size) (Up.size (by first | exact U | exact U.drew | exact U.drewN _))
    replace U := Up.trans (by first | exact U | exact U.drew | exact U.drewN _) u2
    go_wp2_with fail
    go_ret
    exact ⟨_, rfl, N3.more (by omega), by first | exact U | exact U.drew | exact U.drewN _⟩
  · obtain ⟨D, rfl⟩ : ∃ D : Nat, k = -(D : Int) := ⟨(-k).toNat, by omega⟩
    have ht1 := (M.tms_down rfl).1 ht
    have d1 : decide (-(D : Int) ≥ 0) = false := decide_eq_false h0
    have d2 : decide (0 ≤ -(D : Int)) = false := decide_eq_false h0
    have d3 : - -(D : Int) = (D : Int) := by omega
    have hp : 0 < base ^ D := Nat.pow_pos (by omega)
    have CP := Lib.hid (fun W => pow_any W base D (D : Int) hb2 (by omega))
    have CD := Lib.hid (fun W (u : Up w W) lo' v' (N : Nt W lo' (D + 1) v' (base ^ D)) => div_any W lo lo' s (D + 1) _ v' n (base ^ D) (h.up u).nw N.nw hp (by omega))
    have q1 : n / base ^ D = c := by rw [← ht1, Nat.mul_div_cancel _ hp]
    have q2 : n % base ^ D = 0 := by rw [← ht1, Nat.mul_mod_left]
    rw [q1, q2] at CD
    have CB := Lib.hid (fun W lo' v' (N : Nt W lo' (s + 1) v' 0) => bits_at2 W lo' (s + 1) v' 0 0 N.nw (Lib.hid rfl))
    clear h ht ht1 q1 q2 hp
    go_enter Tryz.func53, Tryz.ntmps53
    go_wp2_with fail
    refine (CP.out _).mono ?_
    rintro _ w1 ⟨v1, rfl, N1, u1⟩
    replace U := Up.trans (by first | exact U | exact U.drew | exact U.drewN _) u1
    clear u1
    go_wp2_with fail
    refine (CD.out _ (by first | exact U | exact U.drew | exact U.drewN _) _ _ (by first | exact N1 | exact N1.up ((Up.refl _).drew) | exact N1.up ((Up.refl _).drewN _))).mono ?_
    rintro _ w2 ⟨v2, v3, rfl, N2, N3, u2⟩
    obtain ⟨A2, n2, c2, rfl, N2⟩ := N2.slr
    obtain ⟨A3, n3, c3, rfl, N3⟩ := N3.slr
    replace N2 := N2.lower (lo' := w.heap.size) (Up.size (by first | exact U | exact U.drew | exact U.drewN _))
    replace U := Up.trans (by first | exact U | exact U.drew | exact U.drewN _) u2
    clear u2 N1
    go_wp2_with fail
    refine (CB.out _ _ _ (by first | exact N3 | exact N3.up ((Up.refl _).drew) | exact N3.up ((Up.refl _).drewN _))).mono ?_
    rintro _ w3 ⟨rfl, hw3⟩
    replace U : Up w w3 := by rw [← hw3]; first | exact U | exact U.drew | exact U.drewN _
    replace N2 : Nt w3 w.heap.size (s + 1) (.slice A2 n2 c2) c := by rw [← hw3]; first | exact N2 | exact N2.up ((Up.refl _).drew) | exact N2.up ((Up.refl _).drewN _)
    clear hw3 N3
    go_wp2_with fail
    refine (qmust_ok _ _).mono ?_
    rintro _ w4 ⟨rfl, hw4⟩
    replace U : Up w w4 := by rw [← hw4]; first | exact U | exact U.drew | exact U.drewN _
    replace N2 : Nt w4 w.heap.size (s + 1) (.slice A2 n2 c2) c := by rw [← hw4]; first | exact N2 | exact N2.up ((Up.refl _).drew) | exact N2.up ((Up.refl _).drewN _)
    clear hw4
    go_wp2_with fail
    go_ret
    exact ⟨_, rfl, (by first | exact N2 | exact N2.up ((Up.refl _).drew) | exact N2.up ((Up.refl _).drewN _) : Nt _ _ (s + 1) _ _).more (by omega), by first | exact U | exact U.drew | exact U.drewN _⟩
set_option maxHeartbeats 4000000 in
set_option maxRecDepth 100000 in
theorem qtms_bad (w : World) (lo s : Nat) (v : Value) (n base : Nat) (k : Int) (h : Nt w lo s v n) (hs : s ≤ 100000) (hb : 1 < base) (hb2 : base < 18446744073709551616) (hk : -5000 ≤ k ∧ k ≤ 5000) (ht : ∀ c, ¬ M.Tms n base k c) : Calls Tryz.prog 53 #[v, u64 base, .int .i64 k] w (Pn16 8 w) := by
  have U := Up.refl w
  obtain ⟨A, nn, cc, rfl, h⟩ := h.slr
  by_cases h0 : 0 ≤ k
  · obtain ⟨K, rfl⟩ : ∃ K : Nat, k = K := ⟨k.toNat, by omega⟩
    exact absurd ((M.tms_up rfl).2 rfl) (ht (n * base ^ K))
  · obtain ⟨D, rfl⟩ : ∃ D : Nat, k = -(D : Int) := ⟨(-k).toNat, by omega⟩
    have d1 : decide (-(D : Int) ≥ 0) = false := decide_eq_false h0
    have d2 : decide (0 ≤ -(D : Int)) = false := decide_eq_false h0
    have d3 : - -(D : Int) = (D : Int) := by omega
    have hp : 0 < base ^ D := Nat.pow_pos (by omega)
    have CP := Lib.hid (fun W => pow_any W base D (D : Int) hb2 (by omega))
    have CD := Lib.hid (fun W (u : Up w W) lo' v' (N : Nt W lo' (D + 1) v' (base ^ D)) => div_any W lo lo' s (D + 1) _ v' n (base ^ D) (h.up u).nw N.nw hp (by omega))
    obtain ⟨R, hR⟩ : ∃ R, n % base ^ D = R := ⟨_, rfl⟩
    have hR0 : R ≠ 0 := by
      intro e
      rw [e] at hR
      refine ht (n / base ^ D) ((M.tms_down rfl).2 ?_)
      have := Nat.div_add_mod n (base ^ D)
      rw [hR, Nat.mul_comm] at this
      exact this
    rw [hR] at CD
    obtain ⟨B, hB⟩ : ∃ B : Int, (M.bits R : Int) = B := ⟨_, rfl⟩
    have hB0 : 0 < B := by rw [← hB]; have := M.bits_pos hR0; omega
    have hB1 : (B == 0) = false := by rw [beq_eq_false_iff_ne]; omega
    have CB := Lib.hid (fun W lo' v' (N : Nt W lo' (s + 1) v' R) => bits_at2 W lo' (s + 1) v' R B N.nw (Lib.hid hB))
    clear h ht hp hR hR0 hB
    go_enter Tryz.func53, Tryz.ntmps53
    go_wp2_with fail
    refine (CP.out _).mono ?_
    rintro _ w1 ⟨v1, rfl, N1, u1⟩
    replace U := Up.trans (by first | exact U | exact U.drew | exact U.drewN _) u1
    clear u1
    go_wp2_with fail
    refine (CD.out _ (by first | exact U | exact U.drew | exact U.drewN _) _ _ (by first | exact N1 | exact N1.up ((Up.refl _).drew) | exact N1.up ((Up.refl _).drewN _))).mono ?_
    rintro _ w2 ⟨v2, v3, rfl, N2, N3, u2⟩
    obtain ⟨A2, n2, c2, rfl, N2⟩ := N2.slr
    obtain ⟨A3, n3, c3, rfl, N3⟩ := N3.slr
    replace N2 := N2.lower (lo' := w.heap.size) (Up.size (by first | exact U | exact U.drew | exact U.drewN _))
    replace U := Up.trans (by first | exact U | exact U.drew | exact U.drewN _) u2
    clear u2 N1
    go_wp2_with fail
    refine (CB.out _ _ _ (by first | exact N3 | exact N3.up ((Up.refl _).drew) | exact N3.up ((Up.refl _).drewN _))).mono ?_
    rintro _ w3 ⟨rfl, hw3⟩
    replace U : Up w w3 := by rw [← hw3]; first | exact U | exact U.drew | exact U.drewN _
    replace N2 : Nt w3 w.heap.size (s + 1) (.slice A2 n2 c2) (n / base ^ D) := by rw [← hw3]; first | exact N2 | exact N2.up ((Up.refl _).drew) | exact N2.up ((Up.refl _).drewN _)
    clear hw3 N3
    go_wp2_with fail
    refine (qmust_bad _ _).mono ?_
    rintro _ w4 ⟨rfl, u4⟩
    exact ⟨rfl, rfl, Up.trans (by first | exact U | exact U.drew | exact U.drewN _) u4⟩
set_option maxHeartbeats 4000000 in
set_option maxRecDepth 100000 in
theorem qnum_ok (w : World) (EW : Hid (ErrW w)) (s : ByteArray) (l : List UInt8) (hl : s.data.toList = l) (hs : s.size ≤ 1000000) (ng : Bool) (d : Nat) (kk bg : Int) (ct : Bool) (hn : M.Isn l ng ⟨d, kk, bg, ct⟩) :
    Calls Tryz.prog 29 #[.string s] w (fun e w' => ∃ A n c, e = .returned (itv 1 ng (.slice A n c) kk bg ct) ∧ Nt w' w.heap.size 2001 (.slice A n c) d ∧ Up w w') := by
  have U := Up.refl w
  have hr := Lib.hid (M.isn_rs hn)
  clear hn
  go_enter Tryz.func29, Tryz.ntmps29
  go_upto_region 1 with fail
  obtain ⟨V1, hV1⟩ : ∃ V1, w.alloc (.cells #[.int .i64 0, .bool false, .slice none 0 0, .int .i64 0, .int .i64 0, .bool false] 51) = V1 := ⟨_, rfl⟩
  have R : Ob V1 w.heap.size 51 #[.int .i64 0, .bool false, .slice none 0 0, .int .i64 0, .int .i64 0, .bool false] := by rw [← hV1]; exact Ob.mk_ _ _ _
  replace U : Up w V1 := by rw [← hV1]; exact U.alloc _
  rw [hV1]
  clear hV1
  obtain ⟨c, W, hcv, S, uW⟩ := conv_str V1 s l hl (by omega)
  replace U := U.trans uW
  replace R := R.up uW
  have gR := R.lt
  obtain ⟨g, hg⟩ : ∃ g, V1.heap.size = g := ⟨_, rfl⟩
  rw [hg] at hcv S
  obtain ⟨n, hn⟩ : ∃ n, s.size = n := ⟨_, rfl⟩
  rw [hn] at hcv S hs
  have CS := Lib.hid (scan_val W (Lib.hid (EW.out.up U)) _ n c l S (by omega) _ 0 0 hr 1 ng d kk bg ct 0 rfl rfl rfl rfl)
  clear hr
  clear S hn hg uW hl
  go_wp2_with fail
  refine CS.out.mono ?_
  rintro _ V2 ⟨A2, n2, c2, xs2, rfl, h1, h2, h3, h4, u2⟩
  have N2 := wd_nt h1 h2 h3 h4
  replace N2 := N2.lower (lo' := W.heap.size) (by first | exact Nat.le_refl _ | (show W.heap.size ≤ W.drew.heap.size; exact Nat.le_refl _))
  replace U := Up.trans (by first | exact U | exact U.drew | exact U.drewN _) u2
  replace R := R.up (Up.trans (by first | exact Up.refl _ | exact (Up.refl _).drew | exact (Up.refl _).drewN _) u2)
  clear CS u2 hcv h1 h2 h3 h4
  have g2 : w.heap.size < V2.heap.size := R.lt
  go_upto_region 2 with (refine store_ob rfl 51 (.tmp 3) (.tmp 10) rfl _ #[.int .i64 0, .bool false, .slice none 0 0, .int .i64 0, .int .i64 0, .bool false] #[.int .i64 1, .bool ng, .slice A2 n2 c2, .int .i64 kk, .int .i64 bg, .bool ct] rfl rfl 6 (by kernel_rfl) rfl rfl (by simp [Value.oneCell']) V2 ((Up.refl _).alloc _) (Nat.le_refl _) 51 (Ob.mk_ _ _ _) ?_; intro V3 P u3)
  replace U := U.trans u3
  replace R := R.up u3
  replace N2 := N2.up u3
  clear u3
  obtain ⟨p0, p1, p2, p3, p4, p5⟩ := P.six
  go_wp2_with fail
  refine (qmust_ok _ _).mono ?_
  rintro _ w4 ⟨rfl, hw4⟩
  have u4 : Up V3 w4 := by rw [← hw4]; first | exact Up.refl _ | exact (Up.refl _).drew | exact (Up.refl _).drewN _
  replace U := U.trans u4
  replace R := R.up u4
  replace N2 := N2.up u4
  replace P := P.up u4
  clear u4 hw4 p0 p1 p2 p3 p4 p5
  obtain ⟨p0, p1, p2, p3, p4, p5⟩ := P.six
  go_wp2_with (refine store_ob2 rfl 51 (.tmp 2) (.tmp 21) rfl _ #[.int .i64 0, .bool false, .slice none 0 0, .int .i64 0, .int .i64 0, .bool false] #[.int .i64 1, .bool ng, .slice A2 n2 c2, .int .i64 kk, .int .i64 bg, .bool ct] rfl rfl 6 (by kernel_rfl) rfl rfl (by simp [Value.oneCell']) w U (Nat.le_refl _) 51 R ?_; clear U; intro V9 Z9 U ho)
  obtain ⟨z0, z1, z2, z3, z4, z5⟩ := Z9.six
  refine bodyPost_ret (v := itv 1 ng (.slice A2 n2 c2) kk bg ct) (by simp [results, Tryz.results29, go_sem, z0, z1, z2, z3, z4, z5]) rfl ?_
  exact ⟨_, _, _, rfl, (N2.other ho gR).lower (by omega), U⟩
set_option maxHeartbeats 4000000 in
set_option maxRecDepth 100000 in
theorem qnum_bad (w : World) (EW : Hid (ErrW w)) (s : ByteArray) (l : List UInt8) (hl : s.data.toList = l) (hs : s.size ≤ 1000000) (hn : ∀ ng n, ¬ M.Isn l ng n) :
    Calls Tryz.prog 29 #[.string s] w (Pn16 2 w) := by
  have U := Up.refl w
  obtain ⟨⟨r, j, er⟩, hr⟩ : ∃ q, M.rs l = q := ⟨_, rfl⟩
  have hk : er ≠ 0 ∨ (er = 0 ∧ ((r.kind : Nat) : Int) ≠ 1) := by
    by_cases h0 : er = 0
    · exact .inr ⟨h0, fun h1 => hn _ _ (M.isn_of_rs hr ⟨h0, by omega⟩)⟩
    · exact .inl h0
  obtain ⟨K, hK⟩ : ∃ K : Int, (r.kind : Int) = K := ⟨_, rfl⟩
  obtain ⟨I, hI⟩ : ∃ I : Int, (j : Int) = I := ⟨_, rfl⟩
  have CS0 := Lib.hid (fun W (u : Up w W) A n c (S : Sb W A n c l) (h : n ≤ 100000000) => scan_val W (Lib.hid (EW.out.up u)) A n c l S h r j er (Lib.hid hr) K r.neg r.n.d r.n.k r.n.big r.n.cut I hK rfl rfl hI)
  rw [hK] at hk
  generalize r.neg = ng, r.n.d = d, r.n.k = kk, r.n.big = bg, r.n.cut = ct at CS0
  clear hr hK hI hn EW
  rcases hk with hk | ⟨rfl, hk⟩
  · have e1 : (er == 0) = false := beq_eq_false_iff_ne.2 hk
    clear hk
    go_enter Tryz.func29, Tryz.ntmps29
    go_upto_region 1 with fail
    obtain ⟨V1, hV1⟩ : ∃ V1, w.alloc (.cells #[.int .i64 0, .bool false, .slice none 0 0, .int .i64 0, .int .i64 0, .bool false] 51) = V1 := ⟨_, rfl⟩
    have R : Ob V1 w.heap.size 51 #[.int .i64 0, .bool false, .slice none 0 0, .int .i64 0, .int .i64 0, .bool false] := by rw [← hV1]; exact Ob.mk_ _ _ _
    replace U : Up w V1 := by rw [← hV1]; exact U.alloc _
    rw [hV1]
    clear hV1
    obtain ⟨c, W, hcv, S, uW⟩ := conv_str V1 s l hl (by omega)
    replace U := U.trans uW
    replace R := R.up uW
    have gR := R.lt
    obtain ⟨g, hg⟩ : ∃ g, V1.heap.size = g := ⟨_, rfl⟩
    rw [hg] at hcv S
    obtain ⟨n, hn⟩ : ∃ n, s.size = n := ⟨_, rfl⟩
    rw [hn] at hcv S hs
    have CS := Lib.hid (CS0.out W U _ n c S (by omega))
    clear CS0
    clear S hn hg uW hl
    go_wp2_with fail
    refine CS.out.mono ?_
    rintro _ V2 ⟨A2, n2, c2, xs2, rfl, h1, h2, h3, h4, u2⟩
    have N2 := wd_nt h1 h2 h3 h4
    replace N2 := N2.lower (lo' := W.heap.size) (by first | exact Nat.le_refl _ | (show W.heap.size ≤ W.drew.heap.size; exact Nat.le_refl _))
    replace U := Up.trans (by first | exact U | exact U.drew | exact U.drewN _) u2
    replace R := R.up (Up.trans (by first | exact Up.refl _ | exact (Up.refl _).drew | exact (Up.refl _).drewN _) u2)
    clear CS u2 hcv h1 h2 h3 h4
    have g2 : w.heap.size < V2.heap.size := R.lt
    go_upto_region 2 with (refine store_ob rfl 51 (.tmp 3) (.tmp 10) rfl _ #[.int .i64 0, .bool false, .slice none 0 0, .int .i64 0, .int .i64 0, .bool false] #[.int .i64 K, .bool ng, .slice A2 n2 c2, .int .i64 kk, .int .i64 bg, .bool ct] rfl rfl 6 (by kernel_rfl) rfl rfl (by simp [Value.oneCell']) V2 ((Up.refl _).alloc _) (Nat.le_refl _) 51 (Ob.mk_ _ _ _) ?_; intro V3 P u3)
    replace U := U.trans u3
    replace R := R.up u3
    replace N2 := N2.up u3
    clear u3
    obtain ⟨p0, p1, p2, p3, p4, p5⟩ := P.six
    go_wp2_with fail
    refine (qmust_bad _ _).mono ?_
    rintro _ w4 ⟨rfl, u4⟩
    exact ⟨rfl, rfl, Up.trans (by first | exact U | exact U.drew | exact U.drewN _) u4⟩
  · have e1 : (K == 1) = false := beq_eq_false_iff_ne.2 hk
    clear hk
    go_enter Tryz.func29, Tryz.ntmps29
    go_upto_region 1 with fail
    obtain ⟨V1, hV1⟩ : ∃ V1, w.alloc (.cells #[.int .i64 0, .bool false, .slice none 0 0, .int .i64 0, .int .i64 0, .bool false] 51) = V1 := ⟨_, rfl⟩
    have R : Ob V1 w.heap.size 51 #[.int .i64 0, .bool false, .slice none 0 0, .int .i64 0, .int .i64 0, .bool false] := by rw [← hV1]; exact Ob.mk_ _ _ _
    replace U : Up w V1 := by rw [← hV1]; exact U.alloc _
    rw [hV1]
    clear hV1
    obtain ⟨c, W, hcv, S, uW⟩ := conv_str V1 s l hl (by omega)
    replace U := U.trans uW
    replace R := R.up uW
    have gR := R.lt
    obtain ⟨g, hg⟩ : ∃ g, V1.heap.size = g := ⟨_, rfl⟩
    rw [hg] at hcv S
    obtain ⟨n, hn⟩ : ∃ n, s.size = n := ⟨_, rfl⟩
    rw [hn] at hcv S hs
    have CS := Lib.hid (CS0.out W U _ n c S (by omega))
    clear CS0
    clear S hn hg uW hl
    go_wp2_with fail
    refine CS.out.mono ?_
    rintro _ V2 ⟨A2, n2, c2, xs2, rfl, h1, h2, h3, h4, u2⟩
    have N2 := wd_nt h1 h2 h3 h4
    replace N2 := N2.lower (lo' := W.heap.size) (by first | exact Nat.le_refl _ | (show W.heap.size ≤ W.drew.heap.size; exact Nat.le_refl _))
    replace U := Up.trans (by first | exact U | exact U.drew | exact U.drewN _) u2
    replace R := R.up (Up.trans (by first | exact Up.refl _ | exact (Up.refl _).drew | exact (Up.refl _).drewN _) u2)
    clear CS u2 hcv h1 h2 h3 h4
    have g2 : w.heap.size < V2.heap.size := R.lt
    go_upto_region 2 with (refine store_ob rfl 51 (.tmp 3) (.tmp 10) rfl _ #[.int .i64 0, .bool false, .slice none 0 0, .int .i64 0, .int .i64 0, .bool false] #[.int .i64 K, .bool ng, .slice A2 n2 c2, .int .i64 kk, .int .i64 bg, .bool ct] rfl rfl 6 (by kernel_rfl) rfl rfl (by simp [Value.oneCell']) V2 ((Up.refl _).alloc _) (Nat.le_refl _) 51 (Ob.mk_ _ _ _) ?_; intro V3 P u3)
    replace U := U.trans u3
    replace R := R.up u3
    replace N2 := N2.up u3
    clear u3
    obtain ⟨p0, p1, p2, p3, p4, p5⟩ := P.six
    go_wp2_with fail
    refine (qmust_bad _ _).mono ?_
    rintro _ w4 ⟨rfl, u4⟩
    exact ⟨rfl, rfl, Up.trans (by first | exact U | exact U.drew | exact U.drewN _) u4⟩
set_option maxHeartbeats 4000000 in
set_option maxRecDepth 100000 in
theorem qwhole_cut (w : World) (lo : Nat) (K : Int) (ng : Bool) (A : Option Addr) (n c d : Nat) (k bg : Int) (ct : Bool) (e : Int) (h : Nt w lo 2001 (.slice A n c) d) (hc : bg ≠ 0 ∨ ct = true) : Calls Tryz.prog 30 #[itv K ng (.slice A n c) k bg ct, .int .i64 e] w (Pn16 8 w) := by
  have U := Up.refl w
  rcases (show bg ≠ 0 ∨ (bg = 0 ∧ ct = true) by
    rcases hc with h | h
    · exact .inl h
    · by_cases h0 : bg = 0
      · exact .inr ⟨h0, h⟩
      · exact .inl h0) with hb | ⟨rfl, rfl⟩
  · have e1 : (bg == 0) = false := beq_eq_false_iff_ne.2 hb
    clear hb hc
    go_enter Tryz.func30, Tryz.ntmps30
    go_upto_region 1 with fail
    obtain ⟨V, hV⟩ : ∃ V, w.alloc (.cells #[.int .i64 K, .bool ng, .slice A n c, .int .i64 k, .int .i64 bg, .bool ct] 51) = V := ⟨_, rfl⟩
    have R : Ob V w.heap.size 51 #[.int .i64 K, .bool ng, .slice A n c, .int .i64 k, .int .i64 bg, .bool ct] := by rw [← hV]; exact Ob.mk_ _ _ _
    replace U : Up w V := by rw [← hV]; exact U.alloc _
    rw [hV]
    clear hV
    obtain ⟨p0, p1, p2, p3, p4, p5⟩ := R.six
    go_wp2_with fail
    refine (qmust_bad _ _).mono ?_
    rintro _ w4 ⟨rfl, u4⟩
    exact ⟨rfl, rfl, Up.trans (by first | exact U | exact U.drew | exact U.drewN _) u4⟩
  · clear hc
    go_enter Tryz.func30, Tryz.ntmps30
    go_upto_region 1 with fail
    obtain ⟨V, hV⟩ : ∃ V, w.alloc (.cells #[.int .i64 K, .bool ng, .slice A n c, .int .i64 k, .int .i64 0, .bool true] 51) = V := ⟨_, rfl⟩
    have R : Ob V w.heap.size 51 #[.int .i64 K, .bool ng, .slice A n c, .int .i64 k, .int .i64 0, .bool true] := by rw [← hV]; exact Ob.mk_ _ _ _
    replace U : Up w V := by rw [← hV]; exact U.alloc _
    rw [hV]
    clear hV
    obtain ⟨p0, p1, p2, p3, p4, p5⟩ := R.six
    go_wp2_with fail
    refine (qmust_bad _ _).mono ?_
    rintro _ w4 ⟨rfl, u4⟩
    exact ⟨rfl, rfl, Up.trans (by first | exact U | exact U.drew | exact U.drewN _) u4⟩
set_option maxHeartbeats 4000000 in
set_option maxRecDepth 100000 in
theorem qwhole_ok (w : World) (lo : Nat) (K : Int) (ng : Bool) (A : Option Addr) (n c d : Nat) (k bg : Int) (ct : Bool) (e : Int) (h : Nt w lo 2001 (.slice A n c) d) (hbg : bg = 0) (hct : ct = false) (hk : -3000 ≤ k ∧ k ≤ 1000) (he : -1200 ≤ e ∧ e ≤ 1200) (a b0 : Nat) (ha : M.Tms d 5 k a) (hb0 : M.Tms a 2 (k - e) b0) : Calls Tryz.prog 30 #[itv K ng (.slice A n c) k bg ct, .int .i64 e] w (Res 12005 b0 w) := by
  have U := Up.refl w
  subst hbg hct
  have hw1 : IntKind.i64.wrap (k - e) = k - e := wrap_small (by omega)
  have C1 := Lib.hid (fun W (u : Up w W) => show Calls Tryz.prog 53 #[.slice A n c, .int .u64 5, .int .i64 k] W (Res (2001 + 5002) a W) from qtms_ok W lo 2001 _ d 5 k (h.up u) (by omega) (by omega) (by omega) (by omega) a ha)
  have C2 := Lib.hid (fun W lo' v' (N : Nt W lo' (2001 + 5002) v' a) => show Calls Tryz.prog 53 #[v', .int .u64 2, .int .i64 (k - e)] W (Res (2001 + 5002 + 5002) b0 W) from qtms_ok W lo' (2001 + 5002) v' a 2 (k - e) N (by omega) (by omega) (by omega) (by omega) b0 hb0)
  clear h ha hb0 hk he
  go_enter Tryz.func30, Tryz.ntmps30
  go_upto_region 1 with fail
  obtain ⟨V, hV⟩ : ∃ V, w.alloc (.cells #[.int .i64 K, .bool ng, .slice A n c, .int .i64 k, .int .i64 0, .bool false] 51) = V := ⟨_, rfl⟩
  have R : Ob V w.heap.size 51 #[.int .i64 K, .bool ng, .slice A n c, .int .i64 k, .int .i64 0, .bool false] := by rw [← hV]; exact Ob.mk_ _ _ _
  replace U : Up w V := by rw [← hV]; exact U.alloc _
  rw [hV]
  clear hV
  obtain ⟨p0, p1, p2, p3, p4, p5⟩ := R.six
  go_wp2_with fail
  refine (qmust_ok _ _).mono ?_
  rintro _ w1 ⟨rfl, hw1⟩
  have u1 : Up V w1 := by rw [← hw1]; first | exact Up.refl _ | exact (Up.refl _).drew | exact (Up.refl _).drewN _
  replace U := U.trans u1
  replace R := R.up u1
  clear u1 hw1 p0 p1 p2 p3 p4 p5
  have p2 := R.get 2
  have p3 := R.get 3
  simp only [List.getElem?_toArray, List.getElem?_cons_zero, List.getElem?_cons_succ] at p2 p3
  obtain ⟨b, hb⟩ : ∃ b, w.heap.size = b := ⟨_, rfl⟩
  rw [hb] at p2 p3
  go_wp2_with fail
  have V0 := Up.refl w1
  go_region_held3 (fun w' => w'.cell? ⟨b, 2, none⟩ = some (.slice A n c) ∧ w'.cell? ⟨b, 3, none⟩ = some (.int .i64 k)) (go_keep) (first
    | (go_at_call 53; (with_reducible refine (C1.out _ (by first | with_reducible assumption | exact U.drew | exact U.drewN _)).mono ?_); rintro _ wA ⟨vA, rfl, NA, hA⟩; obtain ⟨A3, n3, c3, rfl, NA⟩ := NA.slr; have uA : Up w wA := Up.trans (by first | with_reducible assumption | exact U.drew | exact U.drewN _) hA; have vA : Up w1 wA := Up.trans (by first | with_reducible assumption | exact V0.drew | exact V0.drewN _) hA; have p2A := cell_up vA p2; have p3A := cell_up vA p3)
    | (go_at_call 53; (with_reducible refine (C2.out _ _ _ (by first | with_reducible assumption | exact NA.up ((Up.refl _).drew) | exact NA.up ((Up.refl _).drewN _))).mono ?_); rintro _ wB ⟨vB, rfl, NB, hB⟩; have uB : Up w wB := Up.trans (by first | with_reducible assumption | exact uA.drew | exact uA.drewN _) hB; have vB : Up w1 wB := Up.trans (by first | with_reducible assumption | exact vA.drew | exact vA.drewN _) hB; have p2B := cell_up vB p2; have p3B := cell_up vB p3))
  go_wp2_with fail
  go_ret
  exact ⟨_, rfl, (by first | exact NB.lower (by first | exact Nat.le_of_lt (Nat.lt_of_lt_of_le (Nat.lt_succ_self _) (Up.size uA)) | exact Up.size uA | exact Up.size (uA.drewN _)) | exact (NB.up ((Up.refl _).drewN _)).lower (by first | exact Up.size uA | exact Up.size (uA.drewN _))), by first | exact uB | exact uB.drew | exact uB.drewN _⟩
end Go.Proofs.YtjmnobgllnaljaaGreatDoor
