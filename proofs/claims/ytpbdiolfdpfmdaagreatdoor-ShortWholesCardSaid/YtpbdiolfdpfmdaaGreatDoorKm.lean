/-
  The walk of ShortWholes: true, and nothing that was there has turned.
-/
import Derived.Test.YtpbdiolfdpfmdaaGreatDoorKl
import Derived.OwnWalk
namespace Go.Proofs.YtpbdiolfdpfmdaaGreatDoor
open Go.RowKit
set_option linter.unusedSimpArgs false
set_option linter.unusedVariables false

namespace M
theorem two_bias (i : Nat) (i1 : 1 ≤ i) (i2 : i ≤ 14) : (tb i).k = 2 → 1 ≤ (tb i).b := by
  refine all14 (p := fun i => (tb i).k = 2 → 1 ≤ (tb i).b) ?_ ?_ ?_ ?_ ?_ ?_ ?_ ?_ ?_ ?_ ?_ ?_ ?_ ?_ i i1 i2 <;> decide
/-- The boundary behind nought is below one. -/
theorem bd_one {i : Nat} (i1 : 1 ≤ i) (i2 : i ≤ 14) {m : Nat} {z : Int} (hk : (tb i).k = 2 ∨ (tb i).k = 3) (h : Bd (tb i) 0 m z) : m = 1 ∧ z ≤ -1 ∧ -3000 ≤ z := by
  have hz := (bd_z (ok i i1 i2) (ok2 i i1 i2) (ok3 i i1 i2) (k := 0) (by
    obtain ⟨q, hq, q3, _, qt⟩ := mst_rng (ok i i1 i2) (ok2 i i1 i2) (ok3 i i1 i2) false
    omega) h).2.2
  have hb := two_bias i i1 i2
  rcases h with ⟨e, _⟩ | ⟨e, p, hp, hpm, ho, h⟩ | ⟨e, hm, _, rfl, rfl⟩ | ⟨e, _⟩
  · omega
  · have p1 := p2 p
    have h0 : 1 / 2 ^ (p + 1) = 0 := Nat.div_eq_of_lt (by rw [p2s]; omega)
    have h1 : mX (p + 1) (2 * 0 + 1) = 1 := by
      unfold mX
      rw [show 2 * 0 + 1 = 1 from rfl, if_pos h0, Nat.mod_eq_of_lt (by rw [p2s]; omega)]
    have h2 : mS (p + 1) (tb i).b (2 * 0 + 1) = 1 - (tb i).b - ((p + 1 : Nat) : Int) := by
      unfold mS
      rw [show 2 * 0 + 1 = 1 from rfl, if_pos h0]
    rcases h with ⟨g, _⟩ | ⟨g1, t, g2, g3⟩
    · omega
    · rw [h1] at g2
      have q1 : m ≤ m * 2 ^ t := Nat.le_mul_of_pos_right _ (p2 t)
      have q2 : 2 ^ t ≤ m * 2 ^ t := Nat.le_mul_of_pos_left _ (by omega)
      have hm1 : m = 1 := by omega
      have ht : 2 ^ t ≤ 1 := by omega
      have t0 : t = 0 := by
        rcases Nat.eq_zero_or_pos t with e | e
        · exact e
        · have := p2s (t - 1)
          have := p2 (t - 1)
          rw [show t - 1 + 1 = t by omega] at *
          omega
      subst t0
      rw [h2] at g3
      have := hb e
      exact ⟨hm1, by omega, by omega⟩
  · exact ⟨by omega, by have := (ok2 i i1 i2).tri e; omega, by omega⟩
  · omega
/-- A whole number, saturated, is a number that is not nought. -/
theorem whole_fin {i : Nat} (i1 : 1 ≤ i) (i2 : i ≤ 14) {n : Nat} (n0 : n ≠ 0) {p : Int} (h : Rv (tb i) 1 false (sz n 0 0) p) : cls (tb i) p = 2 := by
  have x0 : sz n 0 0 ≠ 0 := fun e => n0 (sz_zero.1 e)
  obtain ⟨_, _, ⟨_, ⟨_, e, _⟩ | ⟨_, e⟩⟩ | ⟨a4, q, k, o, hq, hn, ho, hp, hk, hqt⟩⟩ := rv_class (ok i i1 i2) (ok2 i i1 i2) (ok3 i i1 i2) h
  · rcases e with e | e
    · cases e
    · exact absurd e x0
  · exact absurd (.inl rfl) e
  · obtain ⟨_, _, a1, _⟩ := pat_key (ok i i1 i2) (ok2 i i1 i2) (ok3 i i1 i2) (neg := false) (k := k) (fun e => by cases e.2) (by omega)
    have k0 : k ≠ 0 ∨ (tb i).k = 4 := by
      by_cases e4 : (tb i).k = 4
      · exact .inr e4
      · left
        intro k0
        subst k0
        rcases hn with ⟨_, e, _⟩ | ⟨_, _, hB, h1, _⟩
        · obtain ⟨q', hq', q3, _⟩ := mst_rng (ok i i1 i2) (ok2 i i1 i2) (ok3 i i1 i2) false
          omega
        · by_cases e1 : (tb i).k = 1
          · exact h1 e1 x0 rfl
          · have hk23 : (tb i).k = 2 ∨ (tb i).k = 3 := by
              rcases (ok i i1 i2).k with e | e | e | e <;> omega
            obtain ⟨m, z, hb⟩ := bd_ex (ok i i1 i2) (ok2 i i1 i2) (k := 0) (by omega)
            obtain ⟨rfl, z1, z2⟩ := bd_one i1 i2 hk23 hb
            refine hB ⟨_, ⟨1, z, hb, rfl⟩, .inl ?_⟩
            refine gt_sz (by omega) (by omega) ⟨-z, by omega, by omega, ?_⟩
            rw [show z + -z = 0 by omega, show (0 : Int) + -z = -z by omega]
            have hp : 2 ^ 1 ≤ 2 ^ (-z).toNat := p2le (by omega)
            have : 1 * 2 ^ (-z).toNat ≤ n * 2 ^ (-z).toNat := Nat.mul_le_mul_right _ (by omega)
            simp only [Int.toNat_zero, Nat.pow_zero]
            omega
    rw [hp]
    exact (a1 k0).1
theorem cls_dv {f : Fm} (ok : Ok f) (ok2 : Ok2 f) {p : Int} (p1 : 0 ≤ p) (hp : p ≤ msk f) (h : cls f p = 2) : ∃ g m z, Dv f p 2 g m z := by
  obtain ⟨c, g, m, z, hd⟩ := dv_ex ok ok2 p1 hp
  have : c = 2 := by rcases hd with ⟨a, b, _⟩ | ⟨a, b, _⟩ | ⟨a, b, _⟩ | ⟨a, b, _⟩ <;> omega
  subst this
  exact ⟨g, m, z, hd⟩
end M
set_option maxHeartbeats 16000000 in
set_option maxRecDepth 100000 in
theorem swhole_walk (w : World) (L : Hid (Lk w)) (x0 : Int) (_wx0 : (Lit.int .i64 x0).wf = true) (x1 : Int) (_wx1 : (Lit.int .u64 x1).wf = true)  : Calls Tryz.prog 9 #[.int .i64 x0, .int .u64 x1] w (True11 w) := by
  obtain ⟨x, rfl, xb⟩ := wf_u64 _wx1
  obtain ⟨n, hn⟩ : ∃ n, n = 1 + x % 1000 := ⟨_, rfl⟩
  have n1 : 1 ≤ n := by omega
  have n2 : n ≤ 1000 := by omega
  have en1 : Int.tmod (x : Int) 1000 = ((x % 1000 : Nat) : Int) := by rw [Int.tmod_eq_emod_of_nonneg (by omega)]; omega
  obtain ⟨y, hy⟩ : ∃ y, x % 1000 = y := ⟨_, rfl⟩
  rw [hy] at en1 hn
  have en2 : IntKind.u64.wrap (1 + (y : Int)) = (n : Int) := wrap_u64 (by omega) (by omega)
  have en3 : (1 : Int) + (y : Int) = (n : Int) := by omega
  obtain ⟨pp, xe, hr⟩ := M.rc_ex x0 1 false (M.sz n 0 0)
  obtain ⟨p, rfl, pb⟩ := M.rc_nat hr
  obtain ⟨gg, D, K, xf, hu⟩ := M.uc_ex x0 p
  have CH := Lib.hid (fun W (l : Lk W) => shown11_any W (Lib.hid l.low) (Lib.hid l.form) (Lib.hid l.ten))
  have FC := Lib.hid (fun W (l : Lk W) => full_any W (Lib.hid l.low) (Lib.hid l.form) x0 p pb gg D K xf hu)
  have CR := Lib.hid (fun W (l : Lk W) lo' v' (N : Nt W lo' 1 v' n) => rnd_round W (Lib.hid l.low) (Lib.hid l.form) x0 1 lo' 1 false v' 0 0 n N (by omega) (by omega) (by omega) (by have := M.c_128; omega) p xe hr)
  have CN := Lib.hid (fun W => lit1n W n (n : Int) rfl (by omega) (by omega))
  have en4 : IntKind.u64.wrap (n : Int) = (n : Int) := wrap_u64 rfl (by omega)
  clear hn hy xb
  rcases hr with ⟨ho, hp0, rfl⟩ | ⟨i, rfl, i1, i2, ⟨e, _⟩ | ⟨e1m, hv, rfl⟩⟩
  ·
    clear hu n1 n2 hp0 ho
    have U := Up.refl w
    go_enter Tryz.func9, Tryz.ntmps9
    go_wp2_with fail
    refine (CH.out _ (L.out.up U)).mono ?_
    rintro _ w1 ⟨rfl, h1⟩
    replace U := U.trans h1
    clear h1
    clear CH
    go_wp2_with fail
    obtain ⟨V8, hV8⟩ : ∃ V, w1.alloc (.cells #[.int .u64 (n : Int)] 22) = V := ⟨_, rfl⟩
    have NL : Nt V8 w1.heap.size 1 (.slice (some ⟨w1.heap.size, 0, none⟩) 1 1) n := by rw [← hV8]; exact CN.out w1
    have uV8 : Up w1 V8 := by rw [← hV8]; exact (Up.refl _).alloc _
    have sV8 : V8.heap.size = w1.heap.size + 1 := by rw [← hV8]; exact Array.size_push _
    rw [hV8]
    clear hV8 CN
    replace U := U.trans uV8
    clear uV8
    obtain ⟨V9, hV9⟩ : ∃ V, V8.alloc (.cells #[.bool false, .slice (some ⟨w1.heap.size, 0, none⟩) 1 1, .int .i64 0, .int .i64 0] 39) = V := ⟨_, rfl⟩
    have BX : Ob V9 (w1.heap.size + 1) 39 #[.bool false, .slice (some ⟨w1.heap.size, 0, none⟩) 1 1, .int .i64 0, .int .i64 0] := by rw [← sV8, ← hV9]; exact Ob.mk_ _ _ _
    have uV9 : Up V8 V9 := by rw [← hV9]; exact (Up.refl _).alloc _
    rw [hV9]
    clear hV9 sV8
    replace U := U.trans uV9
    replace NL := NL.up uV9
    clear uV9
    have BX0 := BX.get 0
    have BX1 := BX.get 1
    have BX2 := BX.get 2
    have BX3 := BX.get 3
    have BXf0 := BX.fr 0
    have BXf1 := BX.fr 1
    have BXf2 := BX.fr 2
    have BXf3 := BX.fr 3
    have BXl := BX.lt
    simp only [List.getElem?_toArray, List.getElem?_cons_zero, List.getElem?_cons_succ] at BX0 BX1 BX2 BX3
    go_wp2_with fail
    clear BX0 BXf0 BX1 BXf1 BX2 BXf2 BX3 BXf3 BXl
    refine (CR.out _ (L.out.up U) _ _ NL).mono ?_
    rintro _ w2 ⟨rfl, h2⟩
    replace U := U.trans h2
    replace BX := BX.up h2
    replace NL := NL.up h2
    clear h2
    clear CR
    go_wp2_with fail
    refine (FC.out _ (L.out.up U)).mono ?_
    rintro _ w3 ⟨vF, rfl, NF, h3⟩
    replace U := U.trans h3
    replace BX := BX.up h3
    replace NL := NL.up h3
    clear h3
    clear FC
    obtain ⟨AF, nF, cF, rfl, NF⟩ := NF.sl
    clear NF
    go_wp2_with fail
    go_ret
    exact ⟨rfl, by first | exact U | exact U.alloc _⟩
  · exact absurd (.inl rfl) e
  ·
    have ok := M.ok i i1 i2
    have ok2 := M.ok2 i i1 i2
    have ok3 := M.ok3 i i1 i2
    have c2 := M.whole_fin i1 i2 (by omega) hv
    obtain ⟨p1, p2, _⟩ := M.rv_class ok ok2 ok3 hv
    obtain ⟨g0, m0, z0, hd0⟩ := M.cls_dv ok ok2 p1 p2 c2
    have sg := M.rv_sign ok ok2 ok3 hv c2
    rcases hu with ⟨_, he, _⟩ | ⟨rfl, i', e, _, _, hp, m, z, hd, hg⟩
    · exact (M.er_in i1 i2 he p2 hd0).elim
    obtain rfl : i = i' := by omega
    have eg : gg = false := (M.pt_key ok ok2 hp hd).2.1.trans sg.symm
    subst eg
    obtain ⟨mz, mb, zb⟩ := M.pt_rng ok ok2 ok3 hp hd
    have CV := Lib.hid (fun W (l : Lk W) => vdecode_any W (Lib.hid l.low) (Lib.hid l.form) (i : Int) p pb 2 false m z 0 (.inr ⟨i, rfl, i1, i2, .inr ⟨hp, hd, rfl⟩⟩))
    have CX := Lib.hid (fun W => xof_fin W false m z mb (M.pw_of zb))
    have pwK := M.dgs_pw hg
    have CD := Lib.hid (fun W lo' v' (N : Nt W lo' 128 v' D) => dec_yes W lo' 128 false v' D K N.nw hg.fit pwK)
    have CC := Lib.hid (fun W lo1 lo2 v1 v2 (N1 : Nt W lo1 128 v1 D) (N2 : Nt W lo2 1 v2 m) => xcmp_ov (-5000) (by omega) W lo1 lo2 128 1 false false v1 v2 K K z 0 D m N1.nw N2.nw (by omega) (by omega) (by have := pwK; unfold M.pw at this; omega) (by have := pwK; unfold M.pw at this; omega) (by omega) (by omega) 0 (M.cmp_eq hg.eq))
    obtain ⟨c, hc⟩ : ∃ c, M.cmp (M.sz m z 0) (M.sz n 0 0) = c := ⟨_, rfl⟩
    have CC2 := Lib.hid (fun W lo1 lo2 v1 v2 (N1 : Nt W lo1 1 v1 m) (N2 : Nt W lo2 1 v2 n) => xcmp_ov (-5000) (by omega) W lo1 lo2 1 1 false false v1 v2 z 0 0 0 m n N1.nw N2.nw (by omega) (by omega) (by omega) (by omega) (by omega) (by omega) c hc)
    have last : (c != 0) = true ∨ ((c != 0) = false ∧ decide (K ≥ 0) = true ∧ decide (0 ≤ K) = true) := by
      by_cases e : c = 0
      · have es : M.sz m z 0 = M.sz n 0 0 := by
          rw [e] at hc
          rcases Nat.lt_trichotomy (M.sz m z 0) (M.sz n 0 0) with h | h | h
          · rw [M.cmp_lt h] at hc; omega
          · exact h
          · rw [M.cmp_gt h] at hc; omega
        have k0 : 0 ≤ K := M.whole_pow (by have := hg.lo; omega) hg.ten (hg.eq.trans es)
        exact .inr ⟨by simpa using e, decide_eq_true k0, decide_eq_true k0⟩
      · exact .inl (by simpa using e)
    clear ok ok2 ok3 c2 p1 p2 hd0 sg e i1 i2 hp hd hg mz mb zb hc hv pb pwK n1 n2 e1m
    have U := Up.refl w
    go_enter Tryz.func9, Tryz.ntmps9
    go_wp2_with fail
    refine (CH.out _ (L.out.up U)).mono ?_
    rintro _ w1 ⟨rfl, h1⟩
    replace U := U.trans h1
    clear h1
    clear CH
    go_wp2_with fail
    obtain ⟨V8, hV8⟩ : ∃ V, w1.alloc (.cells #[.int .u64 (n : Int)] 22) = V := ⟨_, rfl⟩
    have NL : Nt V8 w1.heap.size 1 (.slice (some ⟨w1.heap.size, 0, none⟩) 1 1) n := by rw [← hV8]; exact CN.out w1
    have uV8 : Up w1 V8 := by rw [← hV8]; exact (Up.refl _).alloc _
    have sV8 : V8.heap.size = w1.heap.size + 1 := by rw [← hV8]; exact Array.size_push _
    rw [hV8]
    clear hV8 CN
    replace U := U.trans uV8
    clear uV8
    obtain ⟨V9, hV9⟩ : ∃ V, V8.alloc (.cells #[.bool false, .slice (some ⟨w1.heap.size, 0, none⟩) 1 1, .int .i64 0, .int .i64 0] 39) = V := ⟨_, rfl⟩
    have BX : Ob V9 (w1.heap.size + 1) 39 #[.bool false, .slice (some ⟨w1.heap.size, 0, none⟩) 1 1, .int .i64 0, .int .i64 0] := by rw [← sV8, ← hV9]; exact Ob.mk_ _ _ _
    have uV9 : Up V8 V9 := by rw [← hV9]; exact (Up.refl _).alloc _
    rw [hV9]
    clear hV9 sV8
    replace U := U.trans uV9
    replace NL := NL.up uV9
    clear uV9
    have BX0 := BX.get 0
    have BX1 := BX.get 1
    have BX2 := BX.get 2
    have BX3 := BX.get 3
    have BXf0 := BX.fr 0
    have BXf1 := BX.fr 1
    have BXf2 := BX.fr 2
    have BXf3 := BX.fr 3
    have BXl := BX.lt
    simp only [List.getElem?_toArray, List.getElem?_cons_zero, List.getElem?_cons_succ] at BX0 BX1 BX2 BX3
    go_wp2_with fail
    clear BX0 BXf0 BX1 BXf1 BX2 BXf2 BX3 BXf3 BXl
    refine (CR.out _ (L.out.up U) _ _ NL).mono ?_
    rintro _ w2 ⟨rfl, h2⟩
    replace U := U.trans h2
    replace BX := BX.up h2
    replace NL := NL.up h2
    clear h2
    clear CR
    go_wp2_with fail
    refine (FC.out _ (L.out.up U)).mono ?_
    rintro _ w3 ⟨vF, rfl, NF, h3⟩
    replace U := U.trans h3
    replace BX := BX.up h3
    replace NL := NL.up h3
    clear h3
    clear FC
    obtain ⟨AF, nF, cF, rfl, NF⟩ := NF.sl
    go_upto_region 6 with fail
    have gBFBX := BX.lt
    obtain ⟨V4, hV4⟩ : ∃ V4, w3.alloc (.cells #[.bool false, .slice AF nF cF, .int .i64 K] 27) = V4 := ⟨_, rfl⟩
    have BF : Ob V4 (w3.heap.size) 27 #[.bool false, .slice AF nF cF, .int .i64 K] := by rw [← hV4]; exact Ob.mk_ _ _ _
    have sV4 : V4.heap.size = w3.heap.size + 1 := by rw [← hV4]; exact (Array.size_push _)
    have uV4 : Up w3 V4 := by rw [← hV4]; exact (Up.refl _).alloc _
    have ltBF : w.heap.size ≤ w3.heap.size := by have := U.size; omega
    rw [hV4]
    clear hV4
    replace U := U.trans uV4
    replace BX := BX.up uV4
    replace NL := NL.up uV4
    replace NF := NF.up uV4
    clear uV4
    clear sV4
    have glBF := BF.lt
    have BF0 := BF.get 0
    have BF1 := BF.get 1
    have BF2 := BF.get 2
    have BFf0 := BF.fr 0
    have BFf1 := BF.fr 1
    have BFf2 := BF.fr 2
    have BFl := BF.lt
    simp only [List.getElem?_toArray, List.getElem?_cons_zero, List.getElem?_cons_succ] at BF0 BF1 BF2
    go_wp2_with fail
    clear BF0 BFf0 BF1 BFf1 BF2 BFf2 BFl
    refine (CD.out _ _ _ NF).mono ?_
    rintro _ w5 ⟨vY, rfl, NY, h5⟩
    replace U := U.trans h5
    replace BX := BX.up h5
    replace BF := BF.up h5
    replace NL := NL.up h5
    replace NF := NF.up h5
    clear h5
    clear CD NF
    obtain ⟨AY, nY, cY, rfl, NY⟩ := NY.sl
    go_upto_region 9 with fail
    have gBYBX := BX.lt
    have gBYBF := BF.lt
    obtain ⟨V6, hV6⟩ : ∃ V6, w5.alloc (.cells #[.bool false, .slice AY nY cY, .int .i64 K, .int .i64 K] 39) = V6 := ⟨_, rfl⟩
    have BY : Ob V6 (w5.heap.size) 39 #[.bool false, .slice AY nY cY, .int .i64 K, .int .i64 K] := by rw [← hV6]; exact Ob.mk_ _ _ _
    have sV6 : V6.heap.size = w5.heap.size + 1 := by rw [← hV6]; exact (Array.size_push _)
    have uV6 : Up w5 V6 := by rw [← hV6]; exact (Up.refl _).alloc _
    have ltBY : w.heap.size ≤ w5.heap.size := by have := U.size; omega
    rw [hV6]
    clear hV6
    replace U := U.trans uV6
    replace BX := BX.up uV6
    replace BF := BF.up uV6
    replace NL := NL.up uV6
    replace NY := NY.up uV6
    clear uV6
    clear sV6
    have glBY := BY.lt
    have BF0 := BF.get 0
    have BF1 := BF.get 1
    have BF2 := BF.get 2
    have BFf0 := BF.fr 0
    have BFf1 := BF.fr 1
    have BFf2 := BF.fr 2
    have BFl := BF.lt
    simp only [List.getElem?_toArray, List.getElem?_cons_zero, List.getElem?_cons_succ] at BF0 BF1 BF2
    go_wp2_with fail
    clear BF0 BFf0 BF1 BFf1 BF2 BFf2 BFl
    refine (CV.out _ (L.out.up U)).mono ?_
    rintro _ w7 ⟨rfl, h7⟩
    replace U := U.trans h7
    replace BX := BX.up h7
    replace BF := BF.up h7
    replace BY := BY.up h7
    replace NL := NL.up h7
    replace NY := NY.up h7
    clear h7
    clear CV
    go_upto_region 12 with fail
    have gVBX := BX.lt
    have gVBF := BF.lt
    have gVBY := BY.lt
    obtain ⟨V8, hV8⟩ : ∃ V8, w7.alloc (.cells #[.int .i64 2, .bool false, u64 m, .int .i64 z] 32) = V8 := ⟨_, rfl⟩
    have V : Ob V8 (w7.heap.size) 32 #[.int .i64 2, .bool false, u64 m, .int .i64 z] := by rw [← hV8]; exact Ob.mk_ _ _ _
    have sV8 : V8.heap.size = w7.heap.size + 1 := by rw [← hV8]; exact (Array.size_push _)
    have uV8 : Up w7 V8 := by rw [← hV8]; exact (Up.refl _).alloc _
    have ltV : w.heap.size ≤ w7.heap.size := by have := U.size; omega
    rw [hV8]
    clear hV8
    replace U := U.trans uV8
    replace BX := BX.up uV8
    replace BF := BF.up uV8
    replace BY := BY.up uV8
    replace NL := NL.up uV8
    replace NY := NY.up uV8
    clear uV8
    clear sV8
    have glV := V.lt
    have V0 := V.get 0
    have V1 := V.get 1
    have V2 := V.get 2
    have V3 := V.get 3
    have Vf0 := V.fr 0
    have Vf1 := V.fr 1
    have Vf2 := V.fr 2
    have Vf3 := V.fr 3
    have Vl := V.lt
    simp only [List.getElem?_toArray, List.getElem?_cons_zero, List.getElem?_cons_succ] at V0 V1 V2 V3
    go_wp2_with fail
    clear V0 Vf0 V1 Vf1 V2 Vf2 V3 Vf3 Vl
    refine (CX.out _).mono ?_
    rintro _ w9 ⟨vX, rfl, NX, h9⟩
    replace U := U.trans h9
    replace BX := BX.up h9
    replace BF := BF.up h9
    replace BY := BY.up h9
    replace V := V.up h9
    replace NL := NL.up h9
    replace NY := NY.up h9
    clear h9
    clear CX
    obtain ⟨AX, nX, cX, rfl, NX⟩ := NX.sl
    go_upto_region 13 with fail
    have gBZBX := BX.lt
    have gBZBF := BF.lt
    have gBZBY := BY.lt
    have gBZV := V.lt
    obtain ⟨V10, hV10⟩ : ∃ V10, w9.alloc (.cells #[.bool false, .slice AX nX cX, .int .i64 z, .int .i64 0] 39) = V10 := ⟨_, rfl⟩
    have BZ : Ob V10 (w9.heap.size) 39 #[.bool false, .slice AX nX cX, .int .i64 z, .int .i64 0] := by rw [← hV10]; exact Ob.mk_ _ _ _
    have sV10 : V10.heap.size = w9.heap.size + 1 := by rw [← hV10]; exact (Array.size_push _)
    have uV10 : Up w9 V10 := by rw [← hV10]; exact (Up.refl _).alloc _
    have ltBZ : w.heap.size ≤ w9.heap.size := by have := U.size; omega
    rw [hV10]
    clear hV10
    replace U := U.trans uV10
    replace BX := BX.up uV10
    replace BF := BF.up uV10
    replace BY := BY.up uV10
    replace V := V.up uV10
    replace NL := NL.up uV10
    replace NY := NY.up uV10
    replace NX := NX.up uV10
    clear uV10
    clear sV10
    have glBZ := BZ.lt
    have BY0 := BY.get 0
    have BY1 := BY.get 1
    have BY2 := BY.get 2
    have BY3 := BY.get 3
    have BYf0 := BY.fr 0
    have BYf1 := BY.fr 1
    have BYf2 := BY.fr 2
    have BYf3 := BY.fr 3
    have BYl := BY.lt
    simp only [List.getElem?_toArray, List.getElem?_cons_zero, List.getElem?_cons_succ] at BY0 BY1 BY2 BY3
    have BZ0 := BZ.get 0
    have BZ1 := BZ.get 1
    have BZ2 := BZ.get 2
    have BZ3 := BZ.get 3
    have BZf0 := BZ.fr 0
    have BZf1 := BZ.fr 1
    have BZf2 := BZ.fr 2
    have BZf3 := BZ.fr 3
    have BZl := BZ.lt
    simp only [List.getElem?_toArray, List.getElem?_cons_zero, List.getElem?_cons_succ] at BZ0 BZ1 BZ2 BZ3
    go_wp2_with fail
    clear BY0 BYf0 BY1 BYf1 BY2 BYf2 BY3 BYf3 BYl
    clear BZ0 BZf0 BZ1 BZf1 BZ2 BZf2 BZ3 BZf3 BZl
    refine (CC.out _ _ _ _ _ NY NX).mono ?_
    rintro _ w11 ⟨rfl, h11⟩
    replace U := U.trans h11
    replace BX := BX.up h11
    replace BF := BF.up h11
    replace BY := BY.up h11
    replace V := V.up h11
    replace BZ := BZ.up h11
    replace NL := NL.up h11
    replace NY := NY.up h11
    replace NX := NX.up h11
    clear h11
    clear CC
    have BZ0 := BZ.get 0
    have BZ1 := BZ.get 1
    have BZ2 := BZ.get 2
    have BZ3 := BZ.get 3
    have BZf0 := BZ.fr 0
    have BZf1 := BZ.fr 1
    have BZf2 := BZ.fr 2
    have BZf3 := BZ.fr 3
    have BZl := BZ.lt
    simp only [List.getElem?_toArray, List.getElem?_cons_zero, List.getElem?_cons_succ] at BZ0 BZ1 BZ2 BZ3
    have BX0 := BX.get 0
    have BX1 := BX.get 1
    have BX2 := BX.get 2
    have BX3 := BX.get 3
    have BXf0 := BX.fr 0
    have BXf1 := BX.fr 1
    have BXf2 := BX.fr 2
    have BXf3 := BX.fr 3
    have BXl := BX.lt
    simp only [List.getElem?_toArray, List.getElem?_cons_zero, List.getElem?_cons_succ] at BX0 BX1 BX2 BX3
    go_wp2_with fail
    clear BZ0 BZf0 BZ1 BZf1 BZ2 BZf2 BZ3 BZf3 BZl
    clear BX0 BXf0 BX1 BXf1 BX2 BXf2 BX3 BXf3 BXl
    refine (CC2.out _ _ _ _ _ NX NL).mono ?_
    rintro _ w12 ⟨rfl, h12⟩
    replace U := U.trans h12
    replace BX := BX.up h12
    replace BF := BF.up h12
    replace BY := BY.up h12
    replace V := V.up h12
    replace BZ := BZ.up h12
    replace NL := NL.up h12
    replace NY := NY.up h12
    replace NX := NX.up h12
    clear h12
    clear CC2
    rcases last with l1 | ⟨l1, l2, l3⟩
    all_goals
      have BF0 := BF.get 0
      have BF1 := BF.get 1
      have BF2 := BF.get 2
      have BFf0 := BF.fr 0
      have BFf1 := BF.fr 1
      have BFf2 := BF.fr 2
      have BFl := BF.lt
      simp only [List.getElem?_toArray, List.getElem?_cons_zero, List.getElem?_cons_succ] at BF0 BF1 BF2
      go_wp2_with fail
      go_ret
      exact ⟨rfl, U⟩
end Go.Proofs.YtpbdiolfdpfmdaaGreatDoor
