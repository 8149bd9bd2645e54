/-
  The walk of ShortSigns: true, and nothing that was there has turned.
-/
import Derived.Test.YtpbdiolfdpfmdaaGreatDoorKn0
import Derived.OwnWalk
namespace Go.Proofs.YtpbdiolfdpfmdaaGreatDoor
open Go.RowKit
set_option linter.unusedSimpArgs false
set_option linter.unusedVariables false

namespace M
theorem three_ten (i : Nat) (i1 : 1 ≤ i) (i2 : i ≤ 14) : (tb i).k = 3 → i = 10 := by
  refine all14 (p := fun i => (tb i).k = 3 → i = 10) ?_ ?_ ?_ ?_ ?_ ?_ ?_ ?_ ?_ ?_ ?_ ?_ ?_ ?_ i i1 i2 <;> decide
theorem sq_turn {f : Fm} (ok : Ok f) (ok2 : Ok2 f) (ok3 : Ok3 f) (h3 : f.k ≠ 3) (h4 : f.k ≠ 4) {p q : Nat} {g : Bool} {m : Nat} {z : Int} {m1 : Nat} {z1 : Int} {m2 : Nat} {z2 : Int} {ev : Bool} {t : Int} {n : Nat} {k : Int} {d : Nat} {r : Int} {y D : Nat} {K : Int} (h : Sq f p g m z m1 z1 m2 z2 ev t n k d r y D K)
    {x : Nat} (hk : kyf f p = x) (hq : pat f (!g) x = q) : Sq f q (!g) m z m1 z1 m2 z2 ev t n k d r y D K :=
  ⟨pt_turn ok ok2 ok3 h3 h.pt hk hq h4, h.tp, h.sh, h.dg, h.small⟩
/-- What ShortSigns finds, where nothing is wrong. -/
theorem signs_in {ii : Int} {p : Nat} {g : Bool} {x : Nat} {q : Int} {g2 : Bool} {D : Nat} {K : Int} (hk : Kc ii p g x 0) (hp : Pc ii (!g) x q 0) (hs : Shc ii p g2 D K 0) (h10 : ii ≠ 10) :
    g2 = g ∧ ∃ q' : Nat, q = q' ∧ q' < 18446744073709551616 ∧ Shc ii q' (!g) D K 0 ∧ ∃ D' K', Uc ii p g D' K' 0 ∧ Uc ii q' (!g) D' K' 0 := by
  rcases hs with ⟨h, _⟩ | ⟨_, i, rfl, i1, i2, m, z, m1, z1, m2, z2, ev, t, n, k, d, r, y, hs⟩
  · exact absurd rfl h
  · obtain ⟨c2, hg, x', hx', _, _, _, _, _, _, m0⟩ := pt_key (ok i i1 i2) (ok2 i i1 i2) hs.pt.fit hs.pt.dv
    rcases hk with ⟨_, _, _, e⟩ | ⟨i', e, _, _, ⟨_, _, _, e2⟩ | ⟨_, hk⟩⟩
    · omega
    · omega
    obtain rfl : i = i' := by omega
    have hkk : g = ngs (tb i) p ∧ kyf (tb i) p = x := by
      rcases hk with ⟨h, _⟩ | ⟨h, _⟩ | ⟨_, h1, h2, _⟩
      · omega
      · omega
      · exact ⟨h1, h2⟩
    have eg : g2 = g := hg.trans hkk.1.symm
    subst eg
    rcases hp with ⟨_, _, e⟩ | ⟨i', e, _, _, ⟨_, _, _, e2⟩ | ⟨n4, ⟨_, _, e2⟩ | ⟨hm, hq, _⟩⟩⟩
    · omega
    · omega
    · omega
    obtain rfl : i = i' := by omega
    have k4 : (tb i).k ≠ 4 := by
      intro e4
      have a := ngs_four (ok i i1 i2) e4 p
      rw [← hg] at a
      subst a
      exact n4 ⟨e4, rfl⟩
    have k3 : (tb i).k ≠ 3 := fun e3 => h10 (by rw [three_ten i i1 i2 e3]; rfl)
    obtain ⟨q0, q1, _⟩ := pat_key (ok i i1 i2) (ok2 i i1 i2) (ok3 i i1 i2) (neg := !g2) (k := x) n4 hm
    have hmm := (ok i i1 i2).hm
    obtain ⟨q', hq'⟩ : ∃ q' : Nat, pat (tb i) (!g2) x = q' := ⟨(pat (tb i) (!g2) x).toNat, by omega⟩
    have hs2 := sq_turn (ok i i1 i2) (ok2 i i1 i2) (ok3 i i1 i2) k3 k4 hs hkk.2 hq'
    obtain ⟨_, mb, zb⟩ := pt_rng (ok i i1 i2) (ok2 i i1 i2) (ok3 i i1 i2) hs.pt.fit hs.pt.dv
    obtain ⟨D', K', hd⟩ := dgs_full m0 mb zb
    refine ⟨rfl, q', hq.trans hq', by omega, .inr ⟨rfl, i, rfl, i1, i2, m, z, m1, z1, m2, z2, ev, t, n, k, d, r, y, hs2⟩, D', K', .inr ⟨rfl, i, rfl, i1, i2, hs.pt.fit, m, z, hs.pt.dv, hd⟩, .inr ⟨rfl, i, rfl, i1, i2, hs2.pt.fit, m, z, hs2.pt.dv, hd⟩⟩
theorem kc_b {ii : Int} {p : Nat} {g : Bool} {x : Nat} {e : Int} (h : Kc ii p g x e) : x < 18446744073709551616 := by
  rcases h with ⟨_, _, rfl, _⟩ | ⟨i, _, i1, i2, ⟨_, _, rfl, _⟩ | ⟨hp, hk⟩⟩
  · decide
  · decide
  · have r := (kyf_rng (ok i i1 i2) (p := p) (by omega) hp).2.1
    have hm := (ok i i1 i2).hm
    rcases hk with ⟨_, _, rfl, _⟩ | ⟨_, _, h, _⟩ | ⟨_, _, h, _⟩
    · decide
    · omega
    · omega
end M
set_option maxHeartbeats 16000000 in
set_option maxRecDepth 100000 in
theorem ssign_walk (w : World) (L : Hid (Lk w)) (x0 : Int) (_wx0 : (Lit.int .i64 x0).wf = true) (x1 : Int) (_wx1 : (Lit.int .u64 x1).wf = true)  : Calls Tryz.prog 8 #[.int .i64 x0, .int .u64 x1] w (True11 w) := by
  obtain ⟨p, rfl, pb⟩ := wf_u64 _wx1
  obtain ⟨gg, D, K, x, hs⟩ := M.shc_ex x0 p
  have CH := Lib.hid (fun W (l : Lk W) => shown11_any W (Lib.hid l.low) (Lib.hid l.form) (Lib.hid l.ten))
  have SC := Lib.hid (fun W (l : Lk W) => short_any W (Lib.hid l.low) (Lib.hid l.form) (Lib.hid l.ten) x0 p pb gg D K x hs)
  obtain ⟨g0, ky, e1, hk⟩ := M.kc_ex x0 p
  obtain ⟨q, e2, hp⟩ := M.pc_ex x0 (!g0) ky
  have CK := Lib.hid (fun W (l : Lk W) => vkey_any W (Lib.hid l.low) (Lib.hid l.form) x0 p pb g0 ky e1 hk)
  have CP := Lib.hid (fun W (l : Lk W) => vpattern_any W (Lib.hid l.form) x0 (!g0) ky (M.kc_b hk) q e2 hp)
  have way : (e1 != 0) = true ∨ ((e1 != 0) = false ∧ (e2 != 0) = true) ∨ ((e1 != 0) = false ∧ (e2 != 0) = false ∧ (x != 0) = true) ∨ ((e1 != 0) = false ∧ (e2 != 0) = false ∧ (x != 0) = false ∧ (x0 == 10) = true) ∨ (e1 = 0 ∧ e2 = 0 ∧ x = 0 ∧ (x0 == 10) = false ∧ x0 ≠ 10) := by
    by_cases a : e1 = 0
    · by_cases b : e2 = 0
      · by_cases c : x = 0
        · by_cases d : x0 = 10
          · exact .inr (.inr (.inr (.inl ⟨by simpa using a, by simpa using b, by simpa using c, by simpa using d⟩)))
          · exact .inr (.inr (.inr (.inr ⟨a, b, c, by simpa using d, d⟩)))
        · exact .inr (.inr (.inl ⟨by simpa using a, by simpa using b, by simpa using c⟩))
      · exact .inr (.inl ⟨by simpa using a, by simpa using b⟩)
    · exact .inl (by simpa using a)
  rcases way with d1 | ⟨d1, d2⟩ | ⟨d1, d2, d3⟩ | ⟨d1, d2, d3, d4⟩ | ⟨rfl, rfl, rfl, d4, hne⟩
  ·
    clear hs hk hp pb
    have U := Up.refl w
    go_enter Tryz.func8, Tryz.ntmps8
    go_wp2_with fail
    refine (CH.out _ (L.out.up U)).mono ?_
    rintro _ w1 ⟨rfl, h1⟩
    replace U := U.trans h1
    clear h1
    clear CH
    go_wp2_with fail
    refine (CK.out _ (L.out.up U)).mono ?_
    rintro _ w2 ⟨rfl, h2⟩
    replace U := U.trans h2
    clear h2
    clear CK
    go_wp2_with fail
    refine (CP.out _ (L.out.up U)).mono ?_
    rintro _ w3 ⟨rfl, h3⟩
    replace U := U.trans h3
    clear h3
    clear CP
    go_wp2_with fail
    refine (SC.out _ (L.out.up U)).mono ?_
    rintro _ w4 ⟨vS, rfl, NS, h4⟩
    replace U := U.trans h4
    clear h4
    clear SC
    obtain ⟨AS, nS, cS, rfl, NS⟩ := NS.sl
    clear NS
    go_wp2_with fail
    go_ret
    exact ⟨rfl, by first | exact U | exact U.alloc _⟩
  ·
    clear hs hk hp pb
    have U := Up.refl w
    go_enter Tryz.func8, Tryz.ntmps8
    go_wp2_with fail
    refine (CH.out _ (L.out.up U)).mono ?_
    rintro _ w1 ⟨rfl, h1⟩
    replace U := U.trans h1
    clear h1
    clear CH
    go_wp2_with fail
    refine (CK.out _ (L.out.up U)).mono ?_
    rintro _ w2 ⟨rfl, h2⟩
    replace U := U.trans h2
    clear h2
    clear CK
    go_wp2_with fail
    refine (CP.out _ (L.out.up U)).mono ?_
    rintro _ w3 ⟨rfl, h3⟩
    replace U := U.trans h3
    clear h3
    clear CP
    go_wp2_with fail
    refine (SC.out _ (L.out.up U)).mono ?_
    rintro _ w4 ⟨vS, rfl, NS, h4⟩
    replace U := U.trans h4
    clear h4
    clear SC
    obtain ⟨AS, nS, cS, rfl, NS⟩ := NS.sl
    clear NS
    go_wp2_with fail
    go_ret
    exact ⟨rfl, by first | exact U | exact U.alloc _⟩
  ·
    clear hs hk hp pb
    have U := Up.refl w
    go_enter Tryz.func8, Tryz.ntmps8
    go_wp2_with fail
    refine (CH.out _ (L.out.up U)).mono ?_
    rintro _ w1 ⟨rfl, h1⟩
    replace U := U.trans h1
    clear h1
    clear CH
    go_wp2_with fail
    refine (CK.out _ (L.out.up U)).mono ?_
    rintro _ w2 ⟨rfl, h2⟩
    replace U := U.trans h2
    clear h2
    clear CK
    go_wp2_with fail
    refine (CP.out _ (L.out.up U)).mono ?_
    rintro _ w3 ⟨rfl, h3⟩
    replace U := U.trans h3
    clear h3
    clear CP
    go_wp2_with fail
    refine (SC.out _ (L.out.up U)).mono ?_
    rintro _ w4 ⟨vS, rfl, NS, h4⟩
    replace U := U.trans h4
    clear h4
    clear SC
    obtain ⟨AS, nS, cS, rfl, NS⟩ := NS.sl
    clear NS
    go_wp2_with fail
    go_ret
    exact ⟨rfl, by first | exact U | exact U.alloc _⟩
  ·
    clear hs hk hp pb
    have U := Up.refl w
    go_enter Tryz.func8, Tryz.ntmps8
    go_wp2_with fail
    refine (CH.out _ (L.out.up U)).mono ?_
    rintro _ w1 ⟨rfl, h1⟩
    replace U := U.trans h1
    clear h1
    clear CH
    go_wp2_with fail
    refine (CK.out _ (L.out.up U)).mono ?_
    rintro _ w2 ⟨rfl, h2⟩
    replace U := U.trans h2
    clear h2
    clear CK
    go_wp2_with fail
    refine (CP.out _ (L.out.up U)).mono ?_
    rintro _ w3 ⟨rfl, h3⟩
    replace U := U.trans h3
    clear h3
    clear CP
    go_wp2_with fail
    refine (SC.out _ (L.out.up U)).mono ?_
    rintro _ w4 ⟨vS, rfl, NS, h4⟩
    replace U := U.trans h4
    clear h4
    clear SC
    obtain ⟨AS, nS, cS, rfl, NS⟩ := NS.sl
    clear NS
    go_wp2_with fail
    go_ret
    exact ⟨rfl, by first | exact U | exact U.alloc _⟩
  ·
    obtain ⟨rfl, p2, rfl, p2b, hs2, D', K', hu, hu2⟩ := M.signs_in hk hp hs hne
    have SC2 := Lib.hid (fun W (l : Lk W) => short_any W (Lib.hid l.low) (Lib.hid l.form) (Lib.hid l.ten) x0 p2 p2b (!gg) D K 0 hs2)
    have FC := Lib.hid (fun W (l : Lk W) => full_any W (Lib.hid l.low) (Lib.hid l.form) x0 p pb gg D' K' 0 hu)
    have FC2 := Lib.hid (fun W (l : Lk W) => full_any W (Lib.hid l.low) (Lib.hid l.form) x0 p2 p2b (!gg) D' K' 0 hu2)
    have CE := Lib.hid (fun W lo lo' (A A' : Option Addr) (n c n' c' : Nat) (K a) (N : Nt W lo 128 (.slice A n c) a) (N' : Nt W lo' 128 (.slice A' n' c') a) => same11_any W lo lo' 128 128 gg A A' n c n' c' K a N N' (by omega))
    have gn : (!(!gg)) = gg := by simp
    have ge : (gg == gg) = true := by simp
    have Dp : 0 < D := by
      rcases hs with ⟨h, _⟩ | ⟨_, i, _, _, _, m, z, m1, z1, m2, z2, ev, t, n, k, d, r, y, h⟩
      · exact absurd rfl h
      · have := h.dg.ten; omega
    have Dq : 0 < D' := by
      rcases hu with ⟨h, _⟩ | ⟨_, i, _, _, _, _, m, z, _, h⟩
      · exact absurd rfl h
      · have := h.ten; omega
    clear hs hk hp pb p2b hs2 hu hu2 hne
    have U := Up.refl w
    go_enter Tryz.func8, Tryz.ntmps8
    go_wp2_with fail
    refine (CH.out _ (L.out.up U)).mono ?_
    rintro _ w1 ⟨rfl, h1⟩
    replace U := U.trans h1
    clear h1
    clear CH
    go_wp2_with fail
    refine (CK.out _ (L.out.up U)).mono ?_
    rintro _ w2 ⟨rfl, h2⟩
    replace U := U.trans h2
    clear h2
    clear CK
    go_wp2_with fail
    refine (CP.out _ (L.out.up U)).mono ?_
    rintro _ w3 ⟨rfl, h3⟩
    replace U := U.trans h3
    clear h3
    clear CP
    go_wp2_with fail
    refine (SC.out _ (L.out.up U)).mono ?_
    rintro _ w4 ⟨va, rfl, Na, h4⟩
    replace U := U.trans h4
    clear h4
    clear SC
    obtain ⟨Aa, na, ca, rfl, Na⟩ := Na.sl
    go_upto_region 5 with fail
    obtain ⟨V5, hV5⟩ : ∃ V5, w4.alloc (.cells #[.bool gg, .slice Aa na ca, .int .i64 K] 27) = V5 := ⟨_, rfl⟩
    have Ba : Ob V5 (w4.heap.size) 27 #[.bool gg, .slice Aa na ca, .int .i64 K] := by rw [← hV5]; exact Ob.mk_ _ _ _
    have sV5 : V5.heap.size = w4.heap.size + 1 := by rw [← hV5]; exact (Array.size_push _)
    have uV5 : Up w4 V5 := by rw [← hV5]; exact (Up.refl _).alloc _
    have ltBa : w.heap.size ≤ w4.heap.size := by have := U.size; omega
    rw [hV5]
    clear hV5
    replace U := U.trans uV5
    replace Na := Na.up uV5
    clear uV5
    clear sV5
    have glBa := Ba.lt
    go_wp2_with fail
    refine (SC2.out _ (L.out.up U)).mono ?_
    rintro _ w6 ⟨vb, rfl, Nb, h6⟩
    replace U := U.trans h6
    replace Ba := Ba.up h6
    replace Na := Na.up h6
    clear h6
    clear SC2
    obtain ⟨Ab, nb, cb, rfl, Nb⟩ := Nb.sl
    have oab := Na.own_hi Dp (Nat.le_refl _)
    have obb := Nb.own_hi Dp (Nat.le_refl _)
    go_upto_region 8 with fail
    have gBbBa := Ba.lt
    obtain ⟨V7, hV7⟩ : ∃ V7, w6.alloc (.cells #[.bool !gg, .slice Ab nb cb, .int .i64 K] 27) = V7 := ⟨_, rfl⟩
    have Bb : Ob V7 (w6.heap.size) 27 #[.bool !gg, .slice Ab nb cb, .int .i64 K] := by rw [← hV7]; exact Ob.mk_ _ _ _
    have sV7 : V7.heap.size = w6.heap.size + 1 := by rw [← hV7]; exact (Array.size_push _)
    have uV7 : Up w6 V7 := by rw [← hV7]; exact (Up.refl _).alloc _
    have ltBb : w.heap.size ≤ w6.heap.size := by have := U.size; omega
    rw [hV7]
    clear hV7
    replace U := U.trans uV7
    replace Ba := Ba.up uV7
    replace Na := Na.up uV7
    replace Nb := Nb.up uV7
    clear uV7
    clear sV7
    have glBb := Bb.lt
    go_wp2_with fail
    refine (FC.out _ (L.out.up U)).mono ?_
    rintro _ w8 ⟨vc, rfl, Nc, h8⟩
    replace U := U.trans h8
    replace Ba := Ba.up h8
    replace Bb := Bb.up h8
    replace Na := Na.up h8
    replace Nb := Nb.up h8
    clear h8
    clear FC
    obtain ⟨Ac, nc, cc, rfl, Nc⟩ := Nc.sl
    go_upto_region 9 with fail
    have gBcBa := Ba.lt
    have gBcBb := Bb.lt
    obtain ⟨V9, hV9⟩ : ∃ V9, w8.alloc (.cells #[.bool gg, .slice Ac nc cc, .int .i64 K'] 27) = V9 := ⟨_, rfl⟩
    have Bc : Ob V9 (w8.heap.size) 27 #[.bool gg, .slice Ac nc cc, .int .i64 K'] := by rw [← hV9]; exact Ob.mk_ _ _ _
    have sV9 : V9.heap.size = w8.heap.size + 1 := by rw [← hV9]; exact (Array.size_push _)
    have uV9 : Up w8 V9 := by rw [← hV9]; exact (Up.refl _).alloc _
    have ltBc : w.heap.size ≤ w8.heap.size := by have := U.size; omega
    rw [hV9]
    clear hV9
    replace U := U.trans uV9
    replace Ba := Ba.up uV9
    replace Bb := Bb.up uV9
    replace Na := Na.up uV9
    replace Nb := Nb.up uV9
    replace Nc := Nc.up uV9
    clear uV9
    clear sV9
    have glBc := Bc.lt
    have ocb := Nc.own_lo (b := w6.heap.size) Dq (by omega)
    go_wp2_with fail
    refine (FC2.out _ (L.out.up U)).mono ?_
    rintro _ w10 ⟨vd, rfl, Nd, h10⟩
    replace U := U.trans h10
    replace Ba := Ba.up h10
    replace Bb := Bb.up h10
    replace Bc := Bc.up h10
    replace Na := Na.up h10
    replace Nb := Nb.up h10
    replace Nc := Nc.up h10
    clear h10
    clear FC2
    obtain ⟨Ad, nd, cd, rfl, Nd⟩ := Nd.sl
    have oad := Na.own_hi Dp (Nat.le_refl _)
    have obd := Nb.own_hi Dp (Nat.le_refl _)
    have ocd := Nc.own_hi Dq (Nat.le_refl _)
    have odd := Nd.own_hi Dq (Nat.le_refl _)
    go_upto_region 10 with fail
    have gBdBa := Ba.lt
    have gBdBb := Bb.lt
    have gBdBc := Bc.lt
    obtain ⟨V11, hV11⟩ : ∃ V11, w10.alloc (.cells #[.bool !gg, .slice Ad nd cd, .int .i64 K'] 27) = V11 := ⟨_, rfl⟩
    have Bd : Ob V11 (w10.heap.size) 27 #[.bool !gg, .slice Ad nd cd, .int .i64 K'] := by rw [← hV11]; exact Ob.mk_ _ _ _
    have sV11 : V11.heap.size = w10.heap.size + 1 := by rw [← hV11]; exact (Array.size_push _)
    have uV11 : Up w10 V11 := by rw [← hV11]; exact (Up.refl _).alloc _
    have ltBd : w.heap.size ≤ w10.heap.size := by have := U.size; omega
    rw [hV11]
    clear hV11
    replace U := U.trans uV11
    replace Ba := Ba.up uV11
    replace Bb := Bb.up uV11
    replace Bc := Bc.up uV11
    replace Na := Na.up uV11
    replace Nb := Nb.up uV11
    replace Nc := Nc.up uV11
    replace Nd := Nd.up uV11
    clear uV11
    clear sV11
    have glBd := Bd.lt
    have odb := Nd.own_lo (b := w6.heap.size) Dq (by omega)
    have Bb0 := Bb.get 0
    have Bb1 := Bb.get 1
    have Bb2 := Bb.get 2
    have Bbf0 := Bb.fr 0
    have Bbf1 := Bb.fr 1
    have Bbf2 := Bb.fr 2
    have Bbl := Bb.lt
    simp only [List.getElem?_toArray, List.getElem?_cons_zero, List.getElem?_cons_succ] at Bb0 Bb1 Bb2
    go_upto_region 11 with fail
    clear Bb0 Bbf0 Bb1 Bbf1 Bb2 Bbf2 Bbl
    obtain ⟨F12, hF12⟩ : ∃ V, V11.setCell ⟨w6.heap.size, 0, none⟩ (.bool gg) = V := ⟨_, rfl⟩
    replace Bb : Ob F12 (w6.heap.size) 27 #[.bool gg, .slice Ab nb cb, .int .i64 K] := by rw [← hF12]; exact Bb.put 0 (.bool gg)
    have uF12 : Up w F12 := by rw [← hF12]; exact U.setCell (show w.heap.size ≤ w6.heap.size from ltBb) _
    have ho : ∀ b', b' ≠ w6.heap.size → F12.heap[b']? = V11.heap[b']? := by rw [← hF12]; exact fun b' hb => Below.heap_setCell V11 ⟨w6.heap.size, 0, none⟩ (.bool gg) b' hb
    replace Ba := Ob.oth Ba ho (by omega)
    replace Na := Na.oth Dp ho oab
    replace Nb := Nb.oth Dp ho obb
    replace Bc := Ob.oth Bc ho (by omega)
    replace Nc := Nc.oth Dq ho ocb
    replace Bd := Ob.oth Bd ho (by omega)
    replace Nd := Nd.oth Dq ho odb
    rw [hF12]
    clear hF12 U ho
    have U := uF12
    clear uF12
    have Bd0 := Bd.get 0
    have Bd1 := Bd.get 1
    have Bd2 := Bd.get 2
    have Bdf0 := Bd.fr 0
    have Bdf1 := Bd.fr 1
    have Bdf2 := Bd.fr 2
    have Bdl := Bd.lt
    simp only [List.getElem?_toArray, List.getElem?_cons_zero, List.getElem?_cons_succ] at Bd0 Bd1 Bd2
    go_upto_region 12 with fail
    clear Bd0 Bdf0 Bd1 Bdf1 Bd2 Bdf2 Bdl
    obtain ⟨F13, hF13⟩ : ∃ V, F12.setCell ⟨w10.heap.size, 0, none⟩ (.bool gg) = V := ⟨_, rfl⟩
    replace Bd : Ob F13 (w10.heap.size) 27 #[.bool gg, .slice Ad nd cd, .int .i64 K'] := by rw [← hF13]; exact Bd.put 0 (.bool gg)
    have uF13 : Up w F13 := by rw [← hF13]; exact U.setCell (show w.heap.size ≤ w10.heap.size from ltBd) _
    have ho : ∀ b', b' ≠ w10.heap.size → F13.heap[b']? = F12.heap[b']? := by rw [← hF13]; exact fun b' hb => Below.heap_setCell F12 ⟨w10.heap.size, 0, none⟩ (.bool gg) b' hb
    replace Ba := Ob.oth Ba ho (by omega)
    replace Na := Na.oth Dp ho oad
    replace Bb := Ob.oth Bb ho (by omega)
    replace Nb := Nb.oth Dp ho obd
    replace Bc := Ob.oth Bc ho (by omega)
    replace Nc := Nc.oth Dq ho ocd
    replace Nd := Nd.oth Dq ho odd
    rw [hF13]
    clear hF13 U ho
    have U := uF13
    clear uF13
    have Ba0 := Ba.get 0
    have Ba1 := Ba.get 1
    have Ba2 := Ba.get 2
    have Baf0 := Ba.fr 0
    have Baf1 := Ba.fr 1
    have Baf2 := Ba.fr 2
    have Bal := Ba.lt
    simp only [List.getElem?_toArray, List.getElem?_cons_zero, List.getElem?_cons_succ] at Ba0 Ba1 Ba2
    have Bb0 := Bb.get 0
    have Bb1 := Bb.get 1
    have Bb2 := Bb.get 2
    have Bbf0 := Bb.fr 0
    have Bbf1 := Bb.fr 1
    have Bbf2 := Bb.fr 2
    have Bbl := Bb.lt
    simp only [List.getElem?_toArray, List.getElem?_cons_zero, List.getElem?_cons_succ] at Bb0 Bb1 Bb2
    go_wp2_with fail
    clear Ba0 Baf0 Ba1 Baf1 Ba2 Baf2 Bal
    clear Bb0 Bbf0 Bb1 Bbf1 Bb2 Bbf2 Bbl
    refine (CE.out _ _ _ _ _ _ _ _ _ _ _ Na Nb).mono ?_
    rintro _ w14 ⟨rfl, h14⟩
    replace U := U.trans h14
    replace Ba := Ba.up h14
    replace Bb := Bb.up h14
    replace Bc := Bc.up h14
    replace Bd := Bd.up h14
    replace Na := Na.up h14
    replace Nb := Nb.up h14
    replace Nc := Nc.up h14
    replace Nd := Nd.up h14
    clear h14
    have Bc0 := Bc.get 0
    have Bc1 := Bc.get 1
    have Bc2 := Bc.get 2
    have Bcf0 := Bc.fr 0
    have Bcf1 := Bc.fr 1
    have Bcf2 := Bc.fr 2
    have Bcl := Bc.lt
    simp only [List.getElem?_toArray, List.getElem?_cons_zero, List.getElem?_cons_succ] at Bc0 Bc1 Bc2
    have Bd0 := Bd.get 0
    have Bd1 := Bd.get 1
    have Bd2 := Bd.get 2
    have Bdf0 := Bd.fr 0
    have Bdf1 := Bd.fr 1
    have Bdf2 := Bd.fr 2
    have Bdl := Bd.lt
    simp only [List.getElem?_toArray, List.getElem?_cons_zero, List.getElem?_cons_succ] at Bd0 Bd1 Bd2
    go_wp2_with fail
    clear Bc0 Bcf0 Bc1 Bcf1 Bc2 Bcf2 Bcl
    clear Bd0 Bdf0 Bd1 Bdf1 Bd2 Bdf2 Bdl
    refine (CE.out _ _ _ _ _ _ _ _ _ _ _ Nc Nd).mono ?_
    rintro _ w15 ⟨rfl, h15⟩
    replace U := U.trans h15
    replace Ba := Ba.up h15
    replace Bb := Bb.up h15
    replace Bc := Bc.up h15
    replace Bd := Bd.up h15
    replace Na := Na.up h15
    replace Nb := Nb.up h15
    replace Nc := Nc.up h15
    replace Nd := Nd.up h15
    clear h15
    clear CE
    have Ba0 := Ba.get 0
    have Ba1 := Ba.get 1
    have Ba2 := Ba.get 2
    have Baf0 := Ba.fr 0
    have Baf1 := Ba.fr 1
    have Baf2 := Ba.fr 2
    have Bal := Ba.lt
    simp only [List.getElem?_toArray, List.getElem?_cons_zero, List.getElem?_cons_succ] at Ba0 Ba1 Ba2
    go_wp2_with fail
    clear Ba0 Baf0 Ba1 Baf1 Ba2 Baf2 Bal
    go_ret
    exact ⟨rfl, U⟩
end Go.Proofs.YtpbdiolfdpfmdaaGreatDoor
