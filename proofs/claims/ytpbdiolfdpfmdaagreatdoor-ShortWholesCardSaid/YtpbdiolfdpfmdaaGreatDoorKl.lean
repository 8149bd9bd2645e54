/-
  The walk of ShortPowers: true, and nothing that was there has turned.
-/
import Derived.Test.YtpbdiolfdpfmdaaGreatDoorKg
import Derived.OwnWalk
namespace Go.Proofs.YtpbdiolfdpfmdaaGreatDoor
open Go.RowKit
set_option linter.unusedSimpArgs false
set_option linter.unusedVariables false

namespace M
theorem rc_nat {ii mode : Int} {neg : Bool} {X : Nat} {p x : Int} (h : Rc ii mode neg X p x) : ∃ q : Nat, p = q ∧ q < 18446744073709551616 := by
  rcases h with ⟨_, rfl, _⟩ | ⟨i, _, i1, i2, ⟨_, rfl, _⟩ | ⟨_, hr, _⟩⟩
  · exact ⟨0, rfl, by decide⟩
  · exact ⟨0, rfl, by decide⟩
  · obtain ⟨a, b, _⟩ := rv_class (ok i i1 i2) (ok2 i i1 i2) (ok3 i i1 i2) hr
    have := (ok i i1 i2).hm
    exact ⟨p.toNat, by omega, by omega⟩
theorem sq_one {i : Nat} (i1 : 1 ≤ i) (i2 : i ≤ 14) {p : Nat} {g : Bool} {m : Nat} {z : Int} {m1 : Nat} {z1 : Int} {m2 : Nat} {z2 : Int} {ev : Bool} {t : Int} {n : Nat} {k : Int} {d : Nat} {r : Int} {y D : Nat} {K : Int} (h : Sq (tb i) p g m z m1 z1 m2 z2 ev t n k d r y D K)
    {j : Int} (hj : -31 < j ∧ j < 31) (hr : Rv (tb i) 2 false (sz 1 j j) p) : g = false ∧ 0 < D ∧ D < 10 := by
  obtain ⟨c2, hg, _⟩ := pt_key (ok i i1 i2) (ok2 i i1 i2) h.pt.fit h.pt.dv
  have e := rv_sign (ok i i1 i2) (ok2 i i1 i2) (ok3 i i1 i2) hr c2
  have eg : g = false := hg.trans e.symm
  subst eg
  have hi := (in_rv (ok i i1 i2) (ok2 i i1 i2) (ok3 i i1 i2) h.pt (fun q => by have := sz_zero.1 q; omega)).2 hr
  have ho := in_own (ok i i1 i2) (ok2 i i1 i2) (ok3 i i1 i2) h.pt
  obtain ⟨_, hD⟩ := one_digit (K := K) (I := In m1 z1 m2 z2 ev) (fun a b c d => in_conv a b c d) ho h.tp h.sh h.small (by omega) hi
  exact ⟨rfl, by have := h.dg.ten; omega, hD⟩
end M
/-- A cell holds a value. -/
def Cl (w : World) (p : Addr) (v : Value) : Prop := w.cell? p = some v
theorem Cl.up {w w' : World} {p : Addr} {v : Value} (h : Cl w p v) (u : Up w w') : Cl w' p v := cell_up u h
set_option maxHeartbeats 16000000 in
set_option maxRecDepth 100000 in
theorem spow_walk (w : World) (L : Hid (Lk w)) (x0 : Int) (_wx0 : (Lit.int .i64 x0).wf = true) (x1 : Int) (_wx1 : (Lit.int .i64 x1).wf = true)  : Calls Tryz.prog 10 #[.int .i64 x0, .int .i64 x1] w (True11 w) := by
  obtain ⟨j, hj, j1, j2⟩ := tmod_rng_of x1 31 (by decide)
  obtain ⟨pp, xe, hr⟩ := M.rc_ex x0 2 false (M.sz 1 j j)
  obtain ⟨p, rfl, pb⟩ := M.rc_nat hr
  obtain ⟨gg, D, K, x, hs⟩ := M.shc_ex x0 p
  have CH := Lib.hid (fun W (l : Lk W) => shown11_any W (Lib.hid l.low) (Lib.hid l.form) (Lib.hid l.ten))
  have SC := Lib.hid (fun W (l : Lk W) => short_any W (Lib.hid l.low) (Lib.hid l.form) (Lib.hid l.ten) x0 p pb gg D K x hs)
  have CR := Lib.hid (fun W (l : Lk W) lo' v' (N : Nt W lo' 1 v' 1) => rnd_round W (Lib.hid l.low) (Lib.hid l.form) x0 2 lo' 1 false v' j j 1 N (by omega) (by omega) (by omega) (by have := M.c_128; omega) p xe hr)
  have cases3 : (xe != 0) = true ∨ ((xe != 0) = false ∧ (x != 0) = true) ∨ ((xe != 0) = false ∧ (x != 0) = false ∧ gg = false ∧ 0 < D ∧ D < 10) := by
    by_cases e : xe = 0
    · subst e
      rcases hs with ⟨x00, _⟩ | ⟨rfl, i, rfl, i1, i2, m, z, m1, z1, m2, z2, ev, t, n, k, d, r, y, hq⟩
      · exact .inr (.inl ⟨by simp, by simpa using x00⟩)
      · rcases hr with ⟨_, _, h⟩ | ⟨i', e, _, _, ⟨_, _, h⟩ | ⟨_, hv, _⟩⟩
        · exact absurd h (by decide)
        · exact absurd h (by decide)
        · obtain rfl : i = i' := by omega
          exact .inr (.inr ⟨by simp, by simp, M.sq_one i1 i2 hq ⟨j1, j2⟩ hv⟩)
    · exact .inl (by simpa using e)
  clear hs hr pb
  rcases cases3 with d1 | ⟨d1, d2⟩ | ⟨d1, d2, rfl, D0, D10⟩
  ·
    have U := Up.refl w
    go_enter Tryz.func10, Tryz.ntmps10
    go_wp2_with fail
    refine (CH.out _ (L.out.up U)).mono ?_
    rintro _ w1 ⟨rfl, h1⟩
    replace U := U.trans h1
    clear h1
    clear CH
    go_wp2_with fail
    obtain ⟨V9, hV9⟩ : ∃ V, w1.alloc (.cells #[.int .u64 1] 22) = V := ⟨_, rfl⟩
    have NL : Nt V9 w1.heap.size 1 (.slice (some ⟨w1.heap.size, 0, none⟩) 1 1) 1 := by rw [← hV9]; exact lit1n w1 1 1 rfl (by decide) (by decide)
    have uV9 : Up w1 V9 := by rw [← hV9]; exact (Up.refl _).alloc _
    rw [hV9]
    clear hV9
    replace U := U.trans uV9
    clear uV9
    refine (CR.out _ (L.out.up U) _ _ NL).mono ?_
    rintro _ w2 ⟨rfl, h2⟩
    replace U := U.trans h2
    clear h2
    clear CR NL
    go_wp2_with fail
    refine (SC.out _ (L.out.up U)).mono ?_
    rintro _ w3 ⟨vS, rfl, NS, h3⟩
    replace U := U.trans h3
    clear h3
    clear SC
    obtain ⟨AS, nS, cS, rfl, NS⟩ := NS.sl
    go_wp2_with fail
    go_ret
    exact ⟨rfl, by first | exact U | exact U.alloc _⟩
  ·
    have U := Up.refl w
    go_enter Tryz.func10, Tryz.ntmps10
    go_wp2_with fail
    refine (CH.out _ (L.out.up U)).mono ?_
    rintro _ w1 ⟨rfl, h1⟩
    replace U := U.trans h1
    clear h1
    clear CH
    go_wp2_with fail
    obtain ⟨V9, hV9⟩ : ∃ V, w1.alloc (.cells #[.int .u64 1] 22) = V := ⟨_, rfl⟩
    have NL : Nt V9 w1.heap.size 1 (.slice (some ⟨w1.heap.size, 0, none⟩) 1 1) 1 := by rw [← hV9]; exact lit1n w1 1 1 rfl (by decide) (by decide)
    have uV9 : Up w1 V9 := by rw [← hV9]; exact (Up.refl _).alloc _
    rw [hV9]
    clear hV9
    replace U := U.trans uV9
    clear uV9
    refine (CR.out _ (L.out.up U) _ _ NL).mono ?_
    rintro _ w2 ⟨rfl, h2⟩
    replace U := U.trans h2
    clear h2
    clear CR NL
    go_wp2_with fail
    refine (SC.out _ (L.out.up U)).mono ?_
    rintro _ w3 ⟨vS, rfl, NS, h3⟩
    replace U := U.trans h3
    clear h3
    clear SC
    obtain ⟨AS, nS, cS, rfl, NS⟩ := NS.sl
    go_wp2_with fail
    go_ret
    exact ⟨rfl, by first | exact U | exact U.alloc _⟩
  ·
    have U := Up.refl w
    go_enter Tryz.func10, Tryz.ntmps10
    go_wp2_with fail
    refine (CH.out _ (L.out.up U)).mono ?_
    rintro _ w1 ⟨rfl, h1⟩
    replace U := U.trans h1
    clear h1
    clear CH
    go_wp2_with fail
    obtain ⟨V9, hV9⟩ : ∃ V, w1.alloc (.cells #[.int .u64 1] 22) = V := ⟨_, rfl⟩
    have NL : Nt V9 w1.heap.size 1 (.slice (some ⟨w1.heap.size, 0, none⟩) 1 1) 1 := by rw [← hV9]; exact lit1n w1 1 1 rfl (by decide) (by decide)
    have uV9 : Up w1 V9 := by rw [← hV9]; exact (Up.refl _).alloc _
    rw [hV9]
    clear hV9
    replace U := U.trans uV9
    clear uV9
    refine (CR.out _ (L.out.up U) _ _ NL).mono ?_
    rintro _ w2 ⟨rfl, h2⟩
    replace U := U.trans h2
    clear h2
    clear CR NL
    go_wp2_with fail
    refine (SC.out _ (L.out.up U)).mono ?_
    rintro _ w3 ⟨vS, rfl, NS, h3⟩
    replace U := U.trans h3
    clear h3
    clear SC
    obtain ⟨AS, nS, cS, rfl, NS⟩ := NS.sl
    obtain ⟨rfl, b, o, rfl, hc⟩ := NS.one D0 (by omega)
    have HC : Cl w3 ⟨b, o, none⟩ (u64 D) := hc
    clear NS hc
    go_upto_region 5 with fail
    obtain ⟨V4, hV4⟩ : ∃ V4, w3.alloc (.cells #[.bool false, .slice (some ⟨b, o, none⟩) 1 cS, .int .i64 K] 27) = V4 := ⟨_, rfl⟩
    have BS : Ob V4 (w3.heap.size) 27 #[.bool false, .slice (some ⟨b, o, none⟩) 1 cS, .int .i64 K] := by rw [← hV4]; exact Ob.mk_ _ _ _
    have sV4 : V4.heap.size = w3.heap.size + 1 := by rw [← hV4]; exact (Array.size_push _)
    have uV4 : Up w3 V4 := by rw [← hV4]; exact (Up.refl _).alloc _
    have ltBS : w.heap.size ≤ w3.heap.size := by have := U.size; omega
    rw [hV4]
    clear hV4
    replace U := U.trans uV4
    replace HC := HC.up uV4
    clear uV4
    clear sV4
    have glBS := BS.lt
    have hc9 : V4.cell? ⟨b, o, none⟩ = some (u64 D) := HC
    have d10 : decide ((D : Int) < 10) = true := decide_eq_true (by omega)
    have d11 : decide (D < 10) = true := decide_eq_true D10
    have BS0 := BS.get 0
    have BS1 := BS.get 1
    have BS2 := BS.get 2
    have BSf0 := BS.fr 0
    have BSf1 := BS.fr 1
    have BSf2 := BS.fr 2
    have BSl := BS.lt
    simp only [List.getElem?_toArray, List.getElem?_cons_zero, List.getElem?_cons_succ] at BS0 BS1 BS2
    go_wp2_with fail
    clear BS0 BSf0 BS1 BSf1 BS2 BSf2 BSl
    go_ret
    exact ⟨rfl, U⟩
end Go.Proofs.YtpbdiolfdpfmdaaGreatDoor
