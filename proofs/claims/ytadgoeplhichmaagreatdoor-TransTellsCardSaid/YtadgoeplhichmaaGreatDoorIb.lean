/-
  From form to form, in numbers: the laws. No program is named here.
-/
import Derived.Test.YtadgoeplhichmaaGreatDoorIa
namespace Go.Proofs.YtadgoeplhichmaaGreatDoor
open Go
set_option linter.unusedVariables false
set_option linter.unusedSimpArgs false

namespace M
/-- What is beyond all boundaries is too large. -/
theorem over_big {f : Fm} (ok : Ok f) (ok2 : Ok2 f) (ok3 : Ok3 f) {g : Bool} {q k : Nat} {o : Bool} (hq : mst f g = q) (h : Nr f q (sz 1 4000 0) k o) : k = q ∧ o = true := by
  obtain ⟨r, hr, _, _, qt⟩ := mst_rng ok ok2 ok3 g
  obtain rfl : q = r := by omega
  obtain ⟨_, m, z, hb, _⟩ := bo_ex ok ok2 qt
  obtain ⟨m0, m1, z1, z2⟩ := bd_z ok ok2 ok3 qt hb
  have hg : Gt 1 4000 m z := by
    refine ⟨-z, by omega, by omega, ?_⟩
    rw [show z + -z = 0 by omega, show (0 : Int).toNat = 0 from rfl, Nat.pow_zero, Nat.mul_one, Nat.one_mul]
    have : (2 : Nat) ^ 64 ≤ 2 ^ (4000 + -z).toNat := Nat.pow_le_pow_right (by decide) (by omega)
    have c : (2 : Nat) ^ 64 = 18446744073709551616 := by decide
    omega
  exact nr_uniq ok ok2 ok3 qt h (nr_over (by omega) (by omega) hb hg)
theorem mod_h {f : Fm} (ok : Ok f) {p : Int} (p1 : 0 ≤ p) (p2' : p ≤ msk f) (k2 : f.k = 2) : p % half f = kyf f p := by
  have hm := ok.hm
  have hs := ngs_is ok (by omega) p
  by_cases c : half f ≤ p
  · rw [kyf_two ok k2 (by rw [hs]; exact decide_eq_true c)]
    conv => lhs; rw [show p = (p - half f) + half f * 1 by omega, Int.add_mul_emod_self_left]
    exact Int.emod_eq_of_lt (by omega) (by omega)
  · rw [kyf_pos (by rw [hs]; exact decide_eq_false c)]
    exact Int.emod_eq_of_lt p1 (by omega)
/-- Canon, by classes. -/
theorem cn_cls {i : Nat} (a : 1 ≤ i) (b : i ≤ 14) {p : Int} (p1 : 0 ≤ p) (hp : p ≤ msk (tb i)) : cn i p = if cls (tb i) p = 4 then (tb i).x else p := by
  unfold cn
  by_cases k2 : (tb i).k = 2
  · rw [mod_h (ok i a b) p1 hp k2, cls_two_ k2]
    unfold bey
    by_cases c : (tb i).t < kyf (tb i) p
    · by_cases d : kyf (tb i) p = (tb i).n
      · rw [if_neg (fun e => by simp [d] at e), if_pos c, if_pos d, if_neg (by decide)]
      · rw [if_pos ⟨k2, by simp [c, d]⟩, if_pos c, if_neg d, if_pos rfl]
    · rw [if_neg (fun e => by simp [c] at e), if_neg c]
      split <;> rw [if_neg (by decide)]
  · rw [if_neg (fun e => k2 e.1)]
    by_cases c : cls (tb i) p = 4
    · rw [if_pos c]
      unfold cls at c
      rw [if_neg (fun e => k2 e.1)] at c
      split at c
      · rename_i e; exact e.2.2
      · split at c <;> exact absurd c (by decide)
    · rw [if_neg c]
theorem three_two {f : Fm} {p : Int} (h : cls f p = 3) : f.k = 2 ∧ kyf f p = f.n ∧ f.t < kyf f p := by
  unfold cls at h
  split at h
  · rename_i e
    split at h
    · rename_i e2; exact ⟨e.1, e2, e.2⟩
    · exact absurd h (by decide)
  · split at h
    · exact absurd h (by decide)
    · split at h <;> exact absurd h (by decide)
/-- In its own form. -/
theorem same {i p q : Nat} {x : Int} (a : 1 ≤ i) (b : i ≤ 14) (hp : (p : Int) ≤ msk (tb i)) (h : Tc (i : Int) (i : Int) 2 p q x) : x = 0 ∧ (q : Int) = cn i p := by
  have ok := ok i a b
  have ok2 := ok2 i a b
  have ok3 := ok3 i a b
  obtain ⟨c, g, m, z, e, hd, hr⟩ := h
  have hd0 : e = 0 ∧ Dv (tb i) p c g m z := by
    rcases hd with ⟨h, _⟩ | ⟨j, e1, _, _, ⟨h, _⟩ | ⟨_, h, e⟩⟩
    · omega
    · obtain rfl : i = j := by omega
      omega
    · obtain rfl : i = j := by omega
      exact ⟨e, h⟩
  obtain ⟨rfl, hv⟩ := hd0
  rw [cn_cls a b (by omega) hp, (dv_four hv).2]
  rcases hr with ⟨h1, _⟩ | ⟨_, h1, _⟩ | ⟨_, j, e1, _, _, ⟨h1, _⟩ | ⟨_, ht, hx⟩⟩
  · exact absurd rfl h1
  · omega
  · exact absurd (.inr rfl) h1
  · obtain rfl : i = j := by omega
    refine ⟨hx, ?_⟩
    rcases ht with ⟨rfl, h⟩ | ⟨rfl, h, _⟩ | ⟨rfl, h, hr⟩ | ⟨hc, hr⟩
    · rw [if_pos rfl]; exact h
    · have := (three_two (dv_four hv).2).1
      omega
    · rw [if_neg (by decide)]
      obtain ⟨k2, hk, ht⟩ := three_two (dv_four hv).2
      have hg : g = ngs (tb i) p := by
        rcases hv with ⟨_, e, _⟩ | ⟨_, _, e, _⟩ | ⟨_, e, _⟩ | ⟨_, e, _⟩
        · exact absurd e (by decide)
        · exact e
        · exact absurd e (by decide)
        · exact absurd e (by decide)
      have hm := ok.hm
      have t0 := ok.t
      rcases hr with ⟨e, _⟩ | ⟨_, r, k, o, hq, hn, ho⟩
      · omega
      · obtain ⟨rfl, rfl⟩ := over_big ok ok2 ok3 hq hn
        have n0 : (tb i).n ≠ 0 := by omega
        have ns : ¬ st (tb i) 2 := by unfold st; omega
        rcases ho with ⟨_, _, e⟩ | ⟨e, _⟩
        · rw [e]
          unfold tl
          rw [if_neg n0, hg]
          by_cases s : ngs (tb i) p = true
          · have := kyf_two ok k2 s
            rw [if_pos s]; omega
          · have s' : ngs (tb i) p = false := by simpa using s
            have := kyf_pos s'
            rw [if_neg s]; omega
        · exact absurd ⟨rfl, ns⟩ e
    · rw [if_neg (by omega)]
      exact rv_one ok ok2 ok3 hr (has_rv ok ok2 ok3 hp hv hc 2).1
/-- A number is rounded once. -/
theorem rounds {ii jj mode : Int} {p q : Nat} {x : Int} (h : Tc ii jj mode p q x) {c : Int} {g : Bool} {m : Nat} {z : Int} (hd : Dc ii p c g m z 0) (hc : c = 1 ∨ c = 2) {r y : Int} (hr : Rc jj mode g (sz m z 0) r y) : (q : Int) = r ∧ x = y := by
  obtain ⟨c', g', m', z', e, hd', hs⟩ := h
  obtain ⟨rfl, rfl, rfl, rfl, rfl⟩ := dc_all hd hd'
  rcases hs with ⟨h1, _⟩ | ⟨_, h1, h2, h3⟩ | ⟨_, j, h1, j1, j2, h4⟩
  · exact absurd rfl h1
  · rcases hr with ⟨_, e1, e2⟩ | ⟨k, e1, _⟩
    · exact ⟨by omega, by omega⟩
    · omega
  · rcases hr with ⟨e0, _⟩ | ⟨k, e1, k1, k2, e2⟩
    · omega
    · obtain rfl : j = k := by omega
      rcases h4 with ⟨n1, n2, n3⟩ | ⟨n1, n2, n3⟩ <;> rcases e2 with ⟨f1, f2, f3⟩ | ⟨f1, f2, f3⟩
      · exact ⟨by omega, by omega⟩
      · exact absurd f1 n1
      · exact absurd n1 f1
      · refine ⟨?_, by omega⟩
        rcases n2 with ⟨e, _⟩ | ⟨e, _⟩ | ⟨e, _⟩ | ⟨_, e⟩
        · omega
        · omega
        · omega
        · exact rv_one (ok j j1 j2) (ok2 j j1 j2) (ok3 j j1 j2) e f2
theorem ngs_low {f : Fm} (ok : Ok f) {p : Int} (h : p < half f) (p0 : 0 ≤ p) : ngs f p = false := by
  by_cases k4 : f.k = 4
  · unfold ngs sgn
    rw [if_pos k4]; rfl
  · rw [ngs_is ok k4]; exact decide_eq_false (by omega)
/-- The sign of what Round tells. -/
theorem rv_sgn {f : Fm} (ok : Ok f) (ok2 : Ok2 f) (ok3 : Ok3 f) {mode : Int} {g : Bool} {X : Nat} {q c : Int} {g' : Bool} {m : Nat} {z : Int} (h : Rv f mode g X q) (hv : Dv f q c g' m z) (h4 : c ≠ 4) (h1 : ¬ (c = 1 ∧ f.k ≠ 2)) : g' = g := by
  have hc := (dv_four hv).2
  have key : ngs f q = g → g' = g := fun e => by
    rcases hv with ⟨_, rfl, _⟩ | ⟨_, rfl, e1, _⟩ | ⟨_, rfl, e1, _⟩ | ⟨_, rfl, e1, _⟩
    · exact absurd rfl h4
    · rw [e1, e]
    · have k2 : f.k = 2 := Classical.byContradiction fun e => h1 ⟨rfl, e⟩
      rw [e1, e, decide_eq_true k2, Bool.and_true]
    · rw [e1, e]
  have hm := ok.hm
  have hx := ok.x
  have hn := ok.n
  rcases h with ⟨k4, e, rfl⟩ | ⟨n4, r, k, o, hq, hn', ⟨ho, hs, rfl⟩ | ⟨_, rfl⟩⟩
  · exfalso
    apply h4
    have := ok2.four k4
    rw [← hc]
    unfold cls
    rw [if_neg (by omega), if_pos ⟨by omega, by omega, rfl⟩]
  · obtain ⟨t1, t2, t3⟩ := tl_class ok ok2 ok3 g hs
    have c3 : cls f (tl f g) = 3 := by
      rcases t3 with e | e
      · exact e
      · exact absurd (hc.symm.trans e) h4
    obtain ⟨k2, e1, e2⟩ := three_two c3
    have t0 := ok.t
    refine key ?_
    have n0 : f.n ≠ 0 := by omega
    obtain ⟨_, n1, n2⟩ := ok3.most n0
    unfold tl
    rw [if_neg n0, ngs_is ok (by omega)]
    cases g
    · rw [if_neg (by decide)]; exact decide_eq_false (by omega)
    · rw [if_pos rfl]; exact decide_eq_true (by omega)
  · obtain ⟨r', hr', _, _, qt⟩ := mst_rng ok ok2 ok3 g
    obtain rfl : r = r' := by omega
    have kq : k ≤ r := by
      rcases hn' with ⟨_, rfl, _⟩ | ⟨_, h, _⟩
      · exact Nat.le_refl _
      · exact h
    obtain ⟨_, _, a1, a2⟩ := pat_key ok ok2 ok3 (neg := g) (k := k) (fun e => n4 ⟨e.1, .inl e.2⟩) (by omega)
    by_cases k0 : k ≠ 0 ∨ f.k = 4
    · exact key (a1 k0).2.2
    · have c1 := a2 (by omega)
      have k2 : f.k = 2 := Classical.byContradiction fun e => h1 ⟨by omega, e⟩
      refine key ?_
      obtain rfl : k = 0 := by omega
      unfold pat
      cases g
      · rw [if_pos rfl, ngs_is ok (by omega)]; exact decide_eq_false (by omega)
      · rw [if_neg (by decide), if_pos k2, ngs_is ok (by omega)]; exact decide_eq_true (by omega)
/-- The sign of no number. -/
theorem nan_sgn {f : Fm} (ok : Ok f) (ok2 : Ok2 f) (ok3 : Ok3 f) {c : Int} {g : Bool} {m : Nat} {z : Int} (hv : Dv f f.x c g m z) : g = false ∧ (f.k = 1 ∨ f.k = 4 → c = 4) := by
  have hc := (dv_four hv).2
  have hm := ok.hm
  have hx := ok.x
  have low : ngs f f.x = false → g = false := fun e => by
    rcases hv with ⟨_, _, e1, _⟩ | ⟨_, _, e1, _⟩ | ⟨_, _, e1, _⟩ | ⟨_, _, e1, _⟩
    · exact e1
    · rw [e1, e]
    · rw [e1, e]; rfl
    · rw [e1, e]
  have four : f.k ≠ 2 → f.x ≠ 0 → c = 4 := fun a b => by
    rw [← hc]
    unfold cls
    rw [if_neg (fun e => a e.1), if_pos ⟨a, b, rfl⟩]
  have c4 : c = 4 → g = false := fun e => by
    rcases hv with ⟨_, _, e1, _⟩ | ⟨_, e1, _⟩ | ⟨_, e1, _⟩ | ⟨_, e1, _⟩
    · exact e1
    · omega
    · omega
    · omega
  rcases ok.k with e | e | e | e
  · have := ok2.one e
    have t0 := ok.t
    have := four (by omega) (by omega)
    exact ⟨c4 this, fun _ => this⟩
  · have := ok.two e
    refine ⟨low ?_, fun h => by omega⟩
    exact ngs_low ok (by omega) hx.1
  · have := ok2.tri e
    refine ⟨low ?_, fun h => by omega⟩
    exact ngs_low ok (by omega) hx.1
  · have := ok2.four e
    have := four (by omega) (by omega)
    exact ⟨c4 this, fun _ => this⟩
/-- The sign stays. -/
theorem signs14 {ii jj mode : Int} {p q : Nat} (h : Tc ii jj mode p q 0) {c : Int} {g : Bool} {m : Nat} {z : Int} (hd : Dc ii p c g m z 0) {c' : Int} {g' : Bool} {m' : Nat} {z' : Int} (hd' : Dc jj q c' g' m' z' 0) :
    ∃ j : Nat, jj = j ∧ (1 ≤ j ∧ j ≤ 14) ∧ (((c' = 4 ∨ c = 4 ∨ (c' = 1 ∧ (tb j).k ≠ 2)) ∧ g' = false) ∨ (¬ (c' = 4 ∨ c = 4 ∨ (c' = 1 ∧ (tb j).k ≠ 2)) ∧ g' = g)) := by
  obtain ⟨i, j, c2, g2, m2, z2, rfl, rfl, ⟨i1, i2⟩, ⟨j1, j2⟩, hm, hp, hv, ht⟩ := tc_have h
  obtain ⟨rfl, rfl, rfl, rfl, _⟩ := dc_all hd (dc_mk i1 i2 hp hv)
  obtain ⟨j', e, _, _, hq, hv'⟩ := dc_have hd'
  obtain rfl : j = j' := by omega
  have ok := ok j j1 j2
  have ok2 := ok2 j j1 j2
  have ok3 := ok3 j j1 j2
  refine ⟨j, rfl, ⟨j1, j2⟩, ?_⟩
  by_cases a : c' = 4 ∨ c = 4 ∨ (c' = 1 ∧ (tb j).k ≠ 2)
  · refine .inl ⟨a, ?_⟩
    have z4 : c' = 4 → g' = false := fun e => by
      rcases hv' with ⟨_, _, e1, _⟩ | ⟨_, e1, _⟩ | ⟨_, e1, _⟩ | ⟨_, e1, _⟩
      · exact e1
      · omega
      · omega
      · omega
    rcases a with a | a | a
    · exact z4 a
    · rcases ht with ⟨_, e⟩ | ⟨e, _⟩ | ⟨e, _⟩ | ⟨e, _⟩
      · rw [e] at hv'
        exact (nan_sgn ok ok2 ok3 hv').1
      · omega
      · omega
      · omega
    · rcases hv' with ⟨_, e1, _⟩ | ⟨_, e1, _⟩ | ⟨_, _, e1, _⟩ | ⟨_, e1, _⟩
      · omega
      · omega
      · rw [e1, decide_eq_false a.2, Bool.and_false]
      · omega
  · refine .inr ⟨a, ?_⟩
    rcases ht with ⟨e, _⟩ | ⟨_, e, e2⟩ | ⟨_, _, e⟩ | ⟨_, e⟩
    · exact absurd (.inr (.inl e)) a
    · rw [e2] at hv'
      exact absurd (.inl ((nan_sgn ok ok2 ok3 hv').2 (by omega))) a
    · exact rv_sgn ok ok2 ok3 e hv' (fun e => a (.inl e)) (fun e => a (.inr (.inr e)))
    · exact rv_sgn ok ok2 ok3 e hv' (fun e => a (.inl e)) (fun e => a (.inr (.inr e)))
/-- The key of what Saturate tells of a number above nought. -/
theorem sat_key {f : Fm} (ok : Ok f) (ok2 : Ok2 f) (ok3 : Ok3 f) {X : Nat} (x0 : X ≠ 0) {p : Int} (h : Rv f 1 false X p) : ∃ q k : Nat, ∃ o, (q : Int) ≤ tp f ∧ Nr f q X k o ∧ (cls f p = 1 ∨ cls f p = 2) ∧ kyf f p = k ∧ mst f false = q := by
  rcases h with ⟨_, e, _⟩ | ⟨n4, q, k, o, hq, hn, ⟨_, e, _⟩ | ⟨_, rfl⟩⟩
  · rcases e with e | e
    · exact absurd e (by decide)
    · exact absurd e x0
  · exact absurd (.inl rfl) e
  · obtain ⟨r, hr, _, _, qt⟩ := mst_rng ok ok2 ok3 false
    obtain rfl : q = r := by omega
    have kq : k ≤ q := by
      rcases hn with ⟨_, rfl, _⟩ | ⟨_, h, _⟩
      · exact Nat.le_refl _
      · exact h
    obtain ⟨_, _, a1, a2⟩ := pat_key ok ok2 ok3 (neg := false) (k := k) (fun e => absurd e.2 (by decide)) (by omega)
    refine ⟨q, k, o, qt, hn, ?_⟩
    by_cases k0 : k ≠ 0 ∨ f.k = 4
    · exact ⟨.inr (a1 k0).1, (a1 k0).2.1, hq⟩
    · refine ⟨.inl (a2 (by omega)), ?_, hq⟩
      obtain rfl : k = 0 := by omega
      have hm := ok.hm
      have t0 := ok.t
      have hx := ok.x
      show kyf f 0 = 0
      exact kyf_pos (ngs_low ok (by have := (mst_rng ok ok2 ok3 false); unfold half; exact Int.pow_pos (by decide)) (by decide))
theorem pc_num {i a p : Nat} {m : Nat} {z x : Int} (h : Pc (i : Int) false a p 0) (a0 : a ≠ 0) : 1 ≤ i ∧ i ≤ 14 ∧ (p : Int) ≤ msk (tb i) ∧ ((a : Int) ≤ tp (tb i)) ∧ ∃ m z, Dv (tb i) p 2 false m z ∧ Mg0 (tb i) a m z ∧ m ≠ 0 := by
  rcases h with ⟨_, _, e⟩ | ⟨j, e, i1, i2, ⟨_, _, _, e1⟩ | ⟨n4, ⟨_, _, e1⟩ | ⟨hk, hp, _⟩⟩⟩
  · exact absurd e (by decide)
  · exact absurd e1 (by decide)
  · exact absurd e1 (by decide)
  · obtain rfl : i = j := by omega
    have ok := ok i i1 i2
    have ok2 := ok2 i i1 i2
    have ok3 := ok3 i i1 i2
    obtain ⟨b1, b2, a1, _⟩ := pat_key ok ok2 ok3 (neg := false) (k := a) n4 hk
    obtain ⟨c2, ck, cs⟩ := a1 (.inl a0)
    rw [← hp] at b1 b2 c2 ck cs
    obtain ⟨c, g, m, z, hv⟩ := dv_ex ok ok2 b1 b2
    obtain rfl : c = 2 := (dv_four hv).2.symm.trans c2
    rcases hv with ⟨_, e, _⟩ | ⟨_, e, _⟩ | ⟨_, e, _⟩ | ⟨_, _, hg, k, hk', hm⟩
    · exact absurd e (by decide)
    · exact absurd e (by decide)
    · exact absurd e (by decide)
    · obtain rfl : k = a := by omega
      rw [cs] at hg
      subst hg
      obtain ⟨q, hq, _, _, qt⟩ := mst_rng ok ok2 ok3 false
      exact ⟨i1, i2, b2, by omega, m, z, .inr (.inr (.inr ⟨c2, rfl, cs.symm, k, ck, hm⟩)), .inr ⟨.inl a0, hm⟩, mg_nz hm (.inl a0)⟩
theorem kc_of {j x : Nat} (j1 : 1 ≤ j) (j2 : j ≤ 14) (hx : (x : Int) ≤ msk (tb j)) (hc : cls (tb j) x = 1 ∨ cls (tb j) x = 2) {k : Nat} (hk : kyf (tb j) x = k) {g : Bool} {n : Nat} {e : Int} (h : Kc (j : Int) x g n e) : e = 0 ∧ n = k := by
  rcases h with ⟨h, _⟩ | ⟨l, e1, _, _, ⟨h, _⟩ | ⟨_, h⟩⟩
  · omega
  · obtain rfl : j = l := by omega
    omega
  · obtain rfl : j = l := by omega
    rcases h with ⟨h, _⟩ | ⟨_, _, h, h2⟩ | ⟨_, _, h, h2⟩
    · omega
    · exact ⟨h2, by omega⟩
    · exact ⟨h2, by omega⟩
/-- A greater number has no lesser one. -/
theorem rise {i j a b p q x y : Nat} (hp : Pc (i : Int) false a p 0) (hq : Pc (i : Int) false b q 0) (a0 : a ≠ 0) (b0 : b ≠ 0) (hx : Tc (i : Int) (j : Int) 1 p x 0) (hy : Tc (i : Int) (j : Int) 1 q y 0) {g g' : Bool} {c d : Nat} {e e' : Int} (hc : Kc (j : Int) x g c e) (hd : Kc (j : Int) y g' d e') :
    e = 0 ∧ e' = 0 ∧ (a ≤ b → c ≤ d) := by
  obtain ⟨i1, i2, pm, at', m, z, hv, hm, m0⟩ := pc_num (m := 0) (z := 0) (x := 0) hp a0
  obtain ⟨_, _, qm, bt, n, u, hw, hn, n0⟩ := pc_num (m := 0) (z := 0) (x := 0) hq b0
  obtain ⟨i', j', c1, g1, m1, z1, e1, e2, _, ⟨j1, j2⟩, _, _, hv1, ht⟩ := tc_have hx
  obtain rfl : i = i' := by omega
  obtain rfl : j = j' := by omega
  obtain ⟨rfl, rfl, rfl, rfl⟩ := dv_all hv hv1
  obtain ⟨i', j', c1, g1, m1, z1, e1, e2, _, _, _, _, hv1, hs⟩ := tc_have hy
  obtain rfl : i = i' := by omega
  obtain rfl : j = j' := by omega
  obtain ⟨rfl, rfl, rfl, rfl⟩ := dv_all hw hv1
  have ok' := ok i i1 i2
  have ok2' := ok2 i i1 i2
  have ok3' := ok3 i i1 i2
  have ok := ok j j1 j2
  have ok2 := ok2 j j1 j2
  have ok3 := ok3 j j1 j2
  have rx : Rv (tb j) 1 false (sz m z 0) x := by
    rcases ht with ⟨e, _⟩ | ⟨e, _⟩ | ⟨e, _⟩ | ⟨_, e⟩
    · exact absurd e (by decide)
    · exact absurd e (by decide)
    · exact absurd e (by decide)
    · exact e
  have ry : Rv (tb j) 1 false (sz n u 0) y := by
    rcases hs with ⟨e, _⟩ | ⟨e, _⟩ | ⟨e, _⟩ | ⟨_, e⟩
    · exact absurd e (by decide)
    · exact absurd e (by decide)
    · exact absurd e (by decide)
    · exact e
  obtain ⟨r, k, o, rt, hk, cx, kx, mr⟩ := sat_key ok ok2 ok3 (fun e => m0 (sz_zero.1 e)) rx
  obtain ⟨s, l, o', st', hl, cy, ky, ms⟩ := sat_key ok ok2 ok3 (fun e => n0 (sz_zero.1 e)) ry
  obtain rfl : r = s := by omega
  obtain ⟨rfl, rfl⟩ := kc_of j1 j2 (rv_class ok ok2 ok3 rx).2.1 cx kx hc
  obtain ⟨rfl, rfl⟩ := kc_of j1 j2 (rv_class ok ok2 ok3 ry).2.1 cy ky hd
  refine ⟨rfl, rfl, fun hab => ?_⟩
  obtain ⟨t, htt, _, _, tt⟩ := mst_rng ok' ok2' ok3' false
  have hle : sz m z 0 ≤ sz n u 0 := by
    rcases Nat.lt_or_ge (sz n u 0) (sz m z 0) with h | h
    · obtain ⟨w, hw'⟩ : ∃ w : Nat, tp (tb i) = w := ⟨(tp (tb i)).toNat, by omega⟩
      have h1 := nr_has ok' ok2' ok3' (q := w) (by omega) (show a ≤ w by omega) hm
      have h2 := nr_has ok' ok2' ok3' (q := w) (by omega) (show b ≤ w by omega) hn
      have h3 := (nr_mono ok' ok2' ok3' (q := w) (by omega) (Nat.le_of_lt h) h2 h1).1
      have : a = b := by omega
      subst this
      have h5 := mg_uniq (f := tb i) (k := a) (m := m) (m' := n) (z := z) (z' := u) (by rcases hm with ⟨e, _⟩ | ⟨_, e⟩; exact absurd e a0; exact e) (by rcases hn with ⟨e, _⟩ | ⟨_, e⟩; exact absurd e a0; exact e)
      obtain ⟨rfl, rfl⟩ := h5
      omega
    · exact h
  exact (nr_mono ok ok2 ok3 rt hle hk hl).1
end M
end Go.Proofs.YtadgoeplhichmaaGreatDoor
