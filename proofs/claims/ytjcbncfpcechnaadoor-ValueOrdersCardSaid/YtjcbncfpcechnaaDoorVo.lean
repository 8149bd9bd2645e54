/-
  Layer 7 in numbers: a pattern and its key, back and forth; the other sign; what is no number.
-/
import Derived.Test.YtjcbncfpcechnaaDoorVb
namespace Go.Proofs.YtjcbncfpcechnaaDoor
open Go.RowKit

namespace M
theorem ngs_is {f : Fm} (h : Ok f) (hk : f.k ≠ 4) (p : Int) : ngs f p = decide (half f ≤ p) := by
  have hm := h.hm
  unfold ngs
  rw [((sgn_ok h).2 hk).1, decide_eq_false (show ¬ half f = 0 by omega)]
  rfl
theorem ngs_four {f : Fm} (h : Ok f) (hk : f.k = 4) (p : Int) : ngs f p = false := by
  unfold ngs
  rw [(sgn_ok h).1 hk]
  rfl
theorem kyf_pos {f : Fm} {p : Int} (h : ngs f p = false) : kyf f p = p := by
  unfold kyf
  rw [h, if_neg (by decide)]
theorem kyf_two {f : Fm} (h : Ok f) (hk : f.k = 2) {p : Int} (hn : ngs f p = true) : kyf f p = p - half f := by
  unfold kyf
  rw [hn, if_pos rfl, if_pos hk, ((sgn_ok h).2 (by omega)).1]
theorem kyf_trn {f : Fm} (hk : f.k ≠ 2) {p : Int} (hn : ngs f p = true) : kyf f p = msk f - p + 1 := by
  unfold kyf
  rw [hn, if_pos rfl, if_neg hk]
/-- A magnitude but nought is no nought. -/
theorem mg_nz {f : Fm} {k m : Nat} {z : Int} (h : Mg f k m z) (h0 : k ≠ 0 ∨ f.k = 4) : m ≠ 0 := by
  rcases h with ⟨_, n, _, _, h⟩ | ⟨e, p, _, _, h⟩ | ⟨_, _, _, ho, _⟩ | ⟨_, _, _, rfl, _⟩
  · have := h.1; omega
  · intro h1
    have := h.zero.1.1 h1
    omega
  · omega
  · decide
/-- A number's key: there is a pattern of it, and it is the number's own. -/
theorem kv_back {f : Fm} (ok : Ok f) (ok2 : Ok2 f) {p : Nat} {g : Bool} {k : Nat} (p2' : (p : Int) ≤ msk f) (h : Kv f p g k 0) :
    ¬ (f.k = 4 ∧ g = true) ∧ (k : Int) ≤ mst f g ∧ pat f g k = p ∧ (k : Int) ≤ tp f ∧ ∃ c m z, Dv f p c g m z ∧ Mg0 f k m z ∧ ((c = 1 ∧ m = 0) ∨ (c = 2 ∧ m ≠ 0)) := by
  have hm := ok.hm
  have ht := ok.t
  have hc : cls f p = 1 ∨ cls f p = 2 := by
    rcases h with ⟨_, _, _, h⟩ | ⟨h, _⟩ | ⟨h, _⟩
    · omega
    · exact .inl h
    · exact .inr h
  obtain ⟨r1, r2, r3, r4⟩ := cls_key ok ok2 (p := p) (by omega) p2' hc
  rcases h with ⟨_, _, _, h⟩ | ⟨h1, rfl, hk, _⟩ | ⟨h1, rfl, hk, _⟩
  · omega
  · -- a nought
    have h4 : f.k ≠ 4 := by
      intro h4
      have h2 := h1
      unfold cls at h2
      rw [if_neg (by omega)] at h2
      split at h2
      · omega
      · rw [if_neg (by omega)] at h2
        omega
    have k0 : kyf f p = 0 := by
      have h2 := h1
      unfold cls at h2
      split at h2
      · split at h2 <;> omega
      · split at h2
        · omega
        · split at h2
          · rename_i h3; exact h3.1
          · omega
    have hn := ngs_is ok h4 p
    obtain rfl : k = 0 := by omega
    refine ⟨fun e => h4 e.1, ?_, ?_, by unfold tp; split <;> omega, 1, 0, 0, .inr (.inr (.inl ⟨h1, rfl, rfl, rfl, rfl⟩)), .inl ⟨rfl, h4, rfl, rfl⟩, .inl ⟨rfl, rfl⟩⟩
    · unfold mst; split <;> omega
    · unfold pat
      by_cases h2 : f.k = 2
      · rw [decide_eq_true h2, Bool.and_true]
        cases hg : ngs f p with
        | false =>
          have := kyf_pos hg
          rw [if_pos rfl]; omega
        | true =>
          have := kyf_two ok h2 hg
          rw [if_neg (by decide), if_pos h2]; omega
      · rw [decide_eq_false h2, Bool.and_false, if_pos rfl]
        cases hg : ngs f p with
        | false =>
          have := kyf_pos hg
          omega
        | true =>
          have := kyf_trn h2 hg
          omega
  · obtain ⟨m, z, hmz⟩ := mg_ex ok ok2 (k := k) (by omega) (by have := r4 h1; omega)
    have k0 : k ≠ 0 ∨ f.k = 4 := by have := r4 h1; omega
    refine ⟨?_, ?_, ?_, by omega, 2, m, z, .inr (.inr (.inr ⟨h1, rfl, rfl, k, hk, hmz⟩)), .inr ⟨k0, hmz⟩, .inr ⟨rfl, mg_nz hmz k0⟩⟩
    · rintro ⟨h4, hg⟩
      rw [ngs_four ok h4] at hg
      cases hg
    · unfold mst
      unfold tp at r2
      cases hg : ngs f p with
      | false =>
        have := r3 hg
        split <;> omega
      | true =>
        by_cases h3 : f.k = 3
        · rw [if_pos ⟨h3, rfl⟩]
          rw [if_pos h3] at r2
          omega
        · rw [if_neg (fun e => h3 e.1)]
          rw [if_neg h3] at r2
          omega
    · unfold pat
      cases hg : ngs f p with
      | false =>
        have := kyf_pos hg
        rw [if_pos rfl]; omega
      | true =>
        have h4 : f.k ≠ 4 := by
          intro h4
          rw [ngs_four ok h4] at hg
          cases hg
        rw [if_neg (by decide)]
        by_cases h2 : f.k = 2
        · have := kyf_two ok h2 hg
          rw [if_pos h2]; omega
        · have := kyf_trn h2 hg
          rw [if_neg h2, if_neg (by omega)]; omega
/-- What cls is, by the key and what is left out. -/
theorem cls_two_ {f : Fm} (hk : f.k = 2) {p : Int} : cls f p = if f.t < kyf f p then (if kyf f p = f.n then 3 else 4) else if kyf f p = 0 then 1 else 2 := by
  unfold cls
  by_cases c : f.t < kyf f p
  · rw [if_pos ⟨hk, c⟩, if_pos c]
  · rw [if_neg (fun e => c e.2), if_neg c, if_neg (fun e => e.1 hk)]
    by_cases c0 : kyf f p = 0
    · rw [if_pos ⟨c0, by omega⟩, if_pos c0]
    · rw [if_neg (fun e => c0 e.1), if_neg c0]
theorem cls_trn_ {f : Fm} (hk : f.k = 1 ∨ f.k = 3) {p : Int} : cls f p = if f.x ≠ 0 ∧ p = f.x then 4 else if kyf f p = 0 then 1 else 2 := by
  unfold cls
  rw [if_neg (fun e => by omega)]
  by_cases c : f.x ≠ 0 ∧ p = f.x
  · rw [if_pos ⟨by omega, c⟩, if_pos c]
  · rw [if_neg (fun e => c e.2), if_neg c]
    by_cases c0 : kyf f p = 0
    · rw [if_pos ⟨c0, by omega⟩, if_pos c0]
    · rw [if_neg (fun e => c0 e.1), if_neg c0]
/-- The number of the other sign. -/
theorem kv_turn {f : Fm} (ok : Ok f) (ok2 : Ok2 f) {p : Nat} {g : Bool} {k : Nat} (p2' : (p : Int) ≤ msk f) (h : Kv f p g k 0) :
    (f.k = 4 ∧ g = false) ∨ (f.k = 3 ∧ g = true ∧ f.t < k ∧ mst f false < (k : Int)) ∨
    (f.k ≠ 4 ∧ ¬ (f.k = 3 ∧ g = true ∧ f.t < k) ∧ (k : Int) ≤ mst f (!g) ∧ ∃ (q : Nat) (c m : _) (z : Int) (g2 : Bool), pat f (!g) k = q ∧ (q : Int) ≤ msk f ∧ Dv f p c g m z ∧ Dv f q c g2 m z ∧ (c = 1 ∨ c = 2) ∧ (g2 = !g ∨ (c = 1 ∧ f.k ≠ 2))) := by
  have hm := ok.hm
  have ht := ok.t
  have o1 := ok2.one
  have o2 := ok.two
  have o3 := ok2.tri
  obtain ⟨b1, b2, b3, b4, c, m, z, hd, hmz, hc⟩ := kv_back ok ok2 p2' h
  have hc' : c = 1 ∨ c = 2 := by rcases hc with ⟨h, _⟩ | ⟨h, _⟩ <;> omega
  by_cases h4 : f.k = 4
  · refine .inl ⟨h4, ?_⟩
    cases g
    · rfl
    · exact absurd ⟨h4, rfl⟩ b1
  · have hn := ngs_is ok h4
    right
    by_cases h2 : f.k = 2
    · -- a sign of its own
      refine .inr ⟨h4, by omega, by unfold mst at b2 ⊢; rw [if_neg (fun e => by omega)] at b2 ⊢; exact b2, ?_⟩
      have kt : (k : Int) ≤ f.t := by unfold tp at b4; rw [if_neg (by omega)] at b4; exact b4
      have kh : (k : Int) < half f := by omega
      have hq : ∃ q : Nat, pat f (!g) k = q ∧ (q : Int) ≤ msk f ∧ ngs f q = !g ∧ kyf f q = k := by
        unfold pat
        cases g
        · refine ⟨(k + half f).toNat, ?_, ?_, ?_, ?_⟩
          · rw [if_neg (by decide), if_pos h2]; omega
          · omega
          · rw [hn]; exact decide_eq_true (by omega)
          · rw [kyf_two ok h2 (by rw [hn]; exact decide_eq_true (by omega))]; omega
        · refine ⟨k, ?_, ?_, ?_, ?_⟩
          · rw [if_pos (show (!true) = false from rfl)]
          · omega
          · rw [hn]; exact decide_eq_false (by omega)
          · rw [kyf_pos (by rw [hn]; exact decide_eq_false (by omega))]
      obtain ⟨q, q1, q2, q3, q4⟩ := hq
      have hkp : kyf f p = k := by
        rcases h with ⟨_, _, _, h⟩ | ⟨_, _, h, _⟩ | ⟨_, _, h, _⟩
        · omega
        · exact h
        · exact h
      have hcl : cls f q = cls f p := by rw [cls_two_ h2, cls_two_ h2, q4, hkp]
      refine ⟨q, c, m, z, !g, q1, q2, hd, ?_, hc', .inl rfl⟩
      rcases hd with ⟨e, rfl, _⟩ | ⟨e, rfl, _⟩ | ⟨e, rfl, e2, rfl, rfl⟩ | ⟨e, rfl, e2, k', e3, e4⟩
      · omega
      · omega
      · exact .inr (.inr (.inl ⟨by rw [hcl, e], rfl, by rw [q3, decide_eq_true h2, Bool.and_true], rfl, rfl⟩))
      · exact .inr (.inr (.inr ⟨by rw [hcl, e], rfl, q3.symm, k', by rw [q4, ← hkp, e3], e4⟩))
    · have h13 : f.k = 1 ∨ f.k = 3 := by have := ok.k; omega
      have hcp := cls_trn_ h13 (p := p)
      rcases h with ⟨_, _, _, h⟩ | ⟨h1, hg, hk, _⟩ | ⟨h1, hg, hk, _⟩
      · omega
      · -- nought
        obtain rfl : g = false := by rw [hg, decide_eq_false h2, Bool.and_false]
        have k0 : kyf f p = 0 := by
          rw [hcp] at h1
          split at h1
          · omega
          · split at h1
            · assumption
            · omega
        obtain rfl : k = 0 := by omega
        have p0 : p = 0 := by
          cases hg' : ngs f p with
          | false => have := kyf_pos hg'; omega
          | true => have := kyf_trn h2 hg'; omega
        have c1 : c = 1 := by
          rcases hd with ⟨e, _⟩ | ⟨e, _⟩ | ⟨e, rfl, _⟩ | ⟨e, _⟩
          · omega
          · omega
          · rfl
          · omega
        refine .inr ⟨h4, by simp, by unfold mst; split <;> omega, 0, c, m, z, false, ?_, by omega, hd, by rw [p0] at hd; exact hd, hc', .inr ⟨c1, h2⟩⟩
        unfold pat
        rw [if_neg (by decide), if_neg h2, if_pos rfl]
        rfl
      · have k0 : kyf f p ≠ 0 := by
          rw [hcp] at h1
          split at h1
          · omega
          · split at h1
            · omega
            · assumption
        have px : ¬ (f.x ≠ 0 ∧ (p : Int) = f.x) := by
          intro e
          rw [hcp, if_pos e] at h1
          omega
        have c2 : c = 2 := by
          rcases hd with ⟨e, _⟩ | ⟨e, _⟩ | ⟨e, _⟩ | ⟨_, rfl, _⟩
          · omega
          · omega
          · omega
          · rfl
        cases hg' : ngs f p with
        | false =>
          have e1 := kyf_pos hg'
          have e2 := hn p
          rw [hg'] at e2
          have e3 : ¬ half f ≤ (p : Int) := of_decide_eq_false e2.symm
          obtain rfl : g = false := by rw [hg, hg']
          have hq : ∃ q : Nat, pat f true k = q ∧ (q : Int) = msk f - k + 1 := by
            refine ⟨(msk f - k + 1).toNat, ?_, by omega⟩
            unfold pat
            rw [if_neg (by decide), if_neg h2, if_neg (by omega)]
            omega
          obtain ⟨q, q1, q2⟩ := hq
          have q3 : ngs f q = true := by rw [hn]; exact decide_eq_true (by omega)
          have q4 : kyf f q = k := by rw [kyf_trn h2 q3]; omega
          have q5 : cls f q = 2 := by
            rw [cls_trn_ h13, q4, if_neg (by omega), if_neg (by omega)]
          refine .inr ⟨h4, by simp, ?_, q, c, m, z, true, q1, by omega, hd, ?_, hc', .inl rfl⟩
          · show (k : Int) ≤ mst f true
            unfold mst
            split <;> omega
          · rcases hd with ⟨e, _⟩ | ⟨e, _⟩ | ⟨e, _⟩ | ⟨_, _, _, k', e3', e4⟩
            · omega
            · omega
            · omega
            · exact .inr (.inr (.inr ⟨q5, c2, q3.symm, k', by rw [q4, ← hk, e3'], e4⟩))
        | true =>
          have e1 := kyf_trn h2 hg'
          have e2 := hn p
          rw [hg'] at e2
          have e3 : half f ≤ (p : Int) := of_decide_eq_true e2.symm
          obtain rfl : g = true := by rw [hg, hg']
          by_cases hl : f.k = 3 ∧ f.t < k
          · exact .inl ⟨hl.1, rfl, hl.2, by unfold mst; rw [if_neg (by simp)]; exact hl.2⟩
          · have kl : (k : Int) ≤ f.t := by
              rcases h13 with h | h
              · have := o1 h; omega
              · have := o3 h; omega
            have q3 : ngs f k = false := by
              rw [hn]
              refine decide_eq_false ?_
              rcases h13 with h | h
              · have := o1 h; omega
              · have := o3 h; omega
            have q4 := kyf_pos q3
            have q5 : cls f k = 2 := by
              rw [cls_trn_ h13, q4, if_neg ?_, if_neg (by omega)]
              rcases h13 with h | h
              · have := o1 h; omega
              · have := o3 h; omega
            refine .inr ⟨h4, fun e => hl ⟨e.1, e.2.2⟩, ?_, k, c, m, z, false, ?_, by omega, hd, ?_, hc', .inl rfl⟩
            · show (k : Int) ≤ mst f false
              unfold mst
              rw [if_neg (by simp)]
              exact kl
            · unfold pat
              rw [if_pos (by rfl)]
            · rcases hd with ⟨e, _⟩ | ⟨e, _⟩ | ⟨e, _⟩ | ⟨_, _, _, k', e3', e4⟩
              · omega
              · omega
              · omega
              · exact .inr (.inr (.inr ⟨q5, c2, q3.symm, k', by rw [q4, ← hk, e3'], e4⟩))
end M
end Go.Proofs.YtjcbncfpcechnaaDoor
