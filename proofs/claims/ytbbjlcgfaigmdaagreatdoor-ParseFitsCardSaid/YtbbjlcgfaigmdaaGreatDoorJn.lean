/-
  What a text is parsed as, in numbers. No program is named here.
-/
import Derived.Test.YtbbjlcgfaigmdaaGreatDoorRva
import Derived.Test.YtbbjlcgfaigmdaaGreatDoorSq
import Derived.Test.YtbbjlcgfaigmdaaGreatDoorSx5
import Derived.Test.YtbbjlcgfaigmdaaGreatDoorSx6
import Derived.Test.YtbbjlcgfaigmdaaGreatDoorLab
namespace Go.Proofs.YtbbjlcgfaigmdaaGreatDoor
open Go.RowKit
set_option linter.unusedSimpArgs false
set_option linter.unusedVariables false

namespace M
/-- The size of the number that a text tells. -/
def szn (n : Nm) : Nat := if n.big = 0 then sz n.d n.k n.k else sz 1 (1000 * n.big) (1000 * n.big)
/-- What a form has for a word (2: inf, 3: nan, 4: NaR). -/
def Wq (f : Fm) (K : Nat) (neg : Bool) (p : Int) (n : Nat) (e : Int) : Prop :=
  (K = 2 ∧ f.n ≠ 0 ∧ p = (if neg = true then f.n + half f else f.n) ∧ n = 0 ∧ e = 0) ∨
  (K = 3 ∧ f.x ≠ 0 ∧ f.k ≠ 1 ∧ p = f.x ∧ n = 0 ∧ e = 0) ∨
  (K = 4 ∧ f.k = 1 ∧ neg = false ∧ p = f.x ∧ n = 0 ∧ e = 0) ∨
  (¬ (K = 2 ∧ f.n ≠ 0) ∧ ¬ (K = 3 ∧ f.x ≠ 0 ∧ f.k ≠ 1) ∧ ¬ (K = 4 ∧ f.k = 1 ∧ neg = false) ∧ p = 0 ∧ n = (if neg = true then 1 else 0) ∧ e = 5)
/-- What an item is, of a form. -/
def Iq (f : Fm) (mode : Int) (r : It) (p : Int) (n : Nat) (e : Int) : Prop :=
  (r.kind ≠ 1 ∧ Wq f r.kind r.neg p n e) ∨ (r.kind = 1 ∧ Rv f mode r.neg (szn r.n) p ∧ n = 0 ∧ e = 0)
/-- Parse. -/
def Jc (ii mode : Int) (l : List UInt8) (p : Int) (n : Nat) (e : Int) : Prop :=
  ((ii < 1 ∨ 15 ≤ ii) ∧ p = 0 ∧ n = 0 ∧ e = 3) ∨
  ∃ i : Nat, ii = i ∧ 1 ≤ i ∧ i ≤ 14 ∧
    ((¬ (mode = 1 ∨ mode = 2) ∧ p = 0 ∧ n = 0 ∧ e = 1) ∨
     ((mode = 1 ∨ mode = 2) ∧ ∃ r j er, rs l = (r, j, er) ∧ ((er ≠ 0 ∧ p = 0 ∧ n = j ∧ e = er) ∨ (er = 0 ∧ Iq (tb i) mode r p n e))))
theorem wq_ex (f : Fm) (K : Nat) (neg : Bool) : ∃ p n e, Wq f K neg p n e := by
  by_cases h2 : K = 2 ∧ f.n ≠ 0
  · exact ⟨_, _, _, .inl ⟨h2.1, h2.2, rfl, rfl, rfl⟩⟩
  · by_cases h3 : K = 3 ∧ f.x ≠ 0 ∧ f.k ≠ 1
    · exact ⟨_, _, _, .inr (.inl ⟨h3.1, h3.2.1, h3.2.2, rfl, rfl, rfl⟩)⟩
    · by_cases h4 : K = 4 ∧ f.k = 1 ∧ neg = false
      · exact ⟨_, _, _, .inr (.inr (.inl ⟨h4.1, h4.2.1, h4.2.2, rfl, rfl, rfl⟩))⟩
      · exact ⟨_, _, _, .inr (.inr (.inr ⟨h2, h3, h4, rfl, rfl, rfl⟩))⟩
theorem iq_ex {f : Fm} (ok : Ok f) (ok2 : Ok2 f) (ok3 : Ok3 f) (mode : Int) (r : It) : ∃ p n e, Iq f mode r p n e := by
  by_cases h : r.kind = 1
  · obtain ⟨p, hp⟩ := rv_ex ok ok2 ok3 mode r.neg (szn r.n)
    exact ⟨p, 0, 0, .inr ⟨h, hp, rfl, rfl⟩⟩
  · obtain ⟨p, n, e, hw⟩ := wq_ex f r.kind r.neg
    exact ⟨p, n, e, .inl ⟨h, hw⟩⟩
theorem jc_ex (ii mode : Int) (l : List UInt8) : ∃ p n e, Jc ii mode l p n e := by
  rcases in_or_out ii with h | ⟨i, h, a, b⟩
  · exact ⟨_, _, _, .inl ⟨h, rfl, rfl, rfl⟩⟩
  · by_cases c : mode = 1 ∨ mode = 2
    · obtain ⟨⟨r, j, er⟩, hr⟩ : ∃ x, rs l = x := ⟨_, rfl⟩
      by_cases e0 : er = 0
      · obtain ⟨p, n, e, hp⟩ := iq_ex (ok i a b) (ok2 i a b) (ok3 i a b) mode r
        exact ⟨p, n, e, .inr ⟨i, h, a, b, .inr ⟨c, r, j, er, hr, .inr ⟨e0, hp⟩⟩⟩⟩
      · exact ⟨0, j, er, .inr ⟨i, h, a, b, .inr ⟨c, r, j, er, hr, .inl ⟨e0, rfl, rfl, rfl⟩⟩⟩⟩
    · exact ⟨_, _, _, .inr ⟨i, h, a, b, .inl ⟨c, rfl, rfl, rfl⟩⟩⟩
/-- What a text is told as: an error, or an item. -/
theorem rs_cases {l : List UInt8} {r : It} {j : Nat} {er : Int} (h : rs l = (r, j, er)) :
    (er = 2 ∧ scan l = .error j ∧ r = ⟨0, false, ⟨0, 0, 0, false⟩⟩) ∨ (er = 0 ∧ j = 0 ∧ ∃ x, scan l = .ok x ∧ r = itm x) := by
  unfold rs at h
  split at h
  · rename_i i hs
    cases h
    exact .inl ⟨rfl, hs, rfl⟩
  · rename_i x hs
    cases h
    exact .inr ⟨rfl, rfl, x, hs, rfl⟩
theorem nm_big (d : List UInt8) (t : Int) : (nm d t).big = 0 ∨ (nm d t).big = 1 ∨ (nm d t).big = -1 := by
  unfold nm
  split
  · exact .inl rfl
  · split
    · exact .inr (.inl rfl)
    · split
      · exact .inr (.inr rfl)
      · split
        · exact .inl rfl
        · exact .inl rfl
theorem ten_128 : (10 : Nat) ^ 1991 ≤ 18446744073709551616 ^ 128 := by decide +kernel
/-- The number that a text tells is within what exact takes. -/
theorem itm_num {l : List UInt8} {r : It} {j : Nat} (h : rs l = (r, j, 0)) (hk : r.kind = 1) :
    r.n.d < 18446744073709551616 ^ 128 ∧ (-3000 ≤ r.n.k ∧ r.n.k ≤ 1000) ∧ (r.n.big = 0 ∨ r.n.big = 1 ∨ r.n.big = -1) := by
  rcases rs_cases h with ⟨e, _⟩ | ⟨_, _, x, hx, rfl⟩
  · omega
  · have hds := scf_ds l _ _ _ hx rfl
    unfold itm at hk ⊢
    by_cases h10 : 10 ≤ x.st
    · rw [if_pos h10] at hk
      have : x.st / 10 + 1 = 1 := hk
      omega
    · rw [if_neg h10]
      refine ⟨?_, ?_, nm_big _ _⟩
      · show (num x.ds (pwr x - x.bh)).d < _
        rcases num_bounds x.ds (pwr x - x.bh) hds with ⟨a, _⟩ | ⟨_, _, s, _, s2, s3, _, s5, _⟩
        · rw [a]; exact Nat.pow_pos (by decide)
        · rw [← s2]
          exact Nat.lt_of_lt_of_le (vsa_lt s s3) (Nat.le_trans (Nat.pow_le_pow_right (by decide) s5) ten_128)
      · show -3000 ≤ (num x.ds (pwr x - x.bh)).k ∧ (num x.ds (pwr x - x.bh)).k ≤ 1000
        rcases num_bounds x.ds (pwr x - x.bh) hds with ⟨_, a, _⟩ | ⟨_, _, s, s1, s2, s3, _, s5, _, _, s8, s9⟩
        · rw [a]; exact ⟨by decide, by decide⟩
        · constructor <;> omega
/-! The size of digits and a power. -/
theorem sz_ten (a j : Nat) (k : Int) (hk : -5000 ≤ k) : sz (a * 10 ^ j) k k = sz a (k + j) (k + j) := by
  unfold sz ov
  rw [bse_eq, show (k + j - -5000).toNat = (k - -5000).toNat + j by omega, Nat.pow_add, Nat.pow_add, show (10 : Nat) = 5 * 2 from rfl, Nat.mul_pow]
  ac_rfl
theorem vsa_tail (l : List UInt8) (j : Nat) : vsa 0 (l ++ List.replicate j 48) = vsa 0 l * 10 ^ j := by
  induction j with
  | zero => simp
  | succ j ih =>
    rw [List.replicate_succ', ← List.append_assoc, vsa_snoc, ih, Nat.pow_succ, Nat.mul_assoc]
    rfl
theorem num_sz (ds : List UInt8) (k : Int) (hk : -5000 ≤ k) (hb : (num ds k).big = 0) (hc : (num ds k).cut = false) : szn (num ds k) = sz (vsa 0 ds) k k := by
  unfold szn
  rw [if_pos hb]
  obtain ⟨n, hn⟩ := lz_split ds
  obtain ⟨j, hj⟩ := tz_split (lz ds)
  have hv : vsa 0 ds = vsa 0 (tz (lz ds)) * 10 ^ j := by
    rw [← vsa_tail, ← hj]
    conv => lhs; rw [hn]
    rw [vsa_noughts]
  have hl : (lz ds).length = (tz (lz ds)).length + j := by
    have := congrArg List.length hj
    rw [List.length_append, List.length_replicate] at this
    exact this
  rw [hv]
  unfold num nm at hb hc ⊢
  generalize tz (lz ds) = d at *
  by_cases h0 : d = []
  · rw [if_pos h0] at hb hc ⊢
    subst h0
    rw [show vsa 0 [] = 0 from rfl, Nat.zero_mul, sz_zero.2 rfl]
    exact (sz_zero.2 rfl).symm
  · rw [if_neg h0] at hb hc ⊢
    by_cases h1 : 1000 < k + ((lz ds).length : Int)
    · rw [if_pos h1] at hb; exact absurd hb (by decide)
    · rw [if_neg h1] at hb hc ⊢
      by_cases h2 : k + ((lz ds).length : Int) ≤ -1000
      · rw [if_pos h2] at hb; exact absurd hb (by decide)
      · rw [if_neg h2] at hb hc ⊢
        by_cases h3 : 1990 < d.length
        · rw [if_pos h3] at hc; exact absurd hc (by simp)
        · rw [if_neg h3]
          show sz (vsa 0 d) (k + ((lz ds).length : Int) - d.length) (k + ((lz ds).length : Int) - d.length) = _
          rw [sz_ten _ _ _ hk, hl, show k + ((d.length + j : Nat) : Int) - d.length = k + j by omega]
theorem num_plain (ds : List UInt8) (k : Int) (h1 : k + ds.length ≤ 1000) (h2 : lz ds ≠ [] → -1000 < k + (lz ds).length) (h3 : ds.length ≤ 1990) : (num ds k).big = 0 ∧ (num ds k).cut = false := by
  have hl := lz_len ds
  have ht := tz_len (lz ds)
  unfold num nm
  by_cases h0 : tz (lz ds) = []
  · rw [if_pos h0]; exact ⟨rfl, rfl⟩
  · rw [if_neg h0, if_neg (by omega), if_neg ?_, if_neg (by omega)]
    · exact ⟨rfl, rfl⟩
    · intro e
      have hne : lz ds ≠ [] := fun e2 => h0 (by rw [e2]; rfl)
      have := h2 hne
      omega
theorem jc_of {i : Nat} (a : 1 ≤ i) (b : i ≤ 14) {mode : Int} (hm : mode = 1 ∨ mode = 2) {l : List UInt8} {r : It} {j : Nat} (h : rs l = (r, j, 0)) {p : Int} {n : Nat} {e : Int} (hq : Iq (tb i) mode r p n e) : Jc i mode l p n e :=
  .inr ⟨i, rfl, a, b, .inr ⟨hm, r, j, 0, h, .inr ⟨rfl, hq⟩⟩⟩
/-- Of two texts that are told as the same, the same is parsed. -/
theorem jc_congr {ii mode : Int} {l l' : List UInt8} (h : rs l = rs l') {p : Int} {n : Nat} {e : Int} (hj : Jc ii mode l p n e) : Jc ii mode l' p n e := by
  rcases hj with ⟨a, b⟩ | ⟨i, a, b, c, d | ⟨d, r, j, er, hr, g⟩⟩
  · exact .inl ⟨a, b⟩
  · exact .inr ⟨i, a, b, c, .inl d⟩
  · exact .inr ⟨i, a, b, c, .inr ⟨d, r, j, er, h ▸ hr, g⟩⟩
/-- What Round has of the number that a text tells, is parsed. -/
theorem jc_of_rc {ii mode : Int} {l : List UInt8} {neg : Bool} {N : Nm} {j : Nat} (h : rs l = (⟨1, neg, N⟩, j, 0)) {X : Nat} (hX : szn N = X) {p e : Int} (hr : Rc ii mode neg X p e) : Jc ii mode l p 0 e := by
  subst hX
  rcases hr with ⟨a, b, c⟩ | ⟨i, a, b, c, ⟨d, f, g⟩ | ⟨d, f, g⟩⟩
  · exact .inl ⟨a, b, rfl, c⟩
  · exact .inr ⟨i, a, b, c, .inl ⟨d, f, rfl, g⟩⟩
  · exact .inr ⟨i, a, b, c, .inr ⟨d, _, j, 0, h, .inr ⟨rfl, .inr ⟨rfl, f, rfl, g⟩⟩⟩⟩
theorem cn_bey {i : Nat} {p : Int} (h : (tb i).k = 2 → bey (tb i) (p % half (tb i)) = false) : cn i p = p := by
  unfold cn
  by_cases c : (tb i).k = 2 ∧ bey (tb i) (p % half (tb i)) = true
  · rw [h c.1] at c
    exact absurd c.2 (by decide)
  · rw [if_neg c]
theorem cn_x (i : Nat) : cn i (tb i).x = (tb i).x := by
  unfold cn
  split <;> rfl
theorem cn_key {i : Nat} (a : 1 ≤ i) (b : i ≤ 14) {neg : Bool} {k : Int} (k0 : 0 ≤ k) (h : (tb i).k = 2 → k ≤ (tb i).t ∨ (k = (tb i).n ∧ k < half (tb i))) :
    cn i (if neg = true then k + half (tb i) else k) = (if neg = true then k + half (tb i) else k) := by
  refine cn_bey (fun e => ?_)
  have o2 := (ok i a b).two e
  have hm := (ok i a b).hm
  have e1 : (if neg = true then k + half (tb i) else k) % half (tb i) = k := by
    have hk : k < half (tb i) := by rcases h e with h1 | h1 <;> omega
    split
    · rw [Int.add_emod_right, Int.emod_eq_of_lt k0 hk]
    · rw [Int.emod_eq_of_lt k0 hk]
  rw [e1]
  unfold bey
  rcases h e with h1 | ⟨h1, _⟩
  · rw [decide_eq_false (show ¬ (tb i).t < k by omega), Bool.false_and]
  · rw [show decide (k ≠ (tb i).n) = false from decide_eq_false (fun e => e h1), Bool.and_false]
/-- What Round tells is one pattern for all that are no numbers. -/
theorem rv_cn {i : Nat} (a : 1 ≤ i) (b : i ≤ 14) {mode : Int} {neg : Bool} {X : Nat} {p : Int} (h : Rv (tb i) mode neg X p) : 0 ≤ p ∧ p ≤ msk (tb i) ∧ cn i p = p := by
  obtain ⟨r1, r2, _⟩ := rv_class (ok i a b) (ok2 i a b) (ok3 i a b) h
  refine ⟨r1, r2, ?_⟩
  have o3 := ok3 i a b
  have on := (ok i a b).n
  rcases h with ⟨h1, h2, rfl⟩ | ⟨h1, q, k, o, hq, hn, ⟨_, h2, rfl⟩ | ⟨h2, rfl⟩⟩
  · exact cn_x i
  · unfold tl
    by_cases n0 : (tb i).n = 0
    · rw [if_pos n0]; exact cn_x i
    · rw [if_neg n0]
      obtain ⟨_, n1, n2⟩ := o3.most n0
      exact cn_key a b on.1 (fun _ => .inr ⟨rfl, n2⟩)
  · obtain ⟨q', hq', _, _, qt⟩ := mst_rng (ok i a b) (ok2 i a b) o3 neg
    obtain rfl : q = q' := by omega
    have kq : k ≤ q := by
      rcases hn with ⟨_, rfl, _⟩ | ⟨_, h, _⟩
      · exact Nat.le_refl _
      · exact h
    by_cases e : (tb i).k = 2
    · have e2 : pat (tb i) neg k = if neg = true then (k : Int) + half (tb i) else k := by
        unfold pat
        cases neg
        · rw [if_pos rfl, if_neg (by decide)]
        · rw [if_neg (by decide), if_pos e, if_pos rfl]
      rw [e2]
      unfold tp at qt
      rw [if_neg (by omega)] at qt
      exact cn_key a b (by omega) (fun _ => .inl (by omega))
    · exact cn_bey (fun e2 => absurd e2 e)
theorem wq_cn {i : Nat} (a : 1 ≤ i) (b : i ≤ 14) {K : Nat} {neg : Bool} {p : Int} {n : Nat} (h : Wq (tb i) K neg p n 0) : n = 0 ∧ 0 ≤ p ∧ p ≤ msk (tb i) ∧ cn i p = p := by
  have on := (ok i a b).n
  have ox := (ok i a b).x
  have hm := (ok i a b).hm
  rcases h with ⟨_, h, rfl, rfl, _⟩ | ⟨_, _, _, rfl, rfl, _⟩ | ⟨_, _, _, rfl, rfl, _⟩ | ⟨_, _, _, _, _, h⟩
  · obtain ⟨_, n1, n2⟩ := (ok3 i a b).most h
    refine ⟨rfl, ?_, ?_, cn_key a b on.1 (fun _ => .inr ⟨rfl, n2⟩)⟩ <;> split <;> omega
  · exact ⟨rfl, ox.1, ox.2, cn_x i⟩
  · exact ⟨rfl, ox.1, ox.2, cn_x i⟩
  · exact absurd h (by decide)
/-- ParseFits, in numbers. -/
theorem jc_fits {ii mode : Int} {l : List UInt8} {p : Int} {n : Nat} {e : Int} (h : Jc ii mode l p n e) :
    (e ≠ 0 ∧ p = 0 ∧ n ≤ l.length ∧ (n = 0 ∨ e = 2 ∨ (e = 5 ∧ n = 1))) ∨ (e = 0 ∧ n = 0 ∧ ∃ i : Nat, ii = i ∧ 1 ≤ i ∧ i ≤ 14 ∧ 0 ≤ p ∧ p ≤ msk (tb i) ∧ cn i p = p) := by
  rcases h with ⟨a, rfl, rfl, rfl⟩ | ⟨i, a, b, c, ⟨d, rfl, rfl, rfl⟩ | ⟨d, r, j, er, hr, ⟨g, rfl, rfl, rfl⟩ | ⟨rfl, g⟩⟩⟩
  · exact .inl ⟨by decide, rfl, Nat.zero_le _, .inl rfl⟩
  · exact .inl ⟨by decide, rfl, Nat.zero_le _, .inl rfl⟩
  · rcases rs_cases hr with ⟨rfl, hs, _⟩ | ⟨e0, _⟩
    · exact .inl ⟨by decide, rfl, scan_le _ _ hs, .inr (.inl rfl)⟩
    · exact absurd e0 g
  · rcases rs_cases hr with ⟨e0, _⟩ | ⟨_, _, x, hx, rfl⟩
    · exact absurd e0 (by decide)
    · rcases g with ⟨g1, g2⟩ | ⟨g1, g2, rfl, rfl⟩
      · by_cases e0 : e = 0
        · subst e0
          obtain ⟨h1, h2⟩ := wq_cn b c g2
          exact .inr ⟨rfl, h1, i, a, b, c, h2⟩
        · left
          rcases g2 with ⟨_, _, _, _, h⟩ | ⟨_, _, _, _, _, h⟩ | ⟨_, _, _, _, _, h⟩ | ⟨_, _, _, rfl, rfl, rfl⟩
          · exact absurd h e0
          · exact absurd h e0
          · exact absurd h e0
          · have hng := (itm_bounds l x hx).1
            refine ⟨by decide, rfl, ?_, ?_⟩
            · split
              · rename_i hn
                rw [hng, decide_eq_true_eq] at hn
                exact List.length_pos_iff.2 hn.1
              · exact Nat.zero_le _
            · split
              · exact .inr (.inr ⟨rfl, rfl⟩)
              · exact .inl rfl
      · exact .inr ⟨rfl, rfl, i, a, b, c, rv_cn b c g2⟩
/-- What a form has for what is too large, of a form with an infinity. -/
theorem tl_inf {f : Fm} (ok : Ok f) (ok2 : Ok2 f) (ok3 : Ok3 f) (neg : Bool) (n0 : f.n ≠ 0) : cls f (tl f neg) = 3 ∧ ngs f (tl f neg) = neg := by
  have hm := ok.hm
  have hn := ok.n
  unfold tl
  rw [if_neg n0]
  obtain ⟨e2, h1, h2⟩ := ok3.most n0
  cases neg with
  | false =>
    rw [if_neg (by simp)]
    have g : ngs f f.n = false := by rw [ngs_is ok (by omega)]; exact decide_eq_false (by omega)
    exact ⟨by rw [cls_two_ e2, kyf_pos g, if_pos h1, if_pos rfl], g⟩
  | true =>
    rw [if_pos rfl]
    have g : ngs f (f.n + half f) = true := by rw [ngs_is ok (by omega)]; exact decide_eq_true (by omega)
    exact ⟨by rw [cls_two_ e2, kyf_two ok e2 g, show f.n + half f - half f = f.n by omega, if_pos h1, if_pos rfl], g⟩
theorem tl_nan {f : Fm} (ok : Ok f) (ok2 : Ok2 f) (ok3 : Ok3 f) {mode : Int} (neg : Bool) (h : ¬ st f mode) (n0 : f.n = 0) : cls f (tl f neg) = 4 := by
  obtain ⟨_, _, e | e⟩ := tl_class ok ok2 ok3 neg h
  · exfalso
    have k1 : f.k ≠ 1 := fun e => h (.inr (.inl e))
    have nx : ¬ (f.n = 0 ∧ f.x = 0) := fun e => h (.inr (.inr e))
    have hx := ok.x
    have o2 := ok.two
    have hm := ok.hm
    unfold tl at e
    rw [if_pos n0] at e
    by_cases e2 : f.k = 2
    · have o2' := o2 e2
      have g : ngs f f.x = false := by rw [ngs_is ok (by omega)]; exact decide_eq_false (by omega)
      rw [cls_two_ e2, kyf_pos g, if_pos (by omega), if_neg (by omega)] at e
      exact absurd e (by decide)
    · unfold cls at e
      rw [if_neg (fun e => e2 e.1), if_pos ⟨e2, by omega, rfl⟩] at e
      exact absurd e (by decide)
  · exact e
theorem no_form {ii : Int} {i : Nat} (a : ii < 1 ∨ 15 ≤ ii) (h : ii = i) (b : 1 ≤ i) (c : i ≤ 14) : False := by omega
/-- ParseModes, in numbers. -/
theorem jc_modes {ii : Int} {l : List UInt8} {p q : Int} {n m : Nat} {e e2 : Int} (h : Jc ii 1 l p n e) (h' : Jc ii 2 l q m e2) :
    e2 = e ∧ m = n ∧ (e ≠ 0 ∨ p = q ∨ (e = 0 ∧ ∃ (i : Nat) (g : Bool) (k : Nat), ii = i ∧ 1 ≤ i ∧ i ≤ 14 ∧ 0 ≤ p ∧ p ≤ msk (tb i) ∧ 0 ≤ q ∧ q ≤ msk (tb i) ∧ cls (tb i) p = 2 ∧ ngs (tb i) p = g ∧ kyf (tb i) p = k ∧ mst (tb i) g = (k : Int) ∧ ¬ ((tb i).k = 4 ∧ g = true) ∧ ((cls (tb i) q = 3 ∧ ngs (tb i) q = g) ∨ cls (tb i) q = 4))) := by
  rcases h with ⟨a, rfl, rfl, rfl⟩ | ⟨i, rfl, b, c, ⟨d, _⟩ | ⟨_, r, j, er, hr, g⟩⟩
  · rcases h' with ⟨_, rfl, rfl, rfl⟩ | ⟨i, a', b, c, _⟩
    · exact ⟨rfl, rfl, .inl (by decide)⟩
    · exact (no_form a a' b c).elim
  · exact absurd (.inl rfl) d
  · rcases h' with ⟨a, _⟩ | ⟨i', a', _, _, ⟨d, _⟩ | ⟨_, r', j', er', hr', g'⟩⟩
    · exact (no_form a rfl b c).elim
    · exact absurd (.inr rfl) d
    · obtain rfl : i = i' := by omega
      rw [hr] at hr'
      cases hr'
      rcases g with ⟨g0, rfl, rfl, rfl⟩ | ⟨rfl, g⟩
      · rcases g' with ⟨_, rfl, rfl, rfl⟩ | ⟨e0, _⟩
        · exact ⟨rfl, rfl, .inl g0⟩
        · exact absurd e0 g0
      · rcases g' with ⟨e0, _⟩ | ⟨_, g'⟩
        · exact absurd rfl e0
        · rcases g with ⟨k1, g⟩ | ⟨k1, g, rfl, rfl⟩
          · rcases g' with ⟨_, g'⟩ | ⟨k2, _⟩
            · rcases g with ⟨a1, a2, rfl, rfl, rfl⟩ | ⟨a1, a2, a3, rfl, rfl, rfl⟩ | ⟨a1, a2, a3, rfl, rfl, rfl⟩ | ⟨a1, a2, a3, rfl, rfl, rfl⟩
              · rcases g' with ⟨_, _, rfl, rfl, rfl⟩ | ⟨b1, _⟩ | ⟨b1, _⟩ | ⟨b1, _⟩
                · exact ⟨rfl, rfl, .inr (.inl rfl)⟩
                · omega
                · omega
                · exact absurd ⟨a1, a2⟩ b1
              · rcases g' with ⟨b1, _⟩ | ⟨_, _, _, rfl, rfl, rfl⟩ | ⟨b1, _⟩ | ⟨_, b1, _⟩
                · omega
                · exact ⟨rfl, rfl, .inr (.inl rfl)⟩
                · omega
                · exact absurd ⟨a1, a2, a3⟩ b1
              · rcases g' with ⟨b1, _⟩ | ⟨b1, _⟩ | ⟨_, _, _, rfl, rfl, rfl⟩ | ⟨_, _, b1, _⟩
                · omega
                · omega
                · exact ⟨rfl, rfl, .inr (.inl rfl)⟩
                · exact absurd ⟨a1, a2, a3⟩ b1
              · rcases g' with ⟨b1, b2, _⟩ | ⟨b1, b2, b3, _⟩ | ⟨b1, b2, b3, _⟩ | ⟨_, _, _, rfl, rfl, rfl⟩
                · exact absurd ⟨b1, b2⟩ a1
                · exact absurd ⟨b1, b2, b3⟩ a2
                · exact absurd ⟨b1, b2, b3⟩ a3
                · exact ⟨rfl, rfl, .inr (.inl rfl)⟩
            · exact absurd k2 k1
          · rcases g' with ⟨k2, _⟩ | ⟨_, g', rfl, rfl⟩
            · exact absurd k1 k2
            · refine ⟨rfl, rfl, .inr ?_⟩
              obtain ⟨r1, r2, _⟩ := rv_cn b c g
              obtain ⟨s1, s2, _⟩ := rv_cn b c g'
              have ok1 := ok i b c
              have oo2 := ok2 i b c
              have oo3 := ok3 i b c
              rcases g with ⟨f4, f5, rfl⟩ | ⟨f4, q0, k, o, hq, hn, hp⟩
              · rcases g' with ⟨_, _, rfl⟩ | ⟨f6, _⟩
                · exact .inl rfl
                · exact absurd ⟨f4, f5⟩ f6
              · rcases g' with ⟨f6, f7, _⟩ | ⟨_, q1, k', o', hq', hn', hp'⟩
                · exact absurd ⟨f6, f7⟩ f4
                · obtain rfl : q0 = q1 := by omega
                  obtain ⟨q2, hq2, q23, _, qt⟩ := mst_rng ok1 oo2 oo3 r.neg
                  obtain rfl : q0 = q2 := by omega
                  obtain ⟨rfl, rfl⟩ := nr_uniq ok1 oo2 oo3 qt hn hn'
                  rcases hp with ⟨_, hs, _⟩ | ⟨_, hp⟩
                  · exact absurd (.inl rfl) hs
                  · rcases hp' with ⟨ho, hs, hp'⟩ | ⟨_, hp'⟩
                    · right
                      have kq : k = q0 := by
                        rcases hn with ⟨_, h, _⟩ | ⟨h, _⟩
                        · exact h
                        · rw [ho] at h; exact absurd h (by decide)
                      obtain ⟨_, _, pk, _⟩ := pat_key ok1 oo2 oo3 (neg := r.neg) (k := k) (fun e => f4 ⟨e.1, .inl e.2⟩) (by omega)
                      obtain ⟨c1, c2, c3⟩ := pk (.inl (by omega))
                      refine ⟨rfl, i, r.neg, k, rfl, b, c, r1, r2, s1, s2, by rw [hp]; exact c1, by rw [hp]; exact c3, by rw [hp]; exact c2, by rw [hq, kq], fun e => f4 ⟨e.1, .inl e.2⟩, ?_⟩
                      rw [hp']
                      by_cases n0 : (tb i).n = 0
                      · exact .inr (tl_nan ok1 oo2 oo3 r.neg hs n0)
                      · exact .inl (tl_inf ok1 oo2 oo3 r.neg n0)
                    · exact .inl (hp.trans hp'.symm)
/-! Signs. -/
def sg (neg : Bool) : List UInt8 := if neg = true then [45] else []
theorem rs_neg {l : List UInt8} {n : Nm} (h : rs l = (⟨1, false, n⟩, 0, 0)) (h0 : l.headD 0 ≠ 45) : rs (45 :: l) = (⟨1, true, n⟩, 0, 0) := by
  rcases rs_cases h with ⟨e, _⟩ | ⟨_, _, x, hx, hr⟩
  · exact absurd e (by decide)
  · have hs : scan (45 :: l) = .ok ⟨x.st, true, x.ds, x.bh, x.dn, x.pw⟩ := by rw [scan_sign l (.inl h0), hx]; rfl
    rw [rs_ok hs]
    unfold itm at hr ⊢
    by_cases h10 : 10 ≤ x.st
    · rw [if_pos h10] at hr
      have : 1 = x.st / 10 + 1 := congrArg It.kind hr
      omega
    · rw [if_neg h10] at hr
      rw [if_neg h10]
      have hn : n = num x.ds (pwr x - x.bh) := congrArg It.n hr
      rw [hn]
      rfl
theorem rs_sg (neg : Bool) {l : List UInt8} {n : Nm} (h : rs l = (⟨1, false, n⟩, 0, 0)) (h0 : l.headD 0 ≠ 45) : rs (sg neg ++ l) = (⟨1, neg, n⟩, 0, 0) := by
  cases neg
  · exact h
  · exact rs_neg h h0
theorem nx_stays (s c : Nat) (h : 2 ≤ s ∧ s ≤ 8) (h9 : nx s c ≠ 99) : 2 ≤ nx s c ∧ nx s c ≤ 8 := by
  have a : ¬ s < 2 := by omega
  have b : ¬ s = 10 ∧ ¬ s = 11 ∧ ¬ s = 20 ∧ ¬ s = 21 ∧ ¬ s = 30 ∧ ¬ s = 31 := by omega
  unfold nx at h9 ⊢
  simp only [a, b, false_and, if_false, or_self] at h9 ⊢
  split
  · omega
  · rename_i h1; rw [if_neg h1] at h9
    split
    · omega
    · rename_i h2; rw [if_neg h2] at h9
      split
      · omega
      · rename_i h3; rw [if_neg h3] at h9
        split
        · omega
        · rename_i h4; rw [if_neg h4] at h9
          split
          · omega
          · rename_i h5; rw [if_neg h5] at h9
            split
            · omega
            · rename_i h6; rw [if_neg h6] at h9
              exact absurd rfl h9
theorem scf_low : ∀ (r : List UInt8) (x y : Sc) (i : Nat), scf x i r = .ok y → 2 ≤ x.st ∧ x.st ≤ 8 → y.st ≤ 8
  | [], x, y, i, h, hx => by
    rw [scf] at h
    split at h
    · cases h; exact hx.2
    · cases h
  | c :: r, x, y, i, h, hx => by
    rw [scf] at h
    split at h
    · cases h
    · rename_i h9
      exact scf_low r _ y _ h (nx_stays _ _ hx h9)
theorem scan_low {l : List UInt8} {y : Sc} (h : scan l = .ok y) (h0 : (l.headD 0).toNat = 46 ∨ (48 ≤ (l.headD 0).toNat ∧ (l.headD 0).toNat ≤ 57)) : y.st ≤ 8 := by
  cases l with
  | nil => rcases h0 with e | e <;> simp at e
  | cons c r =>
    have h0 : c.toNat = 46 ∨ (48 ≤ c.toNat ∧ c.toNat ≤ 57) := h0
    rw [scan, scf] at h
    split at h
    · cases h
    · refine scf_low r _ y _ h ?_
      show 2 ≤ nx 0 c.toNat ∧ nx 0 c.toNat ≤ 8
      rcases h0 with e | e
      · rw [e]; decide
      · rw [nx_dig e]; decide
/-- ParseSigns, in numbers. -/
theorem jc_signs {i : Nat} (a : 1 ≤ i) (b : i ≤ 14) (hk : (tb i).k = 1 ∨ (tb i).k = 2) {mode : Int} {l : List UInt8} (h0 : (l.headD 0).toNat = 46 ∨ (48 ≤ (l.headD 0).toNat ∧ (l.headD 0).toNat ≤ 57))
    {p q : Int} {n m : Nat} {e e2 : Int} (h : Jc i mode l p n e) (h' : Jc i mode (45 :: l) q m e2) :
    (e ≠ 0 ∧ e2 = e ∧ (m = n + 1 ∨ (e = 1 ∧ m = 0))) ∨ (e = 0 ∧ e2 = 0 ∧ n = 0 ∧ m = 0 ∧ 0 ≤ p ∧ p ≤ msk (tb i) ∧
      (((tb i).x ≠ 0 ∧ p = (tb i).x ∧ q = p) ∨ (((tb i).x = 0 ∨ p ≠ (tb i).x) ∧ (((tb i).k = 2 ∧ q = if half (tb i) ≤ p then p - half (tb i) else p + half (tb i)) ∨ ((tb i).k = 1 ∧ q = trn (tb i) p))))) := by
  have h45 : l.headD 0 ≠ 45 := fun e => by rw [e] at h0; exact absurd h0 (by decide)
  rcases h with ⟨c, _⟩ | ⟨i', c, _, _, ⟨d, rfl, rfl, rfl⟩ | ⟨d, r, j, er, hr, g⟩⟩
  · omega
  · rcases h' with ⟨c', _⟩ | ⟨i'', c', _, _, ⟨_, rfl, rfl, rfl⟩ | ⟨d', _⟩⟩
    · omega
    · exact .inl ⟨by decide, rfl, .inr ⟨rfl, rfl⟩⟩
    · exact absurd d' d
  · obtain rfl : i = i' := by omega
    rcases h' with ⟨c', _⟩ | ⟨i'', c', _, _, ⟨d', _⟩ | ⟨_, r', j', er', hr', g'⟩⟩
    · omega
    · exact absurd d d'
    · obtain rfl : i = i'' := by omega
      have hsg := scan_sign l (.inl h45)
      rcases rs_cases hr with ⟨rfl, hs, _⟩ | ⟨rfl, rfl, x, hx, rfl⟩
      · have hs' : scan (45 :: l) = .error (j + 1) := by rw [hsg, hs]; rfl
        rw [rs_error hs'] at hr'
        cases hr'
        rcases g with ⟨_, rfl, rfl, rfl⟩ | ⟨e0, _⟩
        · rcases g' with ⟨_, rfl, rfl, rfl⟩ | ⟨e0, _⟩
          · exact .inl ⟨by decide, rfl, .inl rfl⟩
          · exact absurd e0 (by decide)
        · exact absurd e0 (by decide)
      · have hlow := scan_low hx h0
        have hs' : scan (45 :: l) = .ok ⟨x.st, true, x.ds, x.bh, x.dn, x.pw⟩ := by rw [hsg, hx]; rfl
        have hng : x.neg = false := by
          rw [scan_neg l x hx]
          exact decide_eq_false (fun e => h45 e.2)
        have i1 : itm x = ⟨1, false, num x.ds (pwr x - x.bh)⟩ := by unfold itm; rw [if_neg (by omega), hng]
        have i2 : itm ⟨x.st, true, x.ds, x.bh, x.dn, x.pw⟩ = ⟨1, true, num x.ds (pwr x - x.bh)⟩ := by unfold itm; rw [if_neg (by show ¬ 10 ≤ x.st; omega)]; rfl
        rw [rs_ok hs', i2] at hr'
        cases hr'
        rw [i1] at g
        rcases g with ⟨e0, _⟩ | ⟨_, ⟨e0, _⟩ | ⟨_, g, rfl, rfl⟩⟩
        · exact absurd rfl e0
        · exact absurd rfl e0
        · rcases g' with ⟨e0, _⟩ | ⟨_, ⟨e0, _⟩ | ⟨_, g', rfl, rfl⟩⟩
          · exact absurd rfl e0
          · exact absurd rfl e0
          · obtain ⟨r1, r2, _⟩ := rv_cn a b g
            refine .inr ⟨rfl, rfl, rfl, rfl, r1, r2, ?_⟩
            rcases signs (ok i a b) (ok2 i a b) (ok3 i a b) d hk g g' with ⟨s1, s2, s3, _⟩ | s
            · exact .inl ⟨s1, s2, s3⟩
            · exact .inr s
/-! Digits with a power behind them. -/
theorem head_dig {D : List UInt8} (h : allD D = true) (h0 : D ≠ []) (r : List UInt8) : (D ++ r).headD 0 ≠ 45 := by
  cases D with
  | nil => exact absurd rfl h0
  | cons c t =>
    intro e
    have e : c = 45 := e
    subst e
    rw [allD, List.all_cons, Bool.and_eq_true] at h
    exact absurd h.1 (by decide)
theorem txt_e (neg : Bool) (D : List UInt8) (h : allD D = true) (h0 : D ≠ []) (z : Int) : rs (sg neg ++ (D ++ (101 :: nt z))) = (⟨1, neg, num D z⟩, 0, 0) := by
  refine rs_sg neg ?_ (head_dig h h0 _)
  exact same_a D h h0 z
theorem txt_e3 (neg : Bool) (D : List UInt8) (h : allD D = true) (h0 : D ≠ []) (ec : UInt8) (he : ec = 101 ∨ ec = 69) (z : Int) : rs (sg neg ++ (D ++ (48 :: 48 :: 48 :: ec :: nt (z - 3)))) = (⟨1, neg, num D z⟩, 0, 0) := by
  refine rs_sg neg ?_ (head_dig h h0 _)
  have hd : allD (D ++ List.replicate 3 48) = true := by rw [allD_append, h, allD_noughts]; rfl
  have e := rs_num (scan_plain (D ++ List.replicate 3 48) ec (sgz (z - 3)) (ddz (z - 3)) hd (by simp [h0]) he (sgz_any _) (ddz_all _) (ddz_ne _))
  rw [pwr_z] at e
  have e2 := num_shift 0 3 D z
  have e3 : D ++ (48 :: 48 :: 48 :: ec :: nt (z - 3)) = D ++ List.replicate 3 48 ++ (ec :: (sgz (z - 3) ++ ddz (z - 3))) := by rw [List.append_assoc]; rfl
  rw [e3, e]
  have e4 : num (D ++ List.replicate 3 48) (z - 3 - ((0 : Nat) : Int)) = num D z := by
    rw [← e2, show z - 3 - ((0 : Nat) : Int) = z - ((3 : Nat) : Int) by omega]
    rfl
  rw [e4]
theorem txt_p (neg : Bool) (D : List UInt8) (h : allD D = true) (h0 : D ≠ []) : rs (sg neg ++ (D ++ [46, 48, 48])) = (⟨1, neg, num D 0⟩, 0, 0) := by
  refine rs_sg neg ?_ (head_dig h h0 _)
  obtain ⟨s, hs, e⟩ := scf_point [48, 48] [] ⟨2, false, D, 0, false, []⟩ (0 + D.length) (Nat.le_refl _) rfl (.inl rfl)
  have e1 : scan (D ++ [46, 48, 48]) = .ok ⟨s, false, D ++ [48, 48], 2, false, []⟩ := by
    have e2 := scf_whole D [46, 48, 48] sc0 0 h h0 (by decide)
    rw [scan, e2]
    show scf ⟨2, false, D, 0, false, []⟩ (0 + D.length) (46 :: ([48, 48] ++ [])) = _
    rw [e, scf]
    have : wh s = true := by rcases hs with rfl | rfl <;> rfl
    rw [if_pos this]
    rfl
  rw [rs_ok e1]
  unfold itm
  rw [if_neg (by show ¬ 10 ≤ s; rcases hs with rfl | rfl <;> decide)]
  have e2 := num_shift 0 2 D 0
  show (It.mk 1 false (num (D ++ [48, 48]) (((0 : Nat) : Int) - ((2 : Nat) : Int))), 0, 0) = _
  rw [← e2]
  rfl
theorem txt_q (neg : Bool) (D : List UInt8) (h : allD D = true) (h0 : D ≠ []) : rs (sg neg ++ (D ++ [48, 101, 45, 49])) = (⟨1, neg, num D 0⟩, 0, 0) := by
  refine rs_sg neg ?_ (head_dig h h0 _)
  have hd : allD (D ++ List.replicate 1 48) = true := by rw [allD_append, h, allD_noughts]; rfl
  have e := rs_num (scan_plain (D ++ List.replicate 1 48) 101 [45] [49] hd (by simp) (.inl rfl) (.inr (.inr rfl)) rfl (by decide))
  have e3 : D ++ [48, 101, 45, 49] = D ++ List.replicate 1 48 ++ (101 :: ([45] ++ [49])) := by rw [List.append_assoc]; rfl
  rw [e3, e]
  have e2 := num_shift 0 1 D 0
  rw [← e2]
  rfl
theorem lift_p2 (a : Nat) : 0 < 5 ^ a := Nat.pow_pos (by decide)
theorem sz_two (m n : Nat) : sz (m * 2 ^ n) 0 0 = sz m n 0 := by
  unfold sz ov
  rw [bse_eq, show ((n : Int) - -5000).toNat = n + ((0 : Int) - -5000).toNat by omega, Nat.pow_add]
  generalize 5 ^ ((0 : Int) - -5000).toNat = A
  generalize 2 ^ ((0 : Int) - -5000).toNat = B
  ac_rfl
theorem sz_five (m n : Nat) (hn : n ≤ 5000) : sz (m * 5 ^ n) (-(n : Int)) (-(n : Int)) = sz m (-(n : Int)) 0 := by
  unfold sz ov
  rw [bse_eq, show ((0 : Int) - -5000).toNat = n + (-(n : Int) - -5000).toNat by omega, Nat.pow_add]
  generalize 5 ^ (-(n : Int) - -5000).toNat = A
  generalize 2 ^ (-(n : Int) - -5000).toNat = B
  ac_rfl
theorem dd_len {a k : Nat} (h : a < 10 ^ (k + 1)) : (Lib.decDigits a).length ≤ k + 1 := by
  rw [Lib.decDigits_length]
  exact nd_le k a h
/-- ParseRounds: digits of ten words. -/
theorem dec_sz {d : Nat} {k : Int} (hd : d < 18446744073709551616 ^ 10) (hk : -900 ≤ k ∧ k ≤ 900) (hb : (num (Lib.decDigits d) k).big = 0) : szn (num (Lib.decDigits d) k) = sz d k k := by
  obtain ⟨a1, a2, a3, _⟩ := dd_all d d (Nat.le_refl _)
  have hl := dd_len (a := d) (k := 199) (Nat.lt_of_lt_of_le hd (by decide +kernel))
  have hc : (num (Lib.decDigits d) k).cut = false := by
    have ht := tz_len (lz (Lib.decDigits d))
    have hl2 := lz_len (Lib.decDigits d)
    unfold num nm
    split
    · rfl
    · split
      · rfl
      · split
        · rfl
        · rw [if_neg (by omega)]
  rw [num_sz _ k (by omega) hb hc, a2]
theorem mg_z2 {f : Fm} (ok : Ok f) (ok2 : Ok2 f) (ok3 : Ok3 f) {k m : Nat} {z : Int} (hk : (k : Int) ≤ tp f) (h : Mg0 f k m z) : m < 18446744073709551616 ∧ -2000 ≤ z ∧ z ≤ 3000 := by
  obtain ⟨h1, _, h3⟩ := mg_z ok ok2 ok3 hk h
  refine ⟨h1, ?_, h3⟩
  have hm := ok.hm
  unfold tp at hk
  rcases h with ⟨_, _, _, rfl⟩ | ⟨h0, h⟩
  · decide
  · rcases h with ⟨e, a, ha, haW, h⟩ | ⟨e, p, hp, ho, h⟩ | ⟨e, hm', k0, ho, t, hk', hz⟩ | ⟨e, hb, hk', rfl, rfl⟩
    · have := h.rng ha; omega
    · obtain ⟨b1, b2, b3⟩ := ok3.two e
      rw [if_neg (by omega)] at hk
      have q2 : k / 2 ^ p ≤ 2047 := by
        refine Nat.le_trans (Nat.div_le_div_right (c := 2 ^ p) (show k ≤ f.t.toNat by omega)) ?_
        rw [show p = f.m.toNat by omega]
        exact b3
      exact (ism_z h ho.1 ⟨b1, b2⟩ q2).1
    · have := ok2.tri e
      omega
    · have := ok2.four e
      rw [if_neg (by omega)] at hk
      omega
/-- ParseHas: a number's digits, with no power, or one below nought. -/
theorem lt_two {m n K : Nat} (hm : m < 18446744073709551616) (hn : n ≤ K) : m * 2 ^ n < 18446744073709551616 * 2 ^ K :=
  Nat.lt_of_lt_of_le (Nat.mul_lt_mul_of_pos_right hm (p2 n)) (Nat.mul_le_mul_left _ (p2le hn))
theorem lt_five {m n K : Nat} (hm : m < 18446744073709551616) (hn : n ≤ K) : m * 5 ^ n < 18446744073709551616 * 5 ^ K :=
  Nat.lt_of_lt_of_le (Nat.mul_lt_mul_of_pos_right hm (lift_p2 n)) (Nat.mul_le_mul_left _ (Nat.pow_le_pow_right (by decide) hn))
theorem c_2a : (18446744073709551616 : Nat) * 2 ^ 3000 ≤ 10 ^ (999 + 1) := by decide +kernel
theorem c_2b : (18446744073709551616 : Nat) * 2 ^ 3000 ≤ 18446744073709551616 ^ 48 := by decide +kernel
theorem c_5a : (18446744073709551616 : Nat) * 5 ^ 2000 ≤ 10 ^ (1499 + 1) := by decide +kernel
theorem c_5b : (18446744073709551616 : Nat) * 5 ^ 2000 ≤ 18446744073709551616 ^ 80 := by decide +kernel
theorem c_5c : (18446744073709551616 : Nat) * 5 ^ 500 ≤ 10 ^ (399 + 1) := by decide +kernel
theorem has_pos {m n : Nat} (hm : m < 18446744073709551616) (hn : n ≤ 3000) : szn (num (Lib.decDigits (m * 2 ^ n)) 0) = sz m n 0 ∧ m * 2 ^ n < 18446744073709551616 ^ 48 := by
  obtain ⟨a1, a2, a3, _⟩ := dd_all (m * 2 ^ n) (m * 2 ^ n) (Nat.le_refl _)
  have hl := dd_len (a := m * 2 ^ n) (k := 999) (Nat.lt_of_lt_of_le (lt_two (K := 3000) hm hn) c_2a)
  obtain ⟨hb, hc⟩ := num_plain (Lib.decDigits (m * 2 ^ n)) 0 (by omega) (fun _ => by omega) (by omega)
  exact ⟨by rw [num_sz _ 0 (by decide) hb hc, a2, sz_two], Nat.lt_of_lt_of_le (lt_two (K := 3000) hm hn) c_2b⟩
theorem five_ten {n L C : Nat} (hL : L ≤ C) (h : L + C ≤ n) : 10 ^ L ≤ 5 ^ n := by
  obtain ⟨r, rfl⟩ : ∃ r, n = L + C + r := ⟨n - L - C, by omega⟩
  rw [Nat.pow_add, Nat.pow_add, show (10 : Nat) = 5 * 2 from rfl, Nat.mul_pow]
  have h1 : 2 ^ L ≤ 5 ^ C := Nat.le_trans (Nat.pow_le_pow_right (by decide) hL) (Nat.pow_le_pow_left (by decide) C)
  have h2 : 5 ^ L * 2 ^ L ≤ 5 ^ L * 5 ^ C := Nat.mul_le_mul_left _ h1
  exact Nat.le_trans h2 (Nat.le_mul_of_pos_right _ (lift_p2 r))
theorem has_neg {m n : Nat} (hm : m < 18446744073709551616) (hn : n ≤ 2000) : szn (num (Lib.decDigits (m * 5 ^ n)) (-(n : Int))) = sz m (-(n : Int)) 0 ∧ m * 5 ^ n < 18446744073709551616 ^ 80 := by
  obtain ⟨a1, a2, a3, _⟩ := dd_all (m * 5 ^ n) (m * 5 ^ n) (Nat.le_refl _)
  have hl := dd_len (a := m * 5 ^ n) (k := 1499) (Nat.lt_of_lt_of_le (lt_five (K := 2000) hm hn) c_5a)
  have hl2 : n ≤ 500 → (Lib.decDigits (m * 5 ^ n)).length ≤ 400 := fun h => dd_len (a := m * 5 ^ n) (k := 399) (Nat.lt_of_lt_of_le (lt_five (K := 500) hm h) c_5c)
  have hl3 : -(n : Int) + (Lib.decDigits (m * 5 ^ n)).length ≤ 1000 := by
    by_cases c : n ≤ 500
    · have := hl2 c
      omega
    · omega
  have hlow : lz (Lib.decDigits (m * 5 ^ n)) ≠ [] → -1000 < -(n : Int) + (lz (Lib.decDigits (m * 5 ^ n))).length := fun hz => by
    have hv : vsa 0 (lz (Lib.decDigits (m * 5 ^ n))) = m * 5 ^ n := by
      obtain ⟨j, hj⟩ := lz_split (Lib.decDigits (m * 5 ^ n))
      have := vsa_noughts j (lz (Lib.decDigits (m * 5 ^ n)))
      rw [← hj, a2] at this
      exact this.symm
    have hlt2 := vsa_lt _ (lz_allD a1)
    have hpos : 0 < vsa 0 (lz (Lib.decDigits (m * 5 ^ n))) := by
      rcases lz_head (Lib.decDigits (m * 5 ^ n)) with e | e
      · exact absurd e hz
      · exact vsa_pos hz (lz_allD a1) e
    rw [hv] at hlt2 hpos
    have m0 : 0 < m := Nat.pos_of_ne_zero (fun e => by rw [e, Nat.zero_mul] at hpos; exact absurd hpos (by decide))
    generalize (lz (Lib.decDigits (m * 5 ^ n))).length = L at hlt2
    rcases Nat.lt_or_ge n (L + 1000) with c | c
    · omega
    · exfalso
      have h1 := five_ten (C := 1000) (by omega) c
      have h2 : 5 ^ n ≤ m * 5 ^ n := Nat.le_mul_of_pos_left _ m0
      exact Nat.lt_irrefl _ (Nat.lt_of_lt_of_le hlt2 (Nat.le_trans h1 h2))
  obtain ⟨hb, hc⟩ := num_plain (Lib.decDigits (m * 5 ^ n)) (-(n : Int)) hl3 hlow (by omega)
  exact ⟨by rw [num_sz _ _ (by omega) hb hc, a2, sz_five _ _ (by omega)], Nat.lt_of_lt_of_le (lt_five (K := 2000) hm hn) c_5b⟩
end M
end Go.Proofs.YtbbjlcgfaigmdaaGreatDoor
