/-
  Whole texts, in numbers: what the program writes is the plain text; the two steps in which it reads. No program is named here.
-/
import Derived.Test.YtjmnobgllnaljaaGreatDoorCb
import Derived.Test.YtjmnobgllnaljaaGreatDoorSva
namespace Go.Proofs.YtjmnobgllnaljaaGreatDoor
open Go
set_option linter.unusedVariables false
set_option linter.unusedSimpArgs false

namespace M
/-- The number that is read, over what stands below. -/
theorem ys_parts {b d T F T' F' : Nat} {e k : Int} (he : -5000 ≤ e) (hk : -5000 ≤ k) (hT : max (k - e) 0 = (T : Int)) (hF : max k 0 = (F : Int)) (hT' : max (-(k - e)) 0 = (T' : Int)) (hF' : max (-k) 0 = (F' : Int)) :
    ys b e 0 = ys d k k ↔ b * (5 ^ F' * 2 ^ T') = d * 5 ^ F * 2 ^ T := by
  have e5 : (5 : Nat) ^ (k - -5000).toNat * 5 ^ F' = 5 ^ ((0 : Int) - -5000).toNat * 5 ^ F := by
    rw [← Nat.pow_add, ← Nat.pow_add, show (k - -5000).toNat + F' = ((0 : Int) - -5000).toNat + F by omega]
  have e2 : (2 : Nat) ^ (k - -5000).toNat * 2 ^ T' = 2 ^ (e - -5000).toNat * 2 ^ T := by
    rw [← Nat.pow_add, ← Nat.pow_add, show (k - -5000).toNat + T' = (e - -5000).toNat + T by omega]
  unfold ys ov
  have p1 : 0 < (5 : Nat) ^ F' * 2 ^ T' := Nat.mul_pos (Nat.pow_pos (by omega)) (Nat.two_pow_pos _)
  have p2 : 0 < (5 : Nat) ^ ((0 : Int) - -5000).toNat * 2 ^ (e - -5000).toNat := Nat.mul_pos (Nat.pow_pos (by omega)) (Nat.two_pow_pos _)
  revert e5 e2 p2
  generalize (5 : Nat) ^ (k - -5000).toNat = A
  generalize (2 : Nat) ^ (k - -5000).toNat = B
  generalize (5 : Nat) ^ ((0 : Int) - -5000).toNat = C
  generalize (2 : Nat) ^ (e - -5000).toNat = D
  revert p1
  generalize (5 : Nat) ^ F' = f'
  generalize (2 : Nat) ^ T' = t'
  generalize (5 : Nat) ^ F = f
  generalize (2 : Nat) ^ T = t
  intro p1 e5 e2 p2
  have key : (d * A * B) * (f' * t') = (d * f * t) * (C * D) := by
    have : (d * A * B) * (f' * t') = d * (A * f') * (B * t') := by ac_rfl
    rw [this, e5, e2]
    ac_rfl
  constructor
  · intro h
    refine Nat.eq_of_mul_eq_mul_right p2 ?_
    rw [← key, ← h]
    ac_rfl
  · intro h
    refine Nat.eq_of_mul_eq_mul_right p1 ?_
    rw [key, ← h]
    ac_rfl
theorem isn_of_rs {l : List UInt8} {r : It} {j : Nat} {er : Int} (h : rs l = (r, j, er)) (hk : er = 0 ∧ r.kind = 1) : Isn l r.neg r.n := by
  unfold rs at h
  split at h
  · cases h; exact absurd hk.1 (by decide)
  · rename_i x hs
    cases h
    refine ⟨x, hs, ?_⟩
    rw [← hk.2]
theorem isn_rs {l : List UInt8} {ng : Bool} {n : Nm} (h : Isn l ng n) : rs l = (⟨1, ng, n⟩, 0, 0) := by
  obtain ⟨x, h1, h2⟩ := h
  unfold rs
  rw [h1]
  show (itm x, 0, 0) = _
  rw [h2]
/-- A text of a number is not far off. -/
theorem isn_far {l : List UInt8} {ng : Bool} {d : Nat} {k bg : Int} {ct : Bool} (h : Isn l ng ⟨d, k, bg, ct⟩) (hb : bg = 0) : -3000 ≤ k ∧ k ≤ 1000 := by
  obtain ⟨x, h1, h2⟩ := h
  have hb := (itm_bounds l x h1).2
  rw [h2] at hb
  rcases hb with ⟨_, _, _, hk, _⟩ | ⟨_, _, _, s, h0, _, h3, _, _, h4, h5⟩
  · replace hk : k = 0 := hk
    omega
  · replace h4 : (s.length : Int) + k ≤ 1000 := h4
    replace h5 : -1000 < (s.length : Int) + k := h5
    have : 0 < s.length := List.length_pos_iff.2 h0
    omega
theorem vsa_two (a b : List UInt8) : vsa 0 (a ++ b) = vsa 0 a * 10 ^ b.length + vsa 0 b := by rw [vsa_append, vsa_acc]
theorem vsa_noughts0 (j : Nat) : vsa 0 (List.replicate j 48) = 0 := by
  have := vsa_noughts j []
  rw [List.append_nil] at this
  rw [this]; rfl
theorem dd_len {r E : Nat} (h : r < 10 ^ E) (h0 : r ≠ 0) : (Lib.decDigits r).length ≤ E := by
  obtain ⟨l1, _⟩ := dd_rngc h0
  have := ten_ltc (Nat.lt_of_le_of_lt l1 h)
  omega
/-- The digits of a number are those of its upper part, and the lower part's, with noughts ahead. -/
theorem dd_parts {w r E : Nat} (hw : w ≠ 0) (hr : r ≠ 0) (h : r < 10 ^ E) : Lib.decDigits (w * 10 ^ E + r) = Lib.decDigits w ++ (List.replicate (E - (Lib.decDigits r).length) 48 ++ Lib.decDigits r) := by
  obtain ⟨a1, a2, a3, a4⟩ := dd_all w w (Nat.le_refl _)
  obtain ⟨b1, b2, b3, b4⟩ := dd_all r r (Nat.le_refl _)
  have hl := dd_len h hr
  have e : vsa 0 (Lib.decDigits w ++ (List.replicate (E - (Lib.decDigits r).length) 48 ++ Lib.decDigits r)) = w * 10 ^ E + r := by
    rw [vsa_two, vsa_noughts, a2, b2, List.length_append, List.length_replicate, Nat.sub_add_cancel hl]
  rw [← e]
  refine dd_vsa _ _ (Nat.le_refl _) (by simp [a3]) (by rw [allD_append, allD_append, allD_noughts, a1, b1]; rfl) (.inl ?_)
  rw [head_app a3]
  rcases a4 with a4 | a4
  · exact a4
  · rw [a4] at a2; exact absurd a2.symm hw
theorem dd_tens {w : Nat} (hw : w ≠ 0) (j : Nat) : Lib.decDigits (w * 10 ^ j) = Lib.decDigits w ++ List.replicate j 48 := by
  obtain ⟨a1, a2, a3, a4⟩ := dd_all w w (Nat.le_refl _)
  have e : vsa 0 (Lib.decDigits w ++ List.replicate j 48) = w * 10 ^ j := by
    rw [vsa_two, vsa_noughts0, a2, List.length_replicate, Nat.add_zero]
  rw [← e]
  refine dd_vsa _ _ (Nat.le_refl _) (by simp [a3]) (by rw [allD_append, allD_noughts, a1]; rfl) (.inl ?_)
  rw [head_app a3]
  rcases a4 with a4 | a4
  · exact a4
  · rw [a4] at a2; exact absurd a2.symm hw
theorem dd_zero : Lib.decDigits 0 = [48] := by simp [Lib.decDigits]
theorem qd_not0 {a n : Nat} {e k : Int} (h : Qd a e n k) : n = 0 ↔ a = 0 := by
  have e1 := h.eq
  constructor
  · intro h0
    rw [h0, ys_zero.2 rfl] at e1
    exact ys_zero.1 e1.symm
  · intro h0
    rw [h0, ys_zero.2 rfl] at e1
    exact ys_zero.1 e1
theorem qd_up_eq {a E n : Nat} {k : Int} (a0 : a ≠ 0) (h : Qd a (E : Int) n k) : ∃ j : Nat, k = j ∧ n ≠ 0 ∧ n % 10 ≠ 0 ∧ n * 10 ^ j = a * 2 ^ E := by
  have h1 : 0 < a * 2 ^ E := Nat.mul_pos (by omega) (Nat.two_pow_pos E)
  obtain ⟨D, j, h2, h3⟩ := ys_strip (a * 2 ^ E) (a * 2 ^ E) (Nat.le_refl _) h1
  have e1 := ys_tens D j 0 (by omega)
  rw [h3, Int.zero_add] at e1
  have e2 : ys D j j = ys a E 0 := by rw [← e1, ys_two a E 0 (by omega), Int.zero_add]
  have n0 : n ≠ 0 := fun e => a0 ((qd_not0 h).1 e)
  have hn : n % 10 ≠ 0 := by rcases h.lok with ⟨e, _⟩ | ⟨_, e⟩; exact absurd e n0; exact e
  have hlo := h.lo
  obtain ⟨rfl, rfl⟩ := ys_uniq (by omega) (by omega) hn h2 (h.eq.trans e2.symm)
  exact ⟨j, rfl, n0, hn, h3⟩
theorem qd_down_eq {a E n : Nat} {k : Int} (a0 : a ≠ 0) (hE : E ≤ 1200) (h : Qd a (-(E : Int)) n k) : ∃ j : Nat, k = -(E : Int) + j ∧ n ≠ 0 ∧ n % 10 ≠ 0 ∧ n * 10 ^ j = a * 5 ^ E := by
  have h1 : 0 < a * 5 ^ E := Nat.mul_pos (by omega) (Nat.pow_pos (by decide))
  obtain ⟨D, j, h2, h3⟩ := ys_strip (a * 5 ^ E) (a * 5 ^ E) (Nat.le_refl _) h1
  have e2 : ys D (-(E : Int) + j) (-(E : Int) + j) = ys a (-(E : Int)) 0 := by rw [← ys_tens D j (-(E : Int)) (by omega), h3, ys_five a E (by omega)]
  have n0 : n ≠ 0 := fun e => a0 ((qd_not0 h).1 e)
  have hn : n % 10 ≠ 0 := by rcases h.lok with ⟨e, _⟩ | ⟨_, e⟩; exact absurd e n0; exact e
  have hlo := h.lo
  obtain ⟨rfl, rfl⟩ := ys_uniq (by omega) (by omega) hn h2 (h.eq.trans e2.symm)
  exact ⟨j, rfl, n0, hn, h3⟩
/-- A whole number's text. -/
theorem size_up {a E n : Nat} {k : Int} (h : Qd a (E : Int) n k) : Lib.decDigits (a * 2 ^ E) = if n = 0 then [48] else qpb (Lib.decDigits n) k := by
  by_cases a0 : a = 0
  · rw [if_pos ((qd_not0 h).2 a0), a0, Nat.zero_mul, dd_zero]
  · obtain ⟨j, rfl, n0, hn, e⟩ := qd_up_eq a0 h
    have hp := dd_posc n
    rw [if_neg n0, ← e, dd_tens n0]
    unfold qpb
    rw [if_neg (by omega), if_pos (by omega)]
    rfl
theorem tz_cut {A B : List UInt8} (h : tz B ≠ []) : tz (A ++ B) = A ++ tz B := by
  have h1 : lz B.reverse ≠ [] := by
    intro e
    apply h
    unfold tz
    rw [e]; rfl
  unfold tz
  rw [List.reverse_append, lz_append _ _ h1, List.reverse_append, List.reverse_reverse]
theorem tz_same {X : List UInt8} (h : X.getLast? ≠ some 48) : tz X = X := by
  rcases tz_split X with ⟨n, e⟩
  cases n with
  | zero => rw [List.replicate_zero, List.append_nil] at e; exact e.symm
  | succ n =>
    exfalso
    apply h
    rw [e, show List.replicate (n + 1) (48 : UInt8) = List.replicate n 48 ++ [48] by rw [← List.replicate_succ'], ← List.append_assoc, List.getLast?_concat]
/-- What stands behind the point. -/
def bhd (left E : Nat) : List UInt8 := if left = 0 then [] else 46 :: (List.replicate (E - (Lib.decDigits (left * 5 ^ E)).length) 48 ++ tz (Lib.decDigits (left * 5 ^ E)))
theorem two_five (E : Nat) : 2 ^ E * 5 ^ E = 10 ^ E := by rw [← Nat.mul_pow]
/-- A text with a point. -/
theorem size_down {a E n : Nat} {k : Int} (hE : E ≤ 1200) (h : Qd a (-(E : Int)) n k) : Lib.decDigits (a / 2 ^ E) ++ bhd (a % 2 ^ E) E = if n = 0 then [48] else qpb (Lib.decDigits n) k := by
  unfold bhd
  by_cases a0 : a = 0
  · rw [if_pos ((qd_not0 h).2 a0), a0, Nat.zero_div, Nat.zero_mod, if_pos rfl, dd_zero]; rfl
  · obtain ⟨j, rfl, n0, hn, e⟩ := qd_down_eq a0 hE h
    have hc := cl_dec n0 hn
    have hp := hc.pos
    have h10 : 0 < 10 ^ E := Nat.pow_pos (by decide)
    have hlt : a % 2 ^ E < 2 ^ E := Nat.mod_lt _ (Nat.two_pow_pos E)
    have hsum : n * 10 ^ j = a / 2 ^ E * 10 ^ E + a % 2 ^ E * 5 ^ E := by
      rw [e, ← two_five E, ← Nat.mul_assoc, ← Nat.add_mul, Nat.mul_comm (a / 2 ^ E), Nat.div_add_mod]
    have hr : a % 2 ^ E * 5 ^ E < 10 ^ E := by rw [← two_five]; exact Nat.mul_lt_mul_of_pos_right hlt (Nat.pow_pos (by decide))
    have hr0 : a % 2 ^ E * 5 ^ E = 0 ↔ a % 2 ^ E = 0 := by
      rw [Nat.mul_eq_zero]
      exact ⟨fun h => h.resolve_right (by have := Nat.pow_pos (n := E) (show 0 < 5 by decide); omega), .inl⟩
    have hjE : E ≤ j → a % 2 ^ E * 5 ^ E = 0 := by
      intro h
      obtain ⟨i, rfl⟩ : ∃ i, j = E + i := ⟨j - E, by omega⟩
      have e1 := congrArg (· % 10 ^ E) hsum
      simp only [Nat.pow_add] at e1
      rw [Nat.mul_left_comm, Nat.mul_mod_right, Nat.mul_comm (a / 2 ^ E), Nat.mul_add_mod, Nat.mod_eq_of_lt hr] at e1
      exact e1.symm
    have hdn := dd_tens n0 j
    rw [hsum] at hdn
    rw [if_neg n0]
    clear e h hlt
    generalize a / 2 ^ E = w at *
    by_cases c : a % 2 ^ E = 0
    · rw [if_pos c, List.append_nil]
      rw [hr0.2 c, Nat.add_zero] at hsum hdn
      have hEj : E ≤ j := by
        rcases Nat.lt_or_ge j E with h | h
        · exfalso
          obtain ⟨i, rfl⟩ : ∃ i, E = j + (i + 1) := ⟨E - j - 1, by omega⟩
          rw [Nat.pow_add, Nat.mul_left_comm, Nat.mul_comm n] at hsum
          have := Nat.eq_of_mul_eq_mul_left (Nat.pow_pos (by decide)) hsum
          rw [this, Nat.pow_succ, ← Nat.mul_assoc, Nat.mul_mod_left] at hn
          exact hn rfl
        · exact h
      obtain ⟨i, rfl⟩ : ∃ i, j = E + i := ⟨j - E, by omega⟩
      have e2 : n * 10 ^ i = w := by
        rw [Nat.pow_add, Nat.mul_left_comm, Nat.mul_comm w] at hsum
        exact Nat.eq_of_mul_eq_mul_left h10 hsum
      unfold qpb
      rw [if_neg (by omega), if_pos (by omega), ← e2, dd_tens n0, show (-(E : Int) + ((E + i : Nat) : Int)).toNat = i by omega]
    · rw [if_neg c]
      have r0 : a % 2 ^ E * 5 ^ E ≠ 0 := fun e => c (hr0.1 e)
      have hj : j < E := by
        rcases Nat.lt_or_ge j E with h | h
        · exact h
        · exact absurd (hjE h) r0
      clear hr0 hjE c
      generalize a % 2 ^ E * 5 ^ E = r at *
      obtain ⟨b1, b2, b3, b4⟩ := dd_all r r (Nat.le_refl _)
      have hl := dd_len hr r0
      by_cases w0 : w = 0
      · subst w0
        rw [Nat.zero_mul, Nat.zero_add] at hdn
        rw [hdn, tz_noughts, hc.tz]
        rw [hdn, List.length_append, List.length_replicate] at hl
        unfold qpb
        rw [if_pos (by omega), List.length_append, List.length_replicate, show (-(((Lib.decDigits n).length : Int) + (-(E : Int) + (j : Int)))).toNat = E - ((Lib.decDigits n).length + j) by omega, dd_zero]
        rfl
      · rw [dd_parts w0 r0 hr] at hdn
        have hq := dd_posc w
        have hlen := congrArg List.length hdn
        simp only [List.length_append, List.length_replicate] at hlen
        have ht : tz (Lib.decDigits r) ≠ [] := by
          rcases tz_head (Lib.decDigits r) (.inr (by
            rcases b4 with b | b
            · exact b
            · rw [b] at b2; exact absurd b2.symm r0)) with ⟨_, h⟩ | ⟨h, _⟩
          · exact absurd h b3
          · exact h
        unfold qpb
        rw [if_neg (by omega), if_neg (by omega), show (((Lib.decDigits n).length : Int) + (-(E : Int) + (j : Int))).toNat = (Lib.decDigits w).length by omega]
        have t1 := congrArg (List.take (Lib.decDigits w).length) hdn
        rw [List.take_left, List.take_append_of_le_length (by omega)] at t1
        have t2 := congrArg (List.drop (Lib.decDigits w).length) hdn
        rw [List.drop_left, List.drop_append_of_le_length (by omega)] at t2
        have t3 := congrArg tz t2
        have n2 : (Lib.decDigits n).drop (Lib.decDigits w).length ≠ [] := by
          intro e
          have := congrArg List.length e
          rw [List.length_drop, List.length_nil] at this
          omega
        rw [tz_cut ht, tz_noughts, tz_same (X := (Lib.decDigits n).drop (Lib.decDigits w).length) (by
          have e := last_app (a := (Lib.decDigits n).take (Lib.decDigits w).length) n2
          rw [List.take_append_drop] at e
          rw [← e]; exact hc.tl)] at t3
        rw [← t1, t3]
/-- A size times a power, that has to be whole. -/
def Tms (n base : Nat) (k : Int) (c : Nat) : Prop := ∃ U D : Nat, max k 0 = (U : Int) ∧ max (-k) 0 = (D : Int) ∧ c * base ^ D = n * base ^ U
theorem tms_up {n base : Nat} {k : Int} {U : Nat} (h : k = (U : Int)) {c : Nat} : Tms n base k c ↔ c = n * base ^ U := by
  constructor
  · rintro ⟨U', D, h1, h2, h3⟩
    obtain rfl : U' = U := by omega
    obtain rfl : D = 0 := by omega
    simpa using h3
  · rintro rfl
    exact ⟨U, 0, by omega, by omega, by simp⟩
theorem tms_down {n base : Nat} {k : Int} {D : Nat} (h : k = -(D : Int)) {c : Nat} : Tms n base k c ↔ c * base ^ D = n := by
  constructor
  · rintro ⟨U, D', h1, h2, h3⟩
    obtain rfl : D' = D := by omega
    obtain rfl : U = 0 := by omega
    simpa using h3
  · intro e
    exact ⟨0, D, by omega, by omega, by simpa using e⟩
/-- The number that is read: fives first. -/
theorem ys_five_two {b c d : Nat} {e k : Int} (he : -5000 ≤ e) (hk : -5000 ≤ k) (h : Tms d 5 k c) : ys b e 0 = ys d k k ↔ Tms c 2 (k - e) b := by
  obtain ⟨F, F', h1, h2, h3⟩ := h
  obtain ⟨T, hT⟩ : ∃ T : Nat, max (k - e) 0 = (T : Int) := ⟨(max (k - e) 0).toNat, by omega⟩
  obtain ⟨T', hT'⟩ : ∃ T : Nat, max (-(k - e)) 0 = (T : Int) := ⟨(max (-(k - e)) 0).toNat, by omega⟩
  rw [ys_parts he hk hT h1 hT' h2, ← h3]
  have p : 0 < 5 ^ F' := Nat.pow_pos (by decide)
  constructor
  · intro h
    refine ⟨T, T', hT, hT', ?_⟩
    refine Nat.eq_of_mul_eq_mul_right p ?_
    rw [show b * 2 ^ T' * 5 ^ F' = b * (5 ^ F' * 2 ^ T') by ac_rfl, h]
    ac_rfl
  · rintro ⟨U, D, g1, g2, g3⟩
    obtain rfl : U = T := by omega
    obtain rfl : D = T' := by omega
    rw [show b * (5 ^ F' * 2 ^ D) = b * 2 ^ D * 5 ^ F' by ac_rfl, g3]
    ac_rfl
theorem ys_no_five {d : Nat} {e k : Int} (he : -5000 ≤ e) (hk : -5000 ≤ k) (h : ∀ c, ¬ Tms d 5 k c) (b : Nat) : ys b e 0 ≠ ys d k k := by
  obtain ⟨F, hF⟩ : ∃ T : Nat, max k 0 = (T : Int) := ⟨(max k 0).toNat, by omega⟩
  obtain ⟨F', hF'⟩ : ∃ T : Nat, max (-k) 0 = (T : Int) := ⟨(max (-k) 0).toNat, by omega⟩
  obtain ⟨T, hT⟩ : ∃ T : Nat, max (k - e) 0 = (T : Int) := ⟨(max (k - e) 0).toNat, by omega⟩
  obtain ⟨T', hT'⟩ : ∃ T : Nat, max (-(k - e)) 0 = (T : Int) := ⟨(max (-(k - e)) 0).toNat, by omega⟩
  rw [Ne, ys_parts he hk hT hF hT' hF']
  intro h1
  have hco : Nat.Coprime (5 ^ F') (2 ^ T) := Nat.Coprime.pow _ _ (by decide)
  have hd : 5 ^ F' ∣ d * 5 ^ F * 2 ^ T := ⟨b * 2 ^ T', by rw [← h1]; ac_rfl⟩
  obtain ⟨c, hc⟩ := hco.dvd_of_dvd_mul_right hd
  exact h c ⟨F, F', hF, hF', by rw [hc, Nat.mul_comm]⟩
end M
end Go.Proofs.YtjmnobgllnaljaaGreatDoor
