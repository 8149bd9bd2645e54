/-
  Whole texts, in numbers: what is read of them, and of like ones. No program is named here.
-/
import Derived.Test.YtjmnobgllnaljaaGreatDoorCa
namespace Go.Proofs.YtjmnobgllnaljaaGreatDoor
open Go
set_option linter.unusedVariables false
set_option linter.unusedSimpArgs false

namespace M
/-- A text of a number: its sign, digits and power. -/
def Isn (l : List UInt8) (ng : Bool) (n : Nm) : Prop := ∃ x, scan l = .ok x ∧ itm x = ⟨1, ng, n⟩
theorem isn_uniq {l : List UInt8} {g g' : Bool} {n n' : Nm} (h : Isn l g n) (h' : Isn l g' n') : g = g' ∧ n = n' := by
  obtain ⟨x, a, b⟩ := h
  obtain ⟨y, c, d⟩ := h'
  rw [a] at c
  obtain rfl := Except.ok.inj c
  rw [b] at d
  exact ⟨(It.mk.inj d).2.1, (It.mk.inj d).2.2⟩
theorem isn_of {l : List UInt8} {ng : Bool} {n : Nat} {k : Int} {x : Sc} (h1 : scan l = .ok x) (h2 : x.neg = ng) (h3 : Rdl (dgs n) k x) (hk : Lok n k) (hl : (dgs n).length ≤ 1990) (hr : -1000 < ((dgs n).length : Int) + k ∧ ((dgs n).length : Int) + k ≤ 1000) : Isn l ng ⟨n, k, 0, false⟩ := by
  refine ⟨x, h1, ?_⟩
  have h4 := h3.st
  unfold itm
  rw [if_neg (by omega), h3.num, num_ly hk hl hr, h2]
theorem isn_qp {a n : Nat} {e k : Int} (h : Qd a e n k) (neg : Bool) : Isn (qp neg n k) neg ⟨n, k, 0, false⟩ := by
  obtain ⟨x, h1, h2, h3⟩ := qp_scan h.lok neg
  exact isn_of h1 h2 h3 h.lok h.len h.rng
/-- What Parse comes to. -/
def Qr (l : List UInt8) (e : Int) (g : Bool) (m : Nat) (x : Int) : Prop :=
  (¬ (-1200 ≤ e ∧ e ≤ 1200) ∧ g = false ∧ m = 0 ∧ x = 1) ∨
  ((-1200 ≤ e ∧ e ≤ 1200) ∧ (((∀ ng n, ¬ Isn l ng n) ∧ g = false ∧ m = 0 ∧ x = 2) ∨
    ∃ ng d k bg ct, Isn l ng ⟨d, k, bg, ct⟩ ∧
      (((bg ≠ 0 ∨ ct = true ∨ ∀ b, ys b e 0 ≠ ys d k k) ∧ g = false ∧ m = 0 ∧ x = 8) ∨
       ∃ b, bg = 0 ∧ ct = false ∧ ys b e 0 = ys d k k ∧ ((¬ b < 2 ^ 2048 ∧ g = false ∧ m = 0 ∧ x = 4) ∨ (b < 2 ^ 2048 ∧ g = (ng && decide (b ≠ 0)) ∧ m = b ∧ x = 0)))))
theorem qr_ex (l : List UInt8) (e : Int) : ∃ g m x, Qr l e g m x := by
  classical
  by_cases he : -1200 ≤ e ∧ e ≤ 1200
  · by_cases hl : ∃ ng n, Isn l ng n
    · obtain ⟨ng, ⟨d, k, bg, ct⟩, hn⟩ := hl
      by_cases hb : bg = 0 ∧ ct = false ∧ ∃ b, ys b e 0 = ys d k k
      · obtain ⟨h1, h2, b, h3⟩ := hb
        by_cases hr : b < 2 ^ 2048
        · exact ⟨_, _, _, .inr ⟨he, .inr ⟨ng, d, k, bg, ct, hn, .inr ⟨b, h1, h2, h3, .inr ⟨hr, rfl, rfl, rfl⟩⟩⟩⟩⟩
        · exact ⟨_, _, _, .inr ⟨he, .inr ⟨ng, d, k, bg, ct, hn, .inr ⟨b, h1, h2, h3, .inl ⟨hr, rfl, rfl, rfl⟩⟩⟩⟩⟩
      · refine ⟨_, _, _, .inr ⟨he, .inr ⟨ng, d, k, bg, ct, hn, .inl ⟨?_, rfl, rfl, rfl⟩⟩⟩⟩
        by_cases h1 : bg = 0
        · by_cases h2 : ct = true
          · exact .inr (.inl h2)
          · exact .inr (.inr fun b h3 => hb ⟨h1, by simpa using h2, b, h3⟩)
        · exact .inl h1
    · exact ⟨_, _, _, .inr ⟨he, .inl ⟨fun ng n h => hl ⟨ng, n, h⟩, rfl, rfl, rfl⟩⟩⟩
  · exact ⟨_, _, _, .inl ⟨he, rfl, rfl, rfl⟩⟩
theorem ys_inj {a b : Nat} {t f : Int} (h : ys a t f = ys b t f) : a = b := by
  rw [ys_one a, ys_one b] at h
  exact Nat.eq_of_mul_eq_mul_right (ys_pos t f) h
theorem qr_uniq {l : List UInt8} {e : Int} {g g' : Bool} {m m' : Nat} {x x' : Int} (h : Qr l e g m x) (h' : Qr l e g' m' x') : g = g' ∧ m = m' ∧ x = x' := by
  rcases h with ⟨a, rfl, rfl, rfl⟩ | ⟨a, ⟨b, rfl, rfl, rfl⟩ | ⟨ng, d, k, bg, ct, b, c⟩⟩ <;> rcases h' with ⟨a', rfl, rfl, rfl⟩ | ⟨a', ⟨b', rfl, rfl, rfl⟩ | ⟨ng', d', k', bg', ct', b', c'⟩⟩
  · exact ⟨rfl, rfl, rfl⟩
  · exact absurd a' a
  · exact absurd a' a
  · exact absurd a a'
  · exact ⟨rfl, rfl, rfl⟩
  · exact absurd b' (b _ _)
  · exact absurd a a'
  · exact absurd b (b' _ _)
  · obtain ⟨rfl, h3⟩ := isn_uniq b b'
    injection h3 with e1 e2 e3 e4
    subst e1 e2 e3 e4
    rcases c with ⟨c1, rfl, rfl, rfl⟩ | ⟨y, c1, c2, c3, c4⟩ <;> rcases c' with ⟨d1, rfl, rfl, rfl⟩ | ⟨z, d1, d2, d3, d4⟩
    · exact ⟨rfl, rfl, rfl⟩
    · rcases c1 with c | c | c
      · exact absurd d1 c
      · rw [d2] at c; cases c
      · exact absurd d3 (c z)
    · rcases d1 with c | c | c
      · exact absurd c1 c
      · rw [c2] at c; cases c
      · exact absurd c3 (c y)
    · obtain rfl := ys_inj (c3.trans d3.symm)
      rcases c4 with ⟨f1, rfl, rfl, rfl⟩ | ⟨f1, rfl, rfl, rfl⟩ <;> rcases d4 with ⟨f2, rfl, rfl, rfl⟩ | ⟨f2, rfl, rfl, rfl⟩
      · exact ⟨rfl, rfl, rfl⟩
      · exact absurd f2 f1
      · exact absurd f1 f2
      · exact ⟨rfl, rfl, rfl⟩
/-- What is read, of a text of a number that is not too far. -/
theorem qr_num {l : List UInt8} {e : Int} {g : Bool} {m : Nat} {x : Int} (h : Qr l e g m x) (he : -1200 ≤ e ∧ e ≤ 1200) {ng : Bool} {n : Nat} {k : Int} (hn : Isn l ng ⟨n, k, 0, false⟩) :
    (∃ b, ys b e 0 = ys n k k ∧ b < 2 ^ 2048 ∧ x = 0 ∧ m = b ∧ g = (ng && decide (b ≠ 0))) ∨ (∃ b, ys b e 0 = ys n k k ∧ ¬ b < 2 ^ 2048 ∧ x = 4 ∧ m = 0 ∧ g = false) ∨ ((∀ b, ys b e 0 ≠ ys n k k) ∧ x = 8 ∧ m = 0 ∧ g = false) := by
  rcases h with ⟨h1, _⟩ | ⟨_, ⟨h1, _⟩ | ⟨ng', d, k', bg, ct, h1, h2⟩⟩
  · exact absurd he h1
  · exact absurd hn (h1 _ _)
  · obtain ⟨rfl, h3⟩ := isn_uniq hn h1
    injection h3 with e1 e2 e3 e4
    subst e1 e2 e3 e4
    rcases h2 with ⟨h2 | h2 | h2, h3, h4, h5⟩ | ⟨b, _, _, h3, ⟨h4, h5, h6, h7⟩ | ⟨h4, h5, h6, h7⟩⟩
    · exact absurd rfl h2
    · cases h2
    · exact .inr (.inr ⟨h2, h5, h4, h3⟩)
    · exact .inr (.inl ⟨b, h3, h4, h7, h6, h5⟩)
    · exact .inl ⟨b, h3, h4, h7, h6, h5⟩
theorem ys_step {a b : Nat} {s t : Int} (j : Nat) (hs : -5000 ≤ s) (ht : t = s + j) : ys b t 0 = ys a s 0 ↔ a = b * 2 ^ j := by
  rw [ht, ← ys_two b j s hs]
  exact ⟨fun h => (ys_inj h).symm, fun h => by rw [h]⟩
/-- The number itself, read with its own exponent. -/
theorem qr_own {neg : Bool} {a : Nat} {e : Int} {l : List UInt8} (h : Qt neg a e l 0) {g : Bool} {m : Nat} {x : Int} (hr : Qr l e g m x) : x = 0 ∧ m = a ∧ g = (neg && decide (a ≠ 0)) := by
  rcases h with ⟨_, _, h⟩ | ⟨⟨h1, h2⟩, _, n, k, hq, rfl⟩
  · exact absurd h (by decide)
  · rcases qr_num hr h2 (isn_qp hq _) with ⟨b, h3, h4, h5, h6, h7⟩ | ⟨b, h3, h4, _⟩ | ⟨h3, _⟩
    · have := ys_inj (h3.trans hq.eq)
      subst this
      refine ⟨h5, h6, ?_⟩
      rw [h7]
      cases neg <;> simp
    · exact absurd (ys_inj (h3.trans hq.eq) ▸ h1) h4
    · exact absurd hq.eq.symm (h3 a)
/-- With a lesser one. -/
theorem qr_less {neg : Bool} {a : Nat} {e : Int} {l : List UInt8} (h : Qt neg a e l 0) {e2 : Int} (j : Nat) (hj : e = e2 + j) (he : -1200 ≤ e2) {g : Bool} {m : Nat} {x : Int} (hr : Qr l e2 g m x) :
    (a * 2 ^ j < 2 ^ 2048 ∧ x = 0 ∧ m = a * 2 ^ j) ∨ (¬ a * 2 ^ j < 2 ^ 2048 ∧ x = 4) := by
  rcases h with ⟨_, _, h⟩ | ⟨⟨h1, h2⟩, _, n, k, hq, rfl⟩
  · exact absurd h (by decide)
  · have hs : ys (a * 2 ^ j) e2 0 = ys n k k := by rw [hq.eq, hj, ys_two a j e2 (by omega)]
    rcases qr_num hr ⟨he, by omega⟩ (isn_qp hq _) with ⟨b, h3, h4, h5, h6, h7⟩ | ⟨b, h3, h4, h5, _⟩ | ⟨h3, _⟩
    · have := ys_inj (h3.trans hs.symm)
      subst this
      exact .inl ⟨h4, h5, h6⟩
    · have := ys_inj (h3.trans hs.symm)
      subst this
      exact .inr ⟨h4, h5⟩
    · exact absurd hs (h3 _)
/-- With a greater one. -/
theorem qr_more {neg : Bool} {a : Nat} {e : Int} {l : List UInt8} (h : Qt neg a e l 0) {e2 : Int} (j : Nat) (hj : e2 = e + j) (he : e2 ≤ 1200) {g : Bool} {m : Nat} {x : Int} (hr : Qr l e2 g m x) :
    (a / 2 ^ j * 2 ^ j = a ∧ x = 0 ∧ m = a / 2 ^ j) ∨ (a / 2 ^ j * 2 ^ j ≠ a ∧ x = 8) := by
  have hp := Nat.two_pow_pos j
  rcases h with ⟨_, _, h⟩ | ⟨⟨h1, h2⟩, _, n, k, hq, rfl⟩
  · exact absurd h (by decide)
  · have key : ∀ b, ys b e2 0 = ys n k k ↔ a = b * 2 ^ j := fun b => by
      rw [hq.eq]; exact ys_step j (by omega) hj
    rcases qr_num hr ⟨by omega, he⟩ (isn_qp hq _) with ⟨b, h3, h4, h5, h6, h7⟩ | ⟨b, h3, h4, h5, _⟩ | ⟨h3, h5, _⟩
    · have e1 := (key b).1 h3
      have e2 : a / 2 ^ j = b := by rw [e1, Nat.mul_div_cancel _ hp]
      exact .inl ⟨by rw [e2, ← e1], h5, by rw [e2, h6]⟩
    · have e1 := (key b).1 h3
      exfalso
      exact h4 (Nat.lt_of_le_of_lt (by rw [e1]; exact Nat.le_mul_of_pos_right _ hp) h1)
    · exact .inr ⟨fun e1 => h3 (a / 2 ^ j) ((key _).2 e1.symm), h5⟩
/-- Twos that go from the one to the other. -/
theorem qt_moves {neg : Bool} {a t : Nat} {e : Int} {l l' : List UInt8} {x x' : Int} (h1 : a * 2 ^ t < 2 ^ 2048) (h2 : -1200 ≤ e - t ∧ e ≤ 1200) (h : Qt neg a e l x) (h' : Qt neg (a * 2 ^ t) (e - t) l' x') : l = l' ∧ x = 0 ∧ x' = 0 := by
  have hp := Nat.two_pow_pos t
  have ha : a < 2 ^ 2048 := Nat.lt_of_le_of_lt (Nat.le_mul_of_pos_right _ hp) h1
  rcases h with ⟨n, _⟩ | ⟨_, rfl, n, k, hq, rfl⟩
  · exact absurd ⟨ha, by omega⟩ n
  · rcases h' with ⟨n, _⟩ | ⟨_, rfl, n', k', hq', rfl⟩
    · exact absurd ⟨h1, by omega⟩ n
    · have hs : Qd a e n' k' := ⟨hq'.lok, by rw [hq'.eq, ys_two a t (e - t) (by omega), show e - t + (t : Int) = e by omega], hq'.lo, hq'.len, hq'.rng⟩
      obtain ⟨rfl, rfl⟩ := qd_uniq hq hs
      have hz : decide (a * 2 ^ t ≠ 0) = decide (a ≠ 0) := by
        by_cases h : a = 0
        · subst h; simp
        · rw [decide_eq_true h, decide_eq_true (by have := Nat.mul_pos (Nat.pos_of_ne_zero h) hp; omega)]
      rw [hz]
      exact ⟨rfl, rfl, rfl⟩
theorem last_app {a b : List UInt8} (h : b ≠ []) : (a ++ b).getLast? = b.getLast? := by
  obtain ⟨c, d, rfl⟩ : ∃ c d, b = c ++ [d] := ⟨b.dropLast, b.getLast h, (List.dropLast_concat_getLast h).symm⟩
  rw [← List.append_assoc, List.getLast?_concat, List.getLast?_concat]
/-- A plain text's parts: what stands ahead of the point, and behind it. -/
structure Qpt (n : Nat) (k : Int) (l W R : List UInt8) : Prop where
  txt : l = W ++ (if R = [] then [] else 46 :: R)
  wd : allD W = true
  wn : W ≠ []
  rd : allD R = true
  dig : ∃ a b : Nat, W ++ R = List.replicate a 48 ++ (dgs n ++ List.replicate b 48) ∧ -(R.length : Int) = k - b
  hd : W.headD 0 ≠ 48 ∨ W = [48]
  tl : R = [] ∨ R.getLast? ≠ some 48
theorem qpt_ex {n : Nat} {k : Int} (h : Lok n k) : ∃ W R, Qpt n k (if n = 0 then [48] else qpb (Lib.decDigits n) k) W R := by
  rcases h with ⟨h1, h2⟩ | ⟨h1, h2⟩
  · rw [if_pos h1]
    refine ⟨[48], [], rfl, rfl, by simp, rfl, ⟨1, 0, ?_, by rw [h2]; rfl⟩, .inr rfl, .inl rfl⟩
    unfold dgs; rw [if_pos h1]; rfl
  · rw [if_neg h1]
    have hc := cl_dec h1 h2
    have hd : dgs n = Lib.decDigits n := if_neg h1
    rw [← hd] at hc ⊢
    obtain ⟨S, hS⟩ : ∃ S, dgs n = S := ⟨_, rfl⟩
    rw [hS] at hc ⊢
    have hp := hc.pos
    unfold qpb
    by_cases c1 : (S.length : Int) + k ≤ 0
    · rw [if_pos c1]
      have hne : List.replicate (-((S.length : Int) + k)).toNat 48 ++ S ≠ [] := by simp [hc.ne]
      refine ⟨[48], List.replicate (-((S.length : Int) + k)).toNat 48 ++ S, ?_, rfl, by simp, by rw [allD_append, allD_noughts, hc.all]; rfl, ⟨(-((S.length : Int) + k)).toNat + 1, 0, ?_, ?_⟩, .inr rfl, .inr ?_⟩
      · rw [if_neg hne]; rfl
      · rw [hS, List.replicate_succ]; simp
      · rw [List.length_append, List.length_replicate]; omega
      · rw [last_app hc.ne]; exact hc.tl
    · rw [if_neg c1]
      by_cases c2 : 0 ≤ k
      · rw [if_pos c2]
        refine ⟨S ++ List.replicate k.toNat 48, [], by simp, by rw [allD_append, allD_noughts, hc.all]; rfl, by simp [hc.ne], rfl, ⟨0, k.toNat, by rw [hS]; simp, ?_⟩, .inl ?_, .inl rfl⟩
        · show -((0 : Nat) : Int) = _
          omega
        · rw [head_app hc.ne]; exact hc.hd
      · rw [if_neg c2]
        generalize hq : ((S.length : Int) + k).toNat = q
        obtain ⟨a1, a2⟩ := allD_take hc.all q
        have n2 : S.drop q ≠ [] := by
          intro e
          have := congrArg List.length e
          rw [List.length_drop, List.length_nil] at this
          omega
        have n1 : S.take q ≠ [] := by
          intro e
          have := congrArg List.length e
          rw [List.length_take, List.length_nil] at this
          omega
        refine ⟨S.take q, S.drop q, by rw [if_neg n2], a1, n1, a2, ⟨0, 0, by rw [hS, List.take_append_drop]; simp, ?_⟩, .inl ?_, .inr ?_⟩
        · rw [List.length_drop]; omega
        · have e := head_app (a := S.take q) (b := S.drop q) n1
          rw [List.take_append_drop] at e
          rw [← e]; exact hc.hd
        · have e := last_app (a := S.take q) n2
          rw [List.take_append_drop] at e
          rw [← e]; exact hc.tl
/-- However it is written. -/
theorem isn_forms {a n : Nat} {e k : Int} (h : Qd a e n k) {l W R : List UInt8} (hp : Qpt n k l W R) (neg : Bool) (z : Nat) :
    Isn (sgt neg ++ ((List.replicate z 48 ++ W) ++ (46 :: ((R ++ List.replicate z 48) ++ [101, 48])))) neg ⟨n, k, 0, false⟩ := by
  obtain ⟨u, v, e1, e2⟩ := hp.dig
  have hd : allD (List.replicate z 48 ++ W) = true := by rw [allD_append, allD_noughts, hp.wd]; rfl
  have hf : allD (R ++ List.replicate z 48) = true := by rw [allD_append, allD_noughts, hp.rd]; rfl
  have key := scan_point (List.replicate z 48 ++ W) (R ++ List.replicate z 48) 101 [] [48] hd hf (.inl (by simp [hp.wn])) (.inl rfl) (.inl rfl) rfl (by simp)
  rw [List.nil_append] at key
  have hr : ∀ g, Rdl (dgs n) k ⟨8, g, (List.replicate z 48 ++ W) ++ (R ++ List.replicate z 48), (R ++ List.replicate z 48).length, decide (([] : List UInt8) = [45]), [48]⟩ := by
    intro g
    refine ⟨by show 8 < 10; omega, z + u, v + z, ?_, ?_⟩
    · show (List.replicate z 48 ++ W) ++ (R ++ List.replicate z 48) = _
      have : (List.replicate z 48 ++ W) ++ (R ++ List.replicate z 48) = List.replicate z 48 ++ ((W ++ R) ++ List.replicate z 48) := by simp [List.append_assoc]
      rw [this, e1, ← List.replicate_append_replicate (n := z) (m := u), ← List.replicate_append_replicate (n := v) (m := z)]
      simp only [List.append_assoc]
    · show (0 : Int) - ((R ++ List.replicate z 48).length : Int) = _
      rw [List.length_append, List.length_replicate]
      omega
  cases neg with
  | false => exact isn_of key rfl (hr false) h.lok h.len h.rng
  | true =>
    have hh : ((List.replicate z 48 ++ W) ++ (46 :: ((R ++ List.replicate z 48) ++ [101, 48]))).headD 0 ≠ 45 := by
      cases z with
      | succ z => show (48 : UInt8) ≠ 45; decide
      | zero =>
        obtain ⟨c, r, hW⟩ : ∃ c r, W = c :: r := by
          cases W with
          | nil => exact absurd rfl hp.wn
          | cons c r => exact ⟨c, r, rfl⟩
        subst hW
        show c ≠ 45
        intro e
        have := isD_rng (List.all_eq_true.1 hp.wd c (by simp))
        rw [e] at this
        revert this; decide
    have e := scan_sign _ (.inl hh)
    rw [key] at e
    exact isn_of e rfl (hr true) h.lok h.len h.rng
end M
end Go.Proofs.YtjmnobgllnaljaaGreatDoor
