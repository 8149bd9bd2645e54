/-
  The walk of NatTexts: true, and nothing that was there has turned.
-/
import Derived.Test.YteeepfhjbemgoaaDoorDigf
namespace Go.Proofs.YteeepfhjbemgoaaDoor
open Go.RowKit Go.Shelf

theorem nt_l0 {w : World} {lo s : Nat} {A : Option Addr} {n c a : Nat} (h : Nt w lo s (.slice A n c) a) : (n = 0 ↔ a = 0) := by
  obtain ⟨A', n', c', xs, e, h1, h2, _, h4⟩ := h
  injection e with _ e2 _
  subst e2
  constructor
  · intro h
    have e : xs = [] := List.eq_nil_of_length_eq_zero (by rw [h1.num, h])
    rw [← h2, e]
    rfl
  · intro h
    rw [← h1.num, M.val_zero h4 (by rw [h2, h])]
    rfl
theorem digits_room (w : World) (lo : Nat) (v : Value) (a : Nat) (h : Nw w lo 30 v a) : (Lib.decDigits a).length ≤ 1920 := by
  have h1 := h.lt
  have key : ∀ (k u : Nat), u < 10 ^ (k + 1) → Lib.nDigits u ≤ k + 1 := by
    intro k
    induction k with
    | zero => intro u h; rw [Lib.nDigits_small (by simpa using h)]; exact Nat.le_refl _
    | succ k ih =>
      intro u h
      by_cases h10 : u < 10
      · rw [Lib.nDigits_small h10]; omega
      · rw [Lib.nDigits_big h10]
        have := ih (u / 10) (by rw [Nat.pow_succ] at h; omega)
        omega
  have h2 : (18446744073709551616 : Nat) ^ 30 ≤ (10 ^ 20) ^ 30 := Nat.pow_le_pow_left (by omega) _
  rw [← Nat.pow_mul, show 20 * 30 = 599 + 1 from rfl] at h2
  rw [Lib.decDigits_length]
  exact Nat.le_trans (key 599 a (Nat.lt_of_lt_of_le h1 h2)) (by omega)
/-- Parse of a text of a number. -/
theorem parse_dd (w : World) (a : Nat) (S : ByteArray) (hS : (⟨(Lib.decDigits a).toArray⟩ : ByteArray) = S) (hlen : (Lib.decDigits a).length ≤ 2000) (hEW : ErrW w) : Calls Tryd.prog 19 #[.string S] w (Opt 2001 a true w) := by
  obtain ⟨k1, k2, k3, k4⟩ := M.dd_all a a (Nat.le_refl _)
  have hl : S.data.toList = Lib.decDigits a := by rw [← hS]
  have := parse_any w S _ hl k3 hlen k4 hEW
  unfold Parsed at this
  rw [k1, if_pos rfl, k2] at this
  exact this

set_option maxHeartbeats 16000000 in
set_option maxRecDepth 100000 in
theorem texts_walk (w : World) (hTW : TabW w) (hEW : ErrW w) (A0 : Option Addr) (n0 c0 : Nat) (x0 : List Nat) (e0 : Src w A0 n0 c0 x0) (s : ByteArray) (_ws : s.size ≤ maxLen) :
    Calls Tryd.prog 3 #[.slice A0 n0 c0, .string s] w (True_ w) := by
  obtain ⟨k, hk, hk1, hk2⟩ : ∃ k : Nat, min (s.size : Int) 200 = (k : Int) ∧ k ≤ s.size ∧ k ≤ 200 := ⟨min s.size 200, by omega, by omega, by omega⟩
  obtain ⟨T, hT⟩ : ∃ T, s.extract 0 k = T := ⟨_, rfl⟩
  obtain ⟨l, hl⟩ : ∃ l, T.data.toList = l := ⟨_, rfl⟩
  have hll : l.length ≤ 200 := by
    have h1 : T.size = l.length := by rw [← hl]; exact (Array.length_toList).symm
    have h2 : T.size = k := by rw [← hT]; simp; omega
    omega
  have HL := Lib.hid hl
  clear hl
  have U := Up.refl w
  go_enter Tryd.func3, Tryd.ntmps3
  go_wp2_with fail
  refine (shown_any _ hTW hEW).mono ?_
  rintro _ w1 ⟨rfl, h1⟩
  replace e0 := e0.up h1
  replace U := U.trans h1
  clear h1
  go_wp2_with fail
  refine (few_lit _ _ _ _ _ e0 30 _ rfl (by omega)).mono ?_
  rintro _ w2 ⟨va, na, rfl, a, h2⟩
  replace e0 := e0.up h2
  replace U := U.trans h2
  clear h2
  clear e0
  have hdl := digits_room _ _ _ _ a
  obtain ⟨S1, hS1⟩ : ∃ S, (⟨(Lib.decDigits na).toArray⟩ : ByteArray) = S := ⟨_, rfl⟩
  have HS1 := Lib.hid hS1
  clear hS1
  go_wp2_with fail
  clear hT hk
  refine (halves_of _ _ _ _ _ a (by omega)).mono ?_
  rintro _ w3 ⟨vx, rfl, x, h3⟩
  replace a := a.up h3
  replace U := U.trans h3
  clear h3
  go_wp2_with fail
  refine (text_of _ _ _ _ _ a (by omega) (hTW.up U) _ HS1.out).mono ?_
  rintro _ w4 ⟨rfl, h4⟩
  replace a := a.up h4
  replace x := x.up h4
  replace U := U.trans h4
  clear h4
  go_wp2_with fail
  refine (parse_dd _ na S1 HS1.out (by omega) (hEW.up U)).mono ?_
  rintro _ w5 ⟨vb, rfl, b, h5⟩
  replace a := a.up h5
  replace x := x.up h5
  replace U := U.trans h5
  clear h5
  clear a
  go_wp2_with fail
  rcases (show (l = [] ∨ (l.headD 0 = 48 ∧ l ≠ [48])) ∨ (l ≠ [] ∧ (l.headD 0 ≠ 48 ∨ l = [48])) by
    by_cases e1 : l = []
    · exact .inl (.inl e1)
    · by_cases e2 : l.headD 0 = 48
      · by_cases e3 : l = [48]
        · exact .inr ⟨e1, .inr e3⟩
        · exact .inl (.inr ⟨e2, e3⟩)
      · exact .inr ⟨e1, .inl e2⟩) with hbad | ⟨hne, hhd⟩
  ·
    have CP := Lib.hid (fun w' => parse_bad w' T l HL.out (by rcases hbad with h | h; exact .inl h; exact .inr (.inr h)))
    have CN := Lib.hid (fun w' => number_bad w' T l HL.out (by omega) hbad)
    clear hbad
    refine (CP.out _).mono ?_
    rintro _ w6 ⟨vc, rfl, c, h6⟩
    replace x := x.up h6
    replace b := b.up h6
    replace U := U.trans h6
    clear h6
    obtain ⟨Ac, sc, cc, wc, rfl, c⟩ := c
    replace c : Nt w6 _ _ (.slice Ac sc cc) (0) := ⟨Ac, sc, cc, wc, rfl, c⟩
    obtain rfl := (nt_l0 c).2 rfl
    go_wp2_with fail
    refine (CN.out _).mono ?_
    rintro _ _ ⟨rfl, rfl⟩
    go_wp2_with fail
    refine (digits_any _ _ _ _ _ x (by omega) (by omega) S1 HS1.out).mono ?_
    rintro _ w8 ⟨rfl, h8⟩
    replace x := x.up h8
    replace b := b.up h8
    replace c := c.up h8
    replace U := U.trans h8
    clear h8
    go_wp2_with fail
    refine (same_law _ _ _ _ _ _ _ _ _ b x rfl (by omega)).mono ?_
    rintro _ w9 ⟨rfl, h9⟩
    replace x := x.up h9
    replace b := b.up h9
    replace c := c.up h9
    replace U := U.trans h9
    clear h9
    go_wp2_with fail
    go_ret
    exact ⟨rfl, U⟩
  ·
    obtain ⟨t, ht⟩ : ∃ t, M.allD l = t := ⟨_, rfl⟩
    rcases t with _ | _
    ·
      have CP := Lib.hid (fun w' (hw : ErrW w') => by
        have := parse_any w' T l HL.out hne (by omega) hhd hw
        unfold Parsed at this
        rw [ht, if_neg (by simp)] at this
        exact this)
      have CN := Lib.hid (fun w' => number_any w' T l HL.out hne (by omega) hhd)
      have HT := Lib.hid ht
      clear hne hhd ht
      refine (CP.out _ (hEW.up U)).mono ?_
      rintro _ w10 ⟨vc, rfl, c, h10⟩
      replace x := x.up h10
      replace b := b.up h10
      replace U := U.trans h10
      clear h10
      obtain ⟨Ac, sc, cc, wc, rfl, c⟩ := c
      replace c : Nt w10 _ _ (.slice Ac sc cc) (0) := ⟨Ac, sc, cc, wc, rfl, c⟩
      obtain rfl := (nt_l0 c).2 rfl
      go_wp2_with fail
      refine (CN.out _).mono ?_
      rintro _ wn11 ⟨vd, rfl, _, hn⟩
      rw [HT.out]
      replace x := x.up hn
      replace b := b.up hn
      replace c := c.up hn
      replace U := U.trans hn
      clear hn
      go_wp2_with fail
      refine (digits_any _ _ _ _ _ x (by omega) (by omega) S1 HS1.out).mono ?_
      rintro _ w12 ⟨rfl, h12⟩
      replace x := x.up h12
      replace b := b.up h12
      replace c := c.up h12
      replace U := U.trans h12
      clear h12
      go_wp2_with fail
      refine (same_law _ _ _ _ _ _ _ _ _ b x rfl (by omega)).mono ?_
      rintro _ w13 ⟨rfl, h13⟩
      replace x := x.up h13
      replace b := b.up h13
      replace c := c.up h13
      replace U := U.trans h13
      clear h13
      go_wp2_with fail
      go_ret
      exact ⟨rfl, U⟩
    ·
      have CP := Lib.hid (fun w' (hw : ErrW w') => by
        have := parse_any w' T l HL.out hne (by omega) hhd hw
        unfold Parsed at this
        rw [ht, if_pos rfl] at this
        exact this)
      have CN := Lib.hid (fun w' => number_any w' T l HL.out hne (by omega) hhd)
      have HT := Lib.hid ht
      have hTT : (⟨(Lib.decDigits (M.vsa 0 l)).toArray⟩ : ByteArray) = T := by
        rw [M.dd_vsa l.length l (Nat.le_refl _) hne ht hhd, ← HL.out]
      have HTT := Lib.hid hTT
      clear hne hhd ht hTT
      refine (CP.out _ (hEW.up U)).mono ?_
      rintro _ w14 ⟨vc, rfl, c, h14⟩
      replace x := x.up h14
      replace b := b.up h14
      replace U := U.trans h14
      clear h14
      go_wp2_with fail
      refine (CN.out _).mono ?_
      rintro _ wn15 ⟨vd, rfl, hd, hn⟩
      rw [HT.out]
      have d := hd HT.out
      clear hd
      replace x := x.up hn
      replace b := b.up hn
      replace c := c.up hn
      replace U := U.trans hn
      clear hn
      go_wp2_with fail
      refine (digits_any _ _ _ _ _ x (by omega) (by omega) S1 HS1.out).mono ?_
      rintro _ w16 ⟨rfl, h16⟩
      replace x := x.up h16
      replace b := b.up h16
      replace c := c.up h16
      replace d := d.up h16
      replace U := U.trans h16
      clear h16
      go_wp2_with fail
      refine (same_law _ _ _ _ _ _ _ _ _ b x rfl (by omega)).mono ?_
      rintro _ w17 ⟨rfl, h17⟩
      replace x := x.up h17
      replace b := b.up h17
      replace c := c.up h17
      replace d := d.up h17
      replace U := U.trans h17
      clear h17
      go_wp2_with fail
      refine (same_law _ _ _ _ _ _ _ _ _ c d rfl (by omega)).mono ?_
      rintro _ w18 ⟨rfl, h18⟩
      replace x := x.up h18
      replace b := b.up h18
      replace c := c.up h18
      replace d := d.up h18
      replace U := U.trans h18
      clear h18
      go_wp2_with fail
      refine (text_of _ _ _ _ _ c.nw (by omega) (hTW.up U) _ HTT.out).mono ?_
      rintro _ w19 ⟨rfl, h19⟩
      replace x := x.up h19
      replace b := b.up h19
      replace c := c.up h19
      replace d := d.up h19
      replace U := U.trans h19
      clear h19
      go_wp2_with fail
      go_ret
      exact ⟨rfl, U⟩
end Go.Proofs.YteeepfhjbemgoaaDoor
