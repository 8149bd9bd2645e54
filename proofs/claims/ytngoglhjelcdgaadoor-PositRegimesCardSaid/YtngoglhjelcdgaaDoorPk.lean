/-
  The reference of layer 5: Key.
-/
import Derived.Test.YtngoglhjelcdgaaDoorPl
namespace Go.Proofs.YtngoglhjelcdgaaDoor
open Go.RowKit

namespace M
/-- The magnitude k of n bits is m times 2 to the power of z, m being odd. -/
def IsK (n k m : Nat) (z : Int) : Prop := m % 2 = 1 ∧ ∃ (R : Int) (r q t : Nat), Ps n k R r q ∧ 2 ^ (r - 2) + fr r q = m * 2 ^ t ∧ 4 * R + ex r q - (r - 2 : Nat) + t = z
theorem IsK.rng {n k m : Nat} {z : Int} (hn : n ≤ 64) (h : IsK n k m z) : 0 < k ∧ k < 2 ^ n ∧ -1000 ≤ z ∧ z ≤ 1000 ∧ 0 < m ∧ m < 9223372036854775808 := by
  obtain ⟨ho, R, r, q, t, h1, h2, rfl⟩ := h
  have rg := h1.rng
  have h3 := ex_le h1.1
  have h4 := fr_lt r q
  have p62 : 2 ^ (r - 2) ≤ 2 ^ 62 := p2le (by omega)
  have c62 : (2 : Nat) ^ 62 = 4611686018427387904 := by decide
  have p1 : m ≤ m * 2 ^ t := Nat.le_mul_of_pos_right _ (p2 t)
  have p3 : 2 ^ t ≤ m * 2 ^ t := Nat.le_mul_of_pos_left _ (by omega)
  have t64 : t < 64 := p2inj (by have : (2 : Nat) ^ 64 = 18446744073709551616 := by decide
                                 omega)
  refine ⟨rg.1, rg.2.1, by omega, by omega, by omega, by omega⟩
theorem isk_ex {n k : Nat} (hn : 2 ≤ n) (h0 : 0 < k) (hk : k < 2 ^ n) : ∃ m z, IsK n k m z := by
  obtain ⟨R, r, q, h⟩ := ps_ex hn h0 hk
  obtain ⟨m, t, h1, h2⟩ := odd_ex (2 ^ (r - 2) + fr r q) (by have := p2 (r - 2); omega)
  exact ⟨m, _, h2, R, r, q, t, h, h1, rfl⟩
/-- The number of it, times 2^1000. -/
def vz (m : Nat) (z : Int) : Nat := m * 2 ^ (z + 1000).toNat
theorem IsK.vx {n k m : Nat} {z : Int} (hn : n ≤ 64) (h : IsK n k m z) : ∃ R r q, Ps n k R r q ∧ vx R r q = vz m z := by
  have g := h.rng hn
  obtain ⟨ho, R, r, q, t, h1, h2, h3⟩ := h
  refine ⟨R, r, q, h1, ?_⟩
  have rg := h1.rng
  have h4 := ex_le h1.1
  rw [vx_fields hn h1, h2, vz, Nat.mul_assoc, ← Nat.pow_add]
  congr 2
  omega
theorem isk_lt {n k k' m m' : Nat} {z z' : Int} (hn : n ≤ 64) (h : IsK n k m z) (h' : IsK n k' m' z') (hk : k < k') : vz m z < vz m' z' := by
  obtain ⟨R, r, q, a, b⟩ := h.vx hn
  obtain ⟨R', r', q', a', b'⟩ := h'.vx hn
  rw [← b, ← b']
  exact vx_lt hn a a' hk
theorem isk_inj {n k k' m : Nat} {z : Int} (hn : n ≤ 64) (h : IsK n k m z) (h' : IsK n k' m z) : k = k' := by
  rcases Nat.lt_trichotomy k k' with hk | hk | hk
  · have := isk_lt hn h h' hk; omega
  · exact hk
  · have := isk_lt hn h' h hk; omega
theorem isk_uniq {n k m m' : Nat} {z z' : Int} (h : IsK n k m z) (h' : IsK n k m' z') : m = m' ∧ z = z' := by
  obtain ⟨ho, R, r, q, t, h1, h2, h3⟩ := h
  obtain ⟨ho', R', r', q', t', h1', h2', h3'⟩ := h'
  obtain ⟨rfl, rfl, rfl⟩ := ps_uniq h1 h1'
  obtain ⟨rfl, rfl⟩ := odd_uniq ho ho' (h2.symm.trans h2')
  exact ⟨rfl, by omega⟩
end M
theorem rvalue_k (w : World) (n k m : Nat) (z : Int) (hn : n ≤ 64) (h : M.IsK n k m z) : Calls Tryd.prog 17 #[.int .i64 ((n : Int) + 1), u64 k] w (V3 m z true w) := by
  obtain ⟨ho, R, r, q, t, h1, h2, h3⟩ := h
  exact rvalue_in w n k r q R hn h1 _ m t (Lib.hid rfl) (Lib.hid h2) ho z (Lib.hid h3)
/-- What Key comes to. -/
def Ky (n m : Nat) (z : Int) (w : World) (e : Ending) (w' : World) : Prop :=
  ∃ (k : Nat) (t : Bool), e = .returned (.tuple #[u64 k, .bool t]) ∧ Up w w' ∧ (t = true → M.IsK n k m z) ∧ ∀ k', M.IsK n k' m z → t = true ∧ k = k'
/-- A round of the search. -/
structure Kr (n m : Nat) (z : Int) (key i : Nat) : Prop where
  fit : key + 2 ^ i ≤ 2 ^ n
  all : ∀ k, M.IsK n k m z → key ≤ k ∧ k < key + 2 ^ i
theorem Kr.start {n m : Nat} {z : Int} (hn : n ≤ 64) : Kr n m z 0 n := ⟨by omega, fun k h => ⟨Nat.zero_le _, by have := h.rng hn; omega⟩⟩
theorem Kr.stay {n m key i m' : Nat} {z z' : Int} (hn : n ≤ 64) (h : Kr n m z key (i + 1)) (h' : M.IsK n (key + 2 ^ i) m' z') (hv : M.vz m z < M.vz m' z') : Kr n m z key i := by
  have p := M.p2s i
  have f := h.fit
  refine ⟨by omega, fun k hk => ⟨(h.all k hk).1, ?_⟩⟩
  rcases Nat.lt_trichotomy k (key + 2 ^ i) with e | e | e
  · exact e
  · subst e
    obtain ⟨rfl, rfl⟩ := M.isk_uniq hk h'
    omega
  · have := M.isk_lt hn h' hk e
    omega
theorem Kr.go {n m key i m' : Nat} {z z' : Int} (hn : n ≤ 64) (h : Kr n m z key (i + 1)) (h' : M.IsK n (key + 2 ^ i) m' z') (hv : ¬ M.vz m z < M.vz m' z') : Kr n m z (key + 2 ^ i) i := by
  have p := M.p2s i
  have f := h.fit
  refine ⟨by omega, fun k hk => ⟨?_, by have := (h.all k hk).2; omega⟩⟩
  rcases Nat.lt_or_ge k (key + 2 ^ i) with e | e
  · have := M.isk_lt hn hk h' e
    omega
  · exact e

set_option maxHeartbeats 8000000 in
set_option maxRecDepth 100000 in
theorem rkey_any (w : World) (n : Nat) (hn2 : 2 ≤ n) (hn : n ≤ 64) (m0 m t : Nat) (e0 : Int) (hm0 : m0 < 18446744073709551616) (hm : Hid (m0 = m * 2 ^ t)) (ho : m % 2 = 1) (he0 : -9223372036854775808 ≤ e0 ∧ e0 ≤ 9223372036854775807) (z : Int) (hz : Hid (e0 + t = z)) :
    Calls Tryd.prog 20 #[.int .i64 ((n : Int) + 1), u64 m0, .int .i64 e0] w (Ky n m z w) := by
  have t64 : t < 64 := by
    have p3 : 2 ^ t ≤ m * 2 ^ t := Nat.le_mul_of_pos_left _ (by omega)
    have := hm.out
    exact M.p2inj (by have : (2 : Nat) ^ 64 = 18446744073709551616 := by decide
                      omega)
  have mm : m < 18446744073709551616 := by
    have p1 : m ≤ m * 2 ^ t := Nat.le_mul_of_pos_right _ (M.p2 t)
    have := hm.out
    omega
  have hm00 : 0 < m0 := by rw [hm.out]; exact Nat.mul_pos (by omega) (M.p2 t)
  go_enter Tryd.func20, Tryd.ntmps20
  go_wp2_with fail
  go_loop [1, 2] (fun xv ev => ∃ (x s : Nat) (y : Int), xv = u64 x ∧ ev = .int .i64 y ∧ s ≤ t ∧ 0 < x ∧ x ≤ m0 ∧ Hid (x = m * 2 ^ (t - s)) ∧ -9223372036854775808 ≤ y ∧ y ≤ 9223372036854775807 ∧ (y = e0 + s ∨ (4611686018427387904 < e0 ∧ y = e0 + s - 18446744073709551616))) (fun xv _ => (intOf xv).toNat)
  case atStart => exact ⟨m0, 0, e0, rfl, rfl, Nat.zero_le _, hm00, Nat.le_refl _, by show _ = _; rw [hm.out]; rfl, he0.1, he0.2, .inl (by omega)⟩
  case round =>
    obtain ⟨x, s, y, rfl, rfl, hs, hx0, hxm, HX, y1, y2, hy⟩ := hrel
    by_cases hst : s < t
    · obtain ⟨x', hx'⟩ : ∃ x', x / 2 = x' := ⟨_, rfl⟩
      have h2 : x = 2 * (m * 2 ^ (t - (s + 1))) := by
        rw [HX.out, show t - s = (t - (s + 1)) + 1 by omega, M.p2s]
        ac_rfl
      have HX3 : Hid (x' = m * 2 ^ (t - (s + 1))) := by show _ = _; omega
      have q1 : (x : Int) % 2 = 0 := by omega
      have q2 : (x : Int) / 2 = (x' : Int) := by omega
      have q3 : x' < x ∧ 0 < x' := by omega
      obtain ⟨y', hyy, b1, b2, hy'⟩ : ∃ y', IntKind.i64.wrap (y + 1) = y' ∧ -9223372036854775808 ≤ y' ∧ y' ≤ 9223372036854775807 ∧ (y' = e0 + (s + 1 : Nat) ∨ (4611686018427387904 < e0 ∧ y' = e0 + (s + 1 : Nat) - 18446744073709551616)) := by
        by_cases h : y = 9223372036854775807
        · exact ⟨-9223372036854775808, by rw [h]; decide, by decide, by decide, by omega⟩
        · exact ⟨y + 1, by simp [IntKind.wrap, IntKind.bits, IntKind.signed]; omega, by omega, by omega, by omega⟩
      have HY := Lib.hid hy'
      clear h2 hx' HX hy hy' he0
      go_wp2_with fail
      go_round
      case rel => exact ⟨x', s + 1, y', rfl, by first | rfl | rw [hyy], hst, q3.2, by omega, HX3, b1, b2, HY.out⟩
      case measure => simp [intOf]; omega
    · have hxm2 : x = m := by rw [HX.out, show t - s = 0 by omega]; simp
      obtain rfl : s = t := by omega
      have q1 : (x : Int) % 2 = 1 := by omega
      subst hxm2
      clear HX hst hs hxm hm hm00
      rcases (show 1000 < y ∨ y < -1000 ∨ (-1000 ≤ y ∧ y ≤ 1000) by omega) with h | h | ⟨h, h'⟩
      · have d1 : decide (1000 < y) = true := decide_eq_true h
        have HN : Hid (∀ k', ¬ M.IsK n k' x z) := fun k' hk => by have := hk.rng hn; have := hz.out; omega
        clear hy he0
        go_wp2_with fail
        go_ret2
        exact ⟨0, false, rfl, Up.refl _, (fun h => by cases h), fun k' hk => absurd hk (HN.out k')⟩
      · have d1 : decide (1000 < y) = false := decide_eq_false (by omega)
        have d2 : decide (y < -1000) = true := decide_eq_true h
        have HN : Hid (∀ k', ¬ M.IsK n k' x z) := fun k' hk => by have := hk.rng hn; have := hz.out; omega
        clear hy he0
        go_wp2_with fail
        go_ret2
        exact ⟨0, false, rfl, Up.refl _, (fun h => by cases h), fun k' hk => absurd hk (HN.out k')⟩
      · have d1 : decide (1000 < y) = false := decide_eq_false (by omega)
        have d2 : decide (y < -1000) = false := decide_eq_false (by omega)
        obtain rfl : y = z := by have := hz.out; omega
        clear hy he0 hz
        have HS : Hid (Kr n x y 0 n) := Kr.start hn
        have n64 : 2 ^ n ≤ 18446744073709551616 := M.p2le (b := 64) hn
        go_wp2_with fail
        go_loopw [8, 9] (fun kv cv wr => ∃ (key i : Nat) (c : Int), kv = u64 key ∧ cv = .int .i64 c ∧ c = (i : Int) - 1 ∧ i ≤ n ∧ Hid (Kr n x y key i) ∧ Up w wr) (fun _ cv _ => (intOf cv + 1).toNat)
        case atStart => exact ⟨0, n, _, rfl, rfl, by omega, Nat.le_refl _, HS, Up.refl _⟩
        case round =>
          obtain ⟨key, i, c, rfl, rfl, hc, hi, HK, U⟩ := hrel
          clear HS
          rcases (show i = 0 ∨ 0 < i by omega) with h0 | h0
          · subst h0
            have d3 : decide (0 ≤ c) = false := decide_eq_false (by omega)
            clear hc hi
            rcases Nat.eq_zero_or_pos key with k0 | k0
            · subst k0
              have CV := Lib.hid (fun W => rvalue_out W ((n : Int) + 1) 0 (by decide) (.inr (.inr (.inl rfl))))
              have HN : Hid (∀ k', ¬ M.IsK n k' x y) := fun k' hk => by
                have := HK.out.all k' hk
                have := hk.rng hn
                omega
              clear HK
              go_wp2_with fail
              refine (CV.out _).mono ?_
              rintro _ w2 ⟨rfl, u2⟩
              have U3 := U.trans u2
              go_wp2_with fail
              go_ret2
              exact ⟨0, false, rfl, U3, (fun h => by cases h), fun k' hk => absurd hk (HN.out k')⟩
            · have hkn : key < 2 ^ n := by have := HK.out.fit; omega
              obtain ⟨m', z', hk'⟩ := M.isk_ex hn2 k0 hkn
              have rg := hk'.rng hn
              have m'64 : m' < 18446744073709551616 := by omega
              have CV := Lib.hid (fun W => rvalue_k W n key m' z' hn hk')
              have HK1 : Hid (∀ k, M.IsK n k x y → k = key) := fun k hk => by have := HK.out.all k hk; omega
              have HK2 := Lib.hid hk'
              clear HK hk' rg hkn n64
              by_cases e1 : m' = x
              · by_cases e2 : z' = y
                · subst e1 e2
                  have b1 : ((m' : Int) != (m' : Int)) = false := by simp
                  have b2 : (z' != z') = false := by simp
                  go_wp2_with fail
                  refine (CV.out _).mono ?_
                  rintro _ w2 ⟨rfl, u2⟩
                  have U3 := U.trans u2
                  go_wp2_with fail
                  go_ret2
                  exact ⟨key, true, rfl, U3, (fun _ => HK2.out), fun k' hk => ⟨rfl, (HK1.out k' hk).symm⟩⟩
                · subst e1
                  have b1 : ((m' : Int) != (m' : Int)) = false := by simp
                  have b2 : (z' != y) = true := by simpa using e2
                  have HN : Hid (∀ k', ¬ M.IsK n k' m' y) := fun k' hk => by
                    obtain rfl := HK1.out k' hk
                    exact e2 (M.isk_uniq HK2.out hk).2
                  clear e2
                  go_wp2_with fail
                  refine (CV.out _).mono ?_
                  rintro _ w2 ⟨rfl, u2⟩
                  have U3 := U.trans u2
                  go_wp2_with fail
                  go_ret2
                  exact ⟨0, false, rfl, U3, (fun h => by cases h), fun k' hk => absurd hk (HN.out k')⟩
              · have b1 : ((m' : Int) != (x : Int)) = true := by rw [bne_iff_ne]; omega
                have HN : Hid (∀ k', ¬ M.IsK n k' x y) := fun k' hk => by
                  obtain rfl := HK1.out k' hk
                  exact e1 (M.isk_uniq HK2.out hk).1
                clear e1
                go_wp2_with fail
                refine (CV.out _).mono ?_
                rintro _ w2 ⟨rfl, u2⟩
                have U3 := U.trans u2
                go_wp2_with fail
                go_ret2
                exact ⟨0, false, rfl, U3, (fun h => by cases h), fun k' hk => absurd hk (HN.out k')⟩
          · obtain ⟨i, rfl⟩ : ∃ j, i = j + 1 := ⟨i - 1, by omega⟩
            obtain rfl : c = (i : Int) := by omega
            have d3 : decide (0 ≤ (i : Int)) = true := decide_eq_true (by omega)
            have hi64 : i < 64 := by omega
            have hfit := HK.out.fit
            have hps := M.p2s i
            have hpp := M.p2 i
            obtain ⟨p, hp⟩ : ∃ p : Nat, 2 ^ i = p := ⟨_, rfl⟩
            have hpz : (2 : Int) ^ i = (p : Int) := by rw [← hp]; simp
            have pk : key + p < 18446744073709551616 := by omega
            have HP := Lib.hid hp
            have HPZ := Lib.hid hpz
            have hpb : p < 18446744073709551616 := by omega
            obtain ⟨nx, hnx⟩ : ∃ nx : Nat, key + p = nx := ⟨_, rfl⟩
            have enx : (key : Int) + (p : Int) = (nx : Int) := by omega
            obtain ⟨m', z', hk'⟩ := M.isk_ex hn2 (k := key + 2 ^ i) (by omega) (by omega)
            have rg := hk'.rng hn
            obtain ⟨tt, htt⟩ : ∃ tt, decide (x * 2 ^ (y + 1000).toNat < m' * 2 ^ (z' + 1000).toNat) = tt := ⟨_, rfl⟩
            have CV := Lib.hid (fun W => rvalue_k W n nx m' z' hn (by rw [← hnx, ← hp]; exact hk'))
            have CL := Lib.hid (fun W => rless_any W x m' y z' hx0 (by omega) mm (by omega) ⟨h, h'⟩ (by omega) tt (Lib.hid htt))
            have HK2 : Hid (Kr n x y (if tt = true then key else nx) i) := by
              show Kr _ _ _ _ _
              cases tt with
              | true => exact Kr.stay hn HK.out hk' (of_decide_eq_true htt)
              | false =>
                rw [if_neg (by decide), ← hnx, ← hp]
                exact Kr.go hn HK.out hk' (of_decide_eq_false htt)
            have m'64 : m' < 18446744073709551616 := by omega
            have HI : Hid (i ≤ n) := by show _ ≤ _; omega
            clear hfit hps hpp n64 hp hi hc hnx hk' rg htt HK HP
            go_wp2_with fail
            refine (CV.out _).mono ?_
            rintro _ w2 ⟨rfl, u2⟩
            have U3 := U.trans u2
            clear CV u2
            go_wp2_with fail
            refine (CL.out _).mono ?_
            rintro _ _ ⟨rfl, rfl⟩
            clear CL
            cases tt with
            | true =>
              go_wp2_with fail
              go_roundw
              case rel => exact ⟨key, i, (i : Int) - 1, rfl, by go_num, rfl, HI.out, HK2.out, U3⟩
              case measure => first | (simp [intOf]; done) | (simp [intOf]; omega)
            | false =>
              go_wp2_with fail
              go_roundw
              case rel => exact ⟨nx, i, (i : Int) - 1, by go_num, by go_num, rfl, HI.out, HK2.out, U3⟩
              case measure => first | (simp [intOf]; done) | (simp [intOf]; omega)
end Go.Proofs.YtngoglhjelcdgaaDoor
