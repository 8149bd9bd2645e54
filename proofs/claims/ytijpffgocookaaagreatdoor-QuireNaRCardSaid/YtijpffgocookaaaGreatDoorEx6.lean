/-
  Package exact: Reduced.
-/
import Derived.Test.YtijpffgocookaaaGreatDoorEx3
import Derived.Test.YtijpffgocookaaaGreatDoorExa
import Derived.Test.YtijpffgocookaaaGreatDoorNb
namespace Go.Proofs.YtijpffgocookaaaGreatDoor
open Go.RowKit Go.Shelf

theorem cell_grown {w w' : World} {b : Nat} (hg : w.grownBy w' (some b)) {p : Addr} (hp : p.block ≠ b) {v : Value} (h : w.cell? p = some v) : w'.cell? p = some v := by
  have hbl := hg.block p.block (World.block_lt_of_cell? w _ h) (fun e => hp (Option.some.inj e))
  exact (World.cell?_of_block (w := w) hbl).trans h
theorem frozen_grown {w w' : World} {b : Nat} (hg : w.grownBy w' (some b)) {p : Addr} (hp : p.block ≠ b) {v : Value} (h : w.cell? p = some v) (k : w.frozen? p = false) : w'.frozen? p = false := by
  have hbl := hg.block p.block (World.block_lt_of_cell? w _ h) (fun e => hp (Option.some.inj e))
  exact (World.frozen?_of_block (w := w) hbl).trans k
theorem Nt.kept {w w' : World} {lo s b : Nat} {v : Value} {a : Nat} (h : Nt w lo s v a) (hg : w.grownBy w' (some b)) (hne : v.ownBlock ≠ some b) : Nt w' lo s v a := by
  obtain ⟨A, n, c, xs, rfl, h1, h2⟩ := h
  refine ⟨A, n, c, xs, rfl, h1.kept hg (fun _ b' e => ?_), h2⟩
  rcases A with _ | ad
  · cases e
  · simp only [Option.map_some, Option.some.injEq] at e
    subst e
    intro e2
    exact hne e2.symm
theorem Nt.own_lo {w : World} {lo s b : Nat} {v : Value} {a : Nat} (h : Nt w lo s v a) (h0 : 0 < a) (hb : b < lo) : v.ownBlock ≠ some b := by
  obtain ⟨A, n, c, xs, rfl, h1, h2, _⟩ := h
  have hn : 0 < n := by
    rcases Nat.eq_zero_or_pos n with e | e
    · exfalso
      have : xs = [] := List.eq_nil_of_length_eq_zero (by rw [h1.num, e])
      rw [this] at h2; simp [M.val] at h2; omega
    · exact e
  obtain ⟨b', o, rfl, hl, _⟩ := h1.at_ hn
  intro e
  simp only [Value.ownBlock, Option.some.injEq] at e
  omega
theorem Nt.own_hi {w : World} {lo s b : Nat} {v : Value} {a : Nat} (h : Nt w lo s v a) (h0 : 0 < a) (hb : w.heap.size ≤ b) : v.ownBlock ≠ some b := by
  obtain ⟨A, n, c, xs, rfl, h1, h2, _⟩ := h
  have hn : 0 < n := by
    rcases Nat.eq_zero_or_pos n with e | e
    · exfalso
      have : xs = [] := List.eq_nil_of_length_eq_zero (by rw [h1.num, e])
      rw [this] at h2; simp [M.val] at h2; omega
    · exact e
  obtain ⟨b', o, rfl, hl, hc⟩ := h1.at_ hn
  have := World.block_lt_of_cell? w _ (hc 0 hn).1
  simp only at this
  intro e
  simp only [Value.ownBlock, Option.some.injEq] at e
  omega

theorem Bx.grown {w w' : World} {b b' : Nat} {neg : Bool} {v : Value} {t f : Int} (h : Bx w b' neg v t f) (hg : w.grownBy w' (some b)) (hne : b' ≠ b) : Bx w' b' neg v t f := by
  obtain ⟨⟨a0, a1, a2, a3⟩, b0, b1, b2, b3⟩ := h
  exact ⟨⟨cell_grown hg hne a0, cell_grown hg hne a1, cell_grown hg hne a2, cell_grown hg hne a3⟩, frozen_grown hg hne a0 b0, frozen_grown hg hne a1 b1, frozen_grown hg hne a2 b2, frozen_grown hg hne a3 b3⟩
/-- What is so while factors are taken out: the variable's block is b. -/
structure RInv (w0 : World) (b lo s N base k r : Nat) (v : Value) (wr : World) : Prop where
  only : w0.grownBy wr (some b)
  cell : wr.cell? ⟨b, 0, none⟩ = some v
  free : wr.frozen? ⟨b, 0, none⟩ = false
  num : Nt wr lo s v r
  own : v.ownBlock ≠ some b
  eq : r * base ^ k = N
theorem RInv.up {w0 wr w' : World} {b lo s N base k r : Nat} {v : Value} (h : RInv w0 b lo s N base k r v wr) (hu : Up wr w') : RInv w0 b lo s N base k r v w' :=
  ⟨only_up h.only hu, cell_up hu h.cell, frozen_up hu h.cell h.free, h.num.up hu, h.own, h.eq⟩
theorem RInv.set {w0 wr : World} {b lo s N base k r k' r' : Nat} {v v' : Value} (h : RInv w0 b lo s N base k r v wr) (h' : Nt wr lo s v' r') (ho : v'.ownBlock ≠ some b) (e : r' * base ^ k' = N) :
    RInv w0 b lo s N base k' r' v' (wr.setCell ⟨b, 0, none⟩ v') := by
  have hg : wr.grownBy (wr.setCell ⟨b, 0, none⟩ v') (some b) := only_setCell (World.grownBy.refl _ _) 0 v'
  exact ⟨only_setCell h.only 0 v', World.cell?_setCell_same wr _ _ h.cell, by rw [World.frozen?_setCell]; exact h.free, h'.kept hg ho, ho, e⟩
theorem M.taken_le {r base k N s : Nat} (h : r * base ^ k = N) (hN : 0 < N) (hb : 2 ≤ base) (hs : N < 18446744073709551616 ^ s) : k < 64 * s + 1 := by
  have hr : 0 < r := by
    rcases Nat.eq_zero_or_pos r with e | e
    · rw [e, Nat.zero_mul] at h; omega
    · exact e
  have h1 : 2 ^ k ≤ base ^ k := Nat.pow_le_pow_left hb k
  have h2 : 1 * base ^ k ≤ r * base ^ k := Nat.mul_le_mul_right _ hr
  have h3 : 2 ^ k < 2 ^ (64 * s) := by rw [Nat.pow_mul]; exact Nat.lt_of_le_of_lt (by omega) hs
  have := (Nat.pow_lt_pow_iff_right (by omega : 1 < 2)).1 h3
  omega

/-- What takeOut comes to. -/
def Took (w0 : World) (b lo s N base : Nat) (e : Ending) (w' : World) : Prop := ∃ (k r : Nat) (v : Value), e = .returned (.int .i64 k) ∧ RInv w0 b lo s N base k r v w' ∧ r % base ≠ 0 ∧ k ≤ 64 * s
set_option maxHeartbeats 2000000 in
set_option maxRecDepth 100000 in
theorem takeOut_any (w0 w : World) (b lo s N base : Nat) (v : Value) (hbs : base = 2 ∨ base = 5) (h : RInv w0 b lo s N base 0 N v w) (hN : 0 < N) (hNs : N < 18446744073709551616 ^ s) (hs : s ≤ 1000000) (hlo : lo ≤ w.heap.size) (hbl : b < w.heap.size) (B : Int) (hB : B = (base : Int)) :
    Calls Tryz.prog 95 #[.int .u64 B, .pointer (some ⟨b, 0, none⟩)] w (Took w0 b lo s N base) := by
  subst hB
  have hb2 : 2 ≤ base := by omega
  have hb5 : base ≤ 5 := by omega
  clear hbs
  have H := Lib.hid h
  clear h
  go_enter Tryz.func95, Tryz.ntmps95
  go_wp2_with fail
  go_loopw [4, 5] (fun kv pv wr => ∃ (k p r : Nat) (v : Value), kv = .int .i64 k ∧ pv = .int .i64 p ∧ p ≤ 16 ∧ 0 < r ∧ lo ≤ wr.heap.size ∧ b < wr.heap.size ∧ Hid (RInv w0 b lo s N base k r v wr) ∧ Hid (p = 0 → r % base ≠ 0)) (fun _ pv _ => (intOf pv).toNat)
  case atStart => exact ⟨0, 16, N, v, rfl, rfl, by omega, hN, hlo, hbl, H, fun h => by omega⟩
  case round =>
    obtain ⟨k, p, r, v1, rfl, rfl, hp, hr, hlo1, hbl1, HI, HP⟩ := hrel
    clear H hlo hbl
    have hk := M.taken_le HI.out.eq hN hb2 hNs
    by_cases hp0 : p = 0
    · subst hp0
      have hrb := HP.out rfl
      have HRB := Lib.hid hrb
      clear hrb
      go_wp2_with fail
      go_ret
      exact ⟨k, r, v1, rfl, HI.out, HRB.out, by omega⟩
    · have hpp : 0 < p := by omega
      clear HP hp0
      go_wp2_with fail
      refine (pow_any wr base p (p : Int) (by omega) (by omega)).mono ?_
      rintro _ w1 ⟨vf, rfl, hf, hu1⟩
      obtain ⟨F, hF⟩ : ∃ F, base ^ p = F := ⟨_, rfl⟩
      have hF2 : 2 ≤ F := by
        rw [← hF]
        have h1 : 2 ^ 1 ≤ 2 ^ p := Nat.pow_le_pow_right (by omega) hpp
        have h2 : 2 ^ p ≤ base ^ p := Nat.pow_le_pow_left hb2 p
        omega
      rw [hF] at hf
      have HFO := Lib.hid (hf.own_lo (by omega) hbl1)
      have HF := Lib.hid hF
      have HI1 := Lib.hid (HI.out.up hu1)
      have hl1 := Nat.le_trans hlo1 (Up.size hu1)
      have hl2 := Nat.lt_of_lt_of_le hbl1 (Up.size hu1)
      have hc1 := HI1.out.cell
      have hnw := HI1.out.num.nw
      clear hF HI hu1 hlo1 hbl1
      go_wp2_with fail
      refine (div_any w1 _ _ _ _ _ _ _ _ hnw hf.nw (by omega) (by omega)).mono ?_
      rintro _ w2 ⟨v2, v3, rfl, h2, h3, hu2⟩
      have HI2 := Lib.hid (HI1.out.up hu2)
      have hf2 := hf.up hu2
      have hm1 := Nat.le_trans hl1 (Up.size hu2)
      have hm2 := Nat.lt_of_lt_of_le hl2 (Up.size hu2)
      have hrN : r ≤ N := by
        rw [← HI2.out.eq]
        exact Nat.le_mul_of_pos_right r (Nat.pow_pos (by omega))
      have h2' : Nt w2 lo s v2 (r / F) := ((h2.lower hl1).fit (Nat.lt_of_le_of_lt (Nat.div_le_self _ _) (Nat.lt_of_le_of_lt hrN hNs)))
      have h3' : Nt w2 lo (s + 1) v3 (r % F) := h3.lower hl1
      have ho : Hid (0 < r / F → v2.ownBlock ≠ some b) := fun h => h2.own_lo h hl2
      clear hc1 hnw HI1 hl1 hl2 hu2 h2 h3 hrN hf
      go_wp2_with fail
      go_loopw [4, 7, 8] (fun kv ov lv wi => ∃ (k r : Nat) (v1 v2 v3 : Value), kv = .int .i64 k ∧ ov = v2 ∧ lv = v3 ∧ 0 < r ∧ lo ≤ wi.heap.size ∧ b < wi.heap.size ∧ Hid (RInv w0 b lo s N base k r v1 wi) ∧ Nt wi lo s v2 (r / F) ∧ Nt wi lo (s + 1) v3 (r % F) ∧ Up w2 w2 ∧ w2.grownBy wi (some b) ∧ Hid (0 < r / F → v2.ownBlock ≠ some b)) (fun kv _ _ _ => 64 * s + 100 - (intOf kv).toNat)
      case atStart => exact ⟨k, r, v1, v2, v3, rfl, rfl, rfl, hr, hm1, hm2, HI2, h2', h3', Up.refl _, World.grownBy.refl _ _, ho⟩
      case round =>
        obtain ⟨k, r, v1, v2, v3, rfl, rfl, rfl, hr, hm1, hm2, HI, h2, h3, _, hg, HO⟩ := hrel
        have hk := M.taken_le HI.out.eq hN hb2 hNs
        by_cases hd : r % F = 0
        · have CI := Lib.hid (isNought_any wr lo _ _ _ h3.nw true (decide_eq_true hd))
          have hq0 : 0 < r / F := by
            have := Nat.div_add_mod r F
            rcases Nat.eq_zero_or_pos (r / F) with e | e
            · rw [e, Nat.mul_zero, hd] at this; omega
            · exact e
          have hE : r / F * base ^ (k + p) = N := by
            rw [← HI.out.eq, Nat.pow_add, HF.out, Nat.mul_comm (base ^ k), ← Nat.mul_assoc]
            congr 1
            have := Nat.div_add_mod r F
            rw [hd, Nat.add_zero, Nat.mul_comm] at this
            exact this
          have hk2 := M.taken_le hE hN hb2 hNs
          have h2k := h2
          obtain ⟨A2, n2, c2, xs2, rfl, hx2⟩ := h2
          have HS := Lib.hid (HI.out.set h2k (HO.out hq0) hE)
          have hcz := HI.out.cell
          have hfz := HI.out.free
          have hm3 : lo ≤ (wr.setCell ⟨b, 0, none⟩ (.slice A2 n2 c2)).heap.size := by simpa [World.setCell] using hm1
          have hm4 : b < (wr.setCell ⟨b, 0, none⟩ (.slice A2 n2 c2)).heap.size := by simpa [World.setCell] using hm2
          have hg2 : w2.grownBy (wr.setCell ⟨b, 0, none⟩ (.slice A2 n2 c2)) (some b) := only_setCell hg 0 (.slice A2 n2 c2)
          have hqN : r / F ≤ N := by
            rw [← hE]
            exact Nat.le_mul_of_pos_right _ (Nat.pow_pos (by omega))
          have hf3 := hf2.kept hg2 HFO.out
          clear hd hE HI h3 HO hx2 h2k hm1 hm2 hg
          go_wp2_with fail
          refine CI.out.mono ?_
          rintro _ _ ⟨rfl, rfl⟩
          go_wp2_with fail
          refine (div_any _ _ _ _ _ _ _ _ _ HS.out.num.nw hf3.nw (by omega) (by omega)).mono ?_
          rintro _ w5 ⟨v4, v5, rfl, h4, h5, hu5⟩
          have HS5 := Lib.hid (HS.out.up hu5)
          have hn1 := Nat.le_trans hm3 (Up.size hu5)
          have hn2 := Nat.lt_of_lt_of_le hm4 (Up.size hu5)
          have hg5 := only_up hg2 hu5
          have h4' : Nt w5 lo s v4 (r / F / F) := (h4.lower hm3).fit (Nat.lt_of_le_of_lt (Nat.div_le_self _ _) (Nat.lt_of_le_of_lt hqN hNs))
          have h5' : Nt w5 lo (s + 1) v5 (r / F % F) := h5.lower hm3
          have ho5 : Hid (0 < r / F / F → v4.ownBlock ≠ some b) := fun h => h4.own_lo h hm4
          clear HS hm3 hm4 hg2 h4 h5 hu5 hqN hf3
          go_wp2_with fail
          go_roundw
          case rel => exact ⟨k + p, r / F, _, v4, v5, by go_num, rfl, rfl, hq0, hn1, hn2, HS5, h4', h5', Up.refl _, hg5, ho5⟩
          case measure => simp [intOf]; omega
        · have CI := Lib.hid (isNought_any wr lo _ _ _ h3.nw false (decide_eq_false hd))
          obtain ⟨p2, hp2⟩ : ∃ p2, p / 2 = p2 := ⟨_, rfl⟩
          have q1 : (p : Int) / 2 = (p2 : Int) := by omega
          have q2 : (p : Int).tdiv 2 = (p2 : Int) := by rw [Int.tdiv_eq_ediv_of_nonneg (by omega)]; exact q1
          have HP2 : Hid (p2 = 0 → r % base ≠ 0) := fun h => by
            have hp1 : p = 1 := by omega
            have := HF.out
            rw [hp1, Nat.pow_one] at this
            rw [this]; exact hd
          have hp3 : p2 ≤ 16 := by omega
          have hp4 : p2 < p := by omega
          clear hd hp2 h2 h3 HO hg
          go_wp2_with fail
          refine CI.out.mono ?_
          rintro _ _ ⟨rfl, rfl⟩
          go_wp2_with fail
          go_roundw
          case rel => exact ⟨k, p2, r, v1, rfl, rfl, hp3, hr, hm1, hm2, HI, HP2⟩
          case measure => simp [intOf]; omega

/-- A number and the same one reduced. -/
structure M.Rdx (a : Nat) (t f : Int) (s a' : Nat) (t' f' : Int) : Prop where
  zero : a = 0 → a' = 0 ∧ t' = 0 ∧ f' = 0
  pos : 0 < a → ∃ k2 k5 : Nat, a' * 5 ^ k5 * 2 ^ k2 = a ∧ a' % 2 ≠ 0 ∧ a' % 5 ≠ 0 ∧ t' = t + k2 ∧ f' = f + k5 ∧ k2 ≤ 64 * s ∧ k5 ≤ 64 * s
/-- What Reduced comes to. -/
def Red (neg : Bool) (s a : Nat) (t f : Int) (w : World) (e : Ending) (w' : World) : Prop := ∃ v a' t' f', e = .returned (xv neg v t' f') ∧ Nt w' w.heap.size s v a' ∧ Up w w' ∧ M.Rdx a t f s a' t' f'
set_option maxHeartbeats 2000000 in
set_option maxRecDepth 100000 in
theorem reduced_any (w : World) (lo s : Nat) (neg : Bool) (v : Value) (t f : Int) (a : Nat) (h : Nw w lo s v a) (hs : s ≤ 1000000) (bt : -1000000 ≤ t ∧ t ≤ 1000000) (bf : -1000000 ≤ f ∧ f ≤ 1000000) :
    Calls Tryz.prog 56 #[xv neg v t f] w (Red neg s a t f w) := by
  have bA := Bx.mk_ w neg v t f
  have bR := Bx.mk_ (w.alloc (.cells #[.bool neg, v, .int .i64 t, .int .i64 f] 34)) false (.slice none 0 0) 0 0
  rw [show (w.alloc (.cells #[.bool neg, v, .int .i64 t, .int .i64 f] 34)).heap.size = w.heap.size + 1 from Array.size_push _] at bR
  obtain ⟨W, hW⟩ : ∃ W, (w.alloc (.cells #[.bool neg, v, .int .i64 t, .int .i64 f] 34)).alloc (.cells #[.bool false, .slice none 0 0, .int .i64 0, .int .i64 0] 34) = W := ⟨_, rfl⟩
  have hu : Up w W := by rw [← hW]; exact (((Up.refl w).alloc _).alloc _)
  replace bA : Bx W w.heap.size neg v t f := by rw [← hW]; exact bA.up ((Up.refl _).alloc _)
  rw [hW] at bR
  have HW := Lib.hid hW
  clear hW
  by_cases h0 : a = 0
  · have CI := Lib.hid (isNought_any W lo s v a (h.up hu) true (decide_eq_true h0))
    have fin : Red neg s a t f w (.returned (xv neg (.slice none 0 0) 0 0)) (set4 W (w.heap.size + 1) (.bool neg) (.slice none 0 0) (.int .i64 0) (.int .i64 0)) :=
      ⟨_, 0, 0, 0, rfl, Nt.nil _ _ _, hu.set4 (Nat.le_succ _) _ _ _ _, ⟨fun _ => ⟨rfl, rfl, rfl⟩, fun hp => by omega⟩⟩
    have FIN := Lib.hid fin
    obtain ⟨⟨a0, a1, a2, a3⟩, _⟩ := bA
    obtain ⟨⟨b0, b1, b2, b3⟩, g0, g1, g2, g3⟩ := bR
    clear h0 fin
    go_enter Tryz.func56, Tryz.ntmps56
    go_wp2_with fail
    rw [HW.out]
    refine CI.out.mono ?_
    rintro _ _ ⟨rfl, rfl⟩
    go_wp2_with fail
    exact bodyPost_ret (v := xv neg (.slice none 0 0) 0 0) (by simp [results, Tryz.results56, go_sem, b0, b1, b2, b3]) rfl FIN.out
  · have hp : 0 < a := by omega
    have CI := Lib.hid (isNought_any W lo s v a (h.up hu) false (decide_eq_false h0))
    have hNs := h.lt
    have hsz := World.block_lt_of_cell? W _ bR.1.1
    simp only at hsz
    obtain ⟨⟨a0, a1, a2, a3⟩, aa⟩ := bA
    go_enter Tryz.func56, Tryz.ntmps56
    go_wp2_with fail
    rw [HW.out]
    refine CI.out.mono ?_
    rintro _ _ ⟨rfl, rfl⟩
    go_wp2_with fail
    refine (norm_any W _ _ _ _ (h.up hu)).mono ?_
    rintro _ w1 ⟨_, rfl, ⟨A1, nn1, cc1, ys1, rfl, h1⟩, hu1⟩
    replace h1 : Nt w1 W.heap.size s (.slice A1 nn1 cc1) a := ⟨A1, nn1, cc1, ys1, rfl, h1⟩
    have bA1 := Bx.up ⟨⟨a0, a1, a2, a3⟩, aa⟩ hu1
    have bR1 := bR.up hu1
    clear a0 a1 a2 a3 aa bR CI
    go_wp2_with fail
    obtain ⟨V, hV⟩ : ∃ V, w1.alloc (.cells #[.slice A1 nn1 cc1] 32) = V := ⟨_, rfl⟩
    have uV : Up w1 V := by rw [← hV]; exact (Up.refl w1).alloc _
    have hVs : V.heap.size = w1.heap.size + 1 := by rw [← hV]; exact Array.size_push _
    have r0 : RInv V w1.heap.size W.heap.size s a 2 0 a (.slice A1 nn1 cc1) V :=
      ⟨World.grownBy.refl _ _, by rw [← hV]; simp, by rw [← hV]; simp, h1.up uV, h1.own_hi hp (Nat.le_refl _), by simp⟩
    obtain ⟨b, hb⟩ : ∃ b, w1.heap.size = b := ⟨_, rfl⟩
    have hWb : W.heap.size ≤ b := by rw [← hb]; exact Up.size hu1
    rw [hb] at r0 hVs ⊢
    have bA2 := bA1.up uV
    have bR2 := bR1.up uV
    have uwV := (hu.trans hu1).trans uV
    rw [hV]
    clear bA1 bR1 hV uV hb h1 hu1 HW
    refine (takeOut_any V V b W.heap.size s a 2 _ (.inl rfl) r0 hp hNs hs (by omega) (by omega) 2 rfl).mono ?_
    rintro _ w2 ⟨k2, r2, v2, rfl, R2, hr2, hk2⟩
    have hr2p : 0 < r2 := by
      rcases Nat.eq_zero_or_pos r2 with e | e
      · rw [e] at hr2; simp at hr2
      · exact e
    have hr2a : r2 ≤ a := by
      rw [← R2.eq]
      exact Nat.le_mul_of_pos_right _ (Nat.pow_pos (by omega))
    have r20 : RInv V b W.heap.size s r2 5 0 r2 v2 w2 := ⟨R2.only, R2.cell, R2.free, R2.num, R2.own, by simp⟩
    have hs2 := R2.only.size
    have E2 := Lib.hid R2.eq
    have HR2 := Lib.hid hr2
    clear R2 r0 hr2
    go_wp2_with fail
    refine (takeOut_any V w2 b W.heap.size s r2 5 v2 (.inr rfl) r20 hr2p (by omega) hs (by omega) (by omega) 5 rfl).mono ?_
    rintro _ w3 ⟨k5, r5, v5, rfl, R5, hr5, hk5⟩
    have bA3 := bA2.grown R5.only (by omega)
    have bR3 := bR2.grown R5.only (by omega)
    have uF : Up w w3 := uwV.grown R5.only (fun b' e => by cases e; have := Up.size hu; omega)
    have hN := R5.num
    have hcv := R5.cell
    have hrd : M.Rdx a t f s r5 (t + k2) (f + k5) := ⟨fun e => absurd e h0, fun _ => ⟨k2, k5, by rw [R5.eq]; exact E2.out, fun e => by
      apply HR2.out
      rw [← R5.eq, Nat.mul_mod, e, Nat.zero_mul, Nat.zero_mod], hr5, rfl, rfl, hk2, hk5⟩⟩
    have fin : Red neg s a t f w (.returned (xv neg v5 (t + k2) (f + k5))) (set4 w3 (w.heap.size + 1) (.bool neg) v5 (.int .i64 (t + k2)) (.int .i64 (f + k5))) :=
      ⟨v5, r5, _, _, rfl, (hN.set4 hsz _ _ _ _).lower (Up.size hu), uF.set4 (Nat.le_succ _) _ _ _ _, hrd⟩
    obtain ⟨A5, n5, c5, ys5, rfl, h5⟩ := hN
    have FIN := Lib.hid fin
    obtain ⟨⟨a0, a1, a2, a3⟩, _⟩ := bA3
    obtain ⟨⟨b0, b1, b2, b3⟩, g0, g1, g2, g3⟩ := bR3
    clear fin hrd uF R5 r20 bA2 bR2 E2 HR2 h5
    go_wp2_with fail
    exact bodyPost_ret (v := xv neg (.slice A5 n5 c5) (t + k2) (f + k5)) (by simp [results, Tryz.results56, go_sem, b0, b1, b2, b3]) rfl FIN.out
end Go.Proofs.YtijpffgocookaaaGreatDoor
