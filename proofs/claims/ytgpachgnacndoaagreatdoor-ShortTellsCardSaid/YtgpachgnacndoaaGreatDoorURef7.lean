/-
  The reference of layer 2: Floor, Log10.
-/
import Derived.Test.YtgpachgnacndoaaGreatDoorURef4
import Derived.Test.YtgpachgnacndoaaGreatDoorURfa
import Derived.Test.YtgpachgnacndoaaGreatDoorUEx6
namespace Go.Proofs.YtgpachgnacndoaaGreatDoor
open Go.RowKit Go.Shelf

theorem nhl0 {w : World} {lo s : Nat} {A : Option Addr} {n c a : Nat} (h : Nh w lo s (.slice A n c) a) : (n = 0 ↔ a = 0) := by
  obtain ⟨A', n', c', xs, e, h1, h2, h3, _, h4⟩ := h
  injection e with _ e2 _
  subst e2
  constructor
  · intro h
    have e : xs = [] := List.eq_nil_of_length_eq_zero (by rw [h1.num, h])
    rw [← h3, e]
    rfl
  · intro h
    have := M.hlen_of_lt (k := 0) h2 h4 (by rw [h3, h]; exact Nat.lt_of_lt_of_le Nat.zero_lt_one (Nat.le_refl _))
    rw [← h1.num]
    omega
/-- What the reference's Floor comes to. -/
def Flr (s q : Nat) (z : Int) (w : World) (e : Ending) (w' : World) : Prop := ∃ v, e = .returned (.tuple #[v, .int .i64 z]) ∧ Nt w' w.heap.size s v q ∧ Up w w'

set_option maxHeartbeats 4000000 in
set_option maxRecDepth 100000 in
theorem rfloor_any (w : World) (lo s : Nat) (neg : Bool) (v : Value) (t f : Int) (a : Nat) (h : Nw w lo s v a) (hs : s ≤ 100000) (k : Int) (bt : -5000 ≤ t ∧ t ≤ 5000) (bf : -5000 ≤ f ∧ f ≤ 5000) (bk : -5000 ≤ k ∧ k ≤ 5000) (T F T' F' : Nat)
    (hT : Hid (max (t - k) 0 = (T : Int))) (hF : Hid (max (f - k) 0 = (F : Int))) (hT' : Hid (max (-(t - k)) 0 = (T' : Int))) (hF' : Hid (max (-(f - k)) 0 = (F' : Int)))
    (q r : Nat) (hq : Hid (a * 5 ^ F * 2 ^ T / (5 ^ F' * 2 ^ T') = q)) (hr : Hid (a * 5 ^ F * 2 ^ T % (5 ^ F' * 2 ^ T') = r)) (z : Int) (hz : Hid (M.part r (5 ^ F' * 2 ^ T') = z)) :
    Calls Tryz.prog 23 #[xv neg v t f, .int .i64 k] w (Flr (2 * s + F + T + 11) q z w) := by
  obtain ⟨D, hD⟩ : ∃ D, t - k = D := ⟨_, rfl⟩
  obtain ⟨E, hE⟩ : ∃ E, f - k = E := ⟨_, rfl⟩
  rw [hD] at hT hT'
  rw [hE] at hF hF'
  have bT := hT.out
  have bF := hF.out
  have bT' := hT'.out
  have bF' := hF'.out
  have B : T ≤ 20000 ∧ F ≤ 20000 ∧ T' ≤ 20000 ∧ F' ≤ 20000 := by omega
  have bDE : -10000 ≤ D ∧ D ≤ 10000 ∧ -10000 ≤ E ∧ E ≤ 10000 := by omega
  have w1 : IntKind.i64.wrap (t - k) = D := by rw [hD]; simp [IntKind.wrap, IntKind.bits, IntKind.signed]; omega
  have w2 : IntKind.i64.wrap (f - k) = E := by rw [hE]; simp [IntKind.wrap, IntKind.bits, IntKind.signed]; omega
  have PA := Lib.hid (fun w' (hu : Up w w') => parts_any w' lo s neg v D E a (h.up hu) hs T F T' F' hT hF hT' hF' B.1 B.2.1 B.2.2.1 B.2.2.2)
  have hpos : 0 < 5 ^ F' * 2 ^ T' := Nat.mul_pos (Nat.pow_pos (by omega)) (Nat.pow_pos (by omega))
  obtain ⟨Q, hQ⟩ : ∃ Q, 5 ^ F' * 2 ^ T' = Q := ⟨_, rfl⟩
  rw [hQ] at hq hr hz hpos PA
  clear hQ bT bF bT' bF' hT hF hT' hF' h bt bf bk
  go_enter Tryz.func23, Tryz.ntmps23
  go_wp2_with fail
  refine (PA.out _ ?_).mono ?_
  · first
      | exact (((Up.refl w).alloc _).setCell (Nat.le_refl _) _).setCell (Nat.le_refl _) _
      | exact (Up.refl w).alloc _
  rintro _ w1' ⟨p, q', rfl, np, nq, u1⟩
  have U : Up w w1' := Up.trans (by first | exact (((Up.refl w).alloc _).setCell (Nat.le_refl _) _).setCell (Nat.le_refl _) _ | exact (Up.refl w).alloc _) u1
  clear u1 PA
  go_wp2_with fail
  refine (over_of w1' _ _ _ _ _ _ _ _ np nq hpos (by omega) (by omega)).mono ?_
  rintro _ w2' ⟨vn, vr, rfl, nn, nr, u2⟩
  rw [hq.out] at nn
  rw [hr.out] at nr
  replace nq := nq.up u2
  replace U := U.trans u2
  clear u2 np
  obtain ⟨Ar, sr, cr, wr', rfl, nr⟩ := nr
  replace nr : Nh w2' _ _ (.slice Ar sr cr) r := ⟨Ar, sr, cr, wr', rfl, nr⟩
  have hr0 := nhl0 nr
  rcases Nat.eq_zero_or_pos sr with h0 | h0
  · have hz0 : z = 0 := by rw [← hz.out, M.part, if_pos (hr0.1 h0)]
    subst h0 hz0
    clear hr0 nq nr
    go_wp2_with fail
    refine (words_of w2' _ _ _ _ nn (by omega)).mono ?_
    rintro _ w3 ⟨vq, rfl, n3, u3⟩
    have sz := Up.size U
    go_wp2_with fail
    go_ret2
    exact ⟨_, rfl, (n3.lower sz).more (by omega), U.trans u3⟩
  · have hne : r ≠ 0 := fun e => by have := hr0.2 e; omega
    obtain ⟨y, hy⟩ : ∃ y, M.cmp (r + r) Q = y := ⟨_, rfl⟩
    have hyr := M.cmp_rng (r + r) Q
    rw [hy] at hyr
    have hzy : z = 2 + y := by rw [← hz.out, M.part, if_neg hne, ← hy, Nat.mul_two]
    have HY := Lib.hid hy
    have HZY := Lib.hid hzy
    clear hy hzy hne hr0
    go_wp2_with fail
    refine (plus_of w2' _ _ _ _ (F' + T' + 10) _ _ _ _ nr nr (by omega) (by omega) (by omega)).mono ?_
    rintro _ w3 ⟨vp, rfl, n3, u3⟩
    replace nq := nq.up u3
    replace nn := nn.up u3
    replace U := U.trans u3
    clear u3
    go_wp2_with fail
    refine (rcmp_of w3 _ _ _ _ _ _ _ _ n3 nq y HY).mono ?_
    rintro _ _ ⟨rfl, rfl⟩
    go_wp2_with fail
    refine (words_of w3 _ _ _ _ nn (by omega)).mono ?_
    rintro _ w4 ⟨vq, rfl, n4, u4⟩
    have sz := Up.size U
    go_wp2_with fail
    go_ret2
    exact ⟨_, by rw [HZY.out]; rfl, (n4.lower sz).more (by omega), U.trans u4⟩

/-- The literal 1, in a block of its own. -/
def L1 (w : World) (b : Nat) : Prop := w.cell? ⟨b, 0, none⟩ = some (u64 1) ∧ w.frozen? ⟨b, 0, none⟩ = false
theorem L1.up {w w' : World} {b : Nat} (h : L1 w b) (hu : Up w w') : L1 w' b := ⟨cell_up hu h.1, frozen_up hu h.1 h.2⟩
theorem L1.mk_ (w : World) : L1 (w.alloc (.cells #[.int .u64 1] 22)) w.heap.size := by
  unfold L1
  constructor <;> simp
theorem L1.at_ (o : Obj) (w : World) : L1 ((w.alloc o).alloc (.cells #[.int .u64 1] 22)) (w.heap.size + 1) := by
  have := L1.mk_ (w.alloc o)
  rwa [show (w.alloc o).heap.size = w.heap.size + 1 from Array.size_push _] at this
theorem L1.set {w : World} {b : Nat} (h : L1 w b) {p : Addr} (hp : p.block ≠ b) (x : Value) : L1 (w.setCell p x) b := by
  refine ⟨?_, by rw [World.frozen?_setCell]; exact h.2⟩
  rw [World.cell?_setCell_other _ _ _ _ (fun e => hp (by rw [e]))]
  exact h.1
theorem L1.nt {w : World} {b : Nat} (h : L1 w b) : Nt w b 1 (.slice (some ⟨b, 0, none⟩) 1 1) 1 :=
  ⟨_, 1, 1, [1], rfl, ⟨rfl, by omega, by omega, M.Wds.cons (by omega) M.Wds.nil, fun _ => ⟨b, 0, rfl, Nat.le_refl _, fun j hj => by
    have : j = 0 := by omega
    subst this
    exact h⟩⟩, by simp [M.val], by omega, by simp [M.Nrm]⟩
theorem Bx.set2 {w : World} {b : Nat} {neg : Bool} {v : Value} {t f t' : Int} (h : Bx w b neg v t f) : Bx (w.setCell ⟨b, 2, none⟩ (.int .i64 t')) b neg v t' f := by
  obtain ⟨⟨a0, a1, a2, a3⟩, b0, b1, b2, b3⟩ := h
  refine ⟨⟨?_, ?_, World.cell?_setCell_same _ _ _ a2, ?_⟩, ?_, ?_, ?_, ?_⟩
  · rw [World.cell?_setCell_other _ _ _ _ (by simp)]; exact a0
  · rw [World.cell?_setCell_other _ _ _ _ (by simp)]; exact a1
  · rw [World.cell?_setCell_other _ _ _ _ (by simp)]; exact a3
  all_goals rw [World.frozen?_setCell]; assumption
theorem Bx.set3 {w : World} {b : Nat} {neg : Bool} {v : Value} {t f f' : Int} (h : Bx w b neg v t f) : Bx (w.setCell ⟨b, 3, none⟩ (.int .i64 f')) b neg v t f' := by
  obtain ⟨⟨a0, a1, a2, a3⟩, b0, b1, b2, b3⟩ := h
  refine ⟨⟨?_, ?_, ?_, World.cell?_setCell_same _ _ _ a3⟩, ?_, ?_, ?_, ?_⟩
  · rw [World.cell?_setCell_other _ _ _ _ (by simp)]; exact a0
  · rw [World.cell?_setCell_other _ _ _ _ (by simp)]; exact a1
  · rw [World.cell?_setCell_other _ _ _ _ (by simp)]; exact a2
  all_goals rw [World.frozen?_setCell]; assumption
theorem Bx.setx {w : World} {b b' : Nat} {neg : Bool} {v : Value} {t f : Int} (h : Bx w b neg v t f) (hne : b ≠ b') (i : Nat) (x : Value) : Bx (w.setCell ⟨b', i, none⟩ x) b neg v t f := h.grown (only_setCell (World.grownBy.refl w _) i x) hne

set_option maxHeartbeats 8000000 in
set_option maxRecDepth 100000 in
theorem rlog_any (w : World) (lo s : Nat) (neg : Bool) (A : Option Addr) (n c : Nat) (t f : Int) (a : Nat) (h : Nt w lo s (.slice A n c) a) (hs : s ≤ 100000) (hn : 0 < n) (bt : -3100 ≤ t ∧ t ≤ 3100) (bf : -3100 ≤ f ∧ f ≤ 3100)
    (K : Int) (bK : -4000 ≤ K ∧ K ≤ 4000) (HK : Hid (∀ k : Int, -4000 ≤ k → k ≤ 4001 → (M.ov a t f (-5000) < M.ov 1 k k (-5000) ↔ K < k))) :
    Calls Tryz.prog 22 #[xv neg (.slice A n c) t f] w (Num K w) := by
  have CC := Lib.hid (fun w' (hu : Up w w') (b : Nat) (hl : L1 w' b) (k : Int) (k1 : -4000 ≤ k) (k2 : k ≤ 4001) (z : Int) (hz : Hid (M.cmp (M.ov a t f (-5000)) (M.ov 1 k k (-5000)) = z)) =>
    rxcmp_any (-5000) w' _ _ _ _ neg false _ _ t f k k a 1 (h.nw.up hu) hl.nt.nw hs (by omega) ⟨by omega, by omega, by omega⟩ ⟨by omega, by omega, by omega⟩ ⟨by omega, by omega, by omega⟩ ⟨by omega, by omega, by omega⟩ z hz)
  have hn0 : ((n : Int) == 0) = false := by rw [beq_eq_false_iff_ne]; omega
  clear h bt bf
  go_enter Tryz.func22, Tryz.ntmps22
  go_wp2_with fail
  obtain ⟨V, hV⟩ : ∃ V, ((w.alloc (.cells #[.bool neg, .slice A n c, .int .i64 t, .int .i64 f] 40)).alloc (.cells #[.int .u64 1] 22)).alloc (.cells #[.bool false, .slice (some ⟨w.heap.size + 1, 0, none⟩) 1 1, .int .i64 0, .int .i64 0] 40) = V := ⟨_, rfl⟩
  have U0 : Up w V := by rw [← hV]; exact (((Up.refl w).alloc _).alloc _).alloc _
  have x0 : Bx V w.heap.size neg (.slice A n c) t f := by rw [← hV]; exact ((Bx.mk_ w neg (.slice A n c) t f).up ((Up.refl _).alloc _)).up ((Up.refl _).alloc _)
  have l0 : L1 V (w.heap.size + 1) := by rw [← hV]; exact (L1.at_ _ w).up ((Up.refl _).alloc _)
  have y0 : Bx V (w.heap.size + 1 + 1) false (.slice (some ⟨w.heap.size + 1, 0, none⟩) 1 1) 0 0 := by
    rw [← hV]
    have := Bx.mk_ ((w.alloc (.cells #[.bool neg, .slice A n c, .int .i64 t, .int .i64 f] 40)).alloc (.cells #[.int .u64 1] 22)) false (.slice (some ⟨w.heap.size + 1, 0, none⟩) 1 1) 0 0
    rwa [show ((w.alloc (.cells #[.bool neg, .slice A n c, .int .i64 t, .int .i64 f] 40)).alloc (.cells #[.int .u64 1] 22)).heap.size = w.heap.size + 1 + 1 by simp] at this
  rw [hV]
  clear hV
  go_loopw [3] (fun kv wr => ∃ k : Int, k ≤ 0 ∧ -4000 ≤ k ∧ (K ≤ k ∨ k = 0) ∧ kv = .int .i64 k ∧ Up w wr ∧ Bx wr w.heap.size neg (.slice A n c) t f ∧ L1 wr (w.heap.size + 1) ∧ Bx wr (w.heap.size + 1 + 1) false (.slice (some ⟨w.heap.size + 1, 0, none⟩) 1 1) k k) (fun kv _ => (intOf kv + 5000).toNat)
  case atStart => exact ⟨0, by omega, by omega, .inr rfl, rfl, U0, x0, l0, y0⟩
  case round =>
    obtain ⟨k, hk0, hk1, hk2, rfl, U, x, l, y⟩ := hrel
    clear U0 x0 l0 y0
    obtain ⟨z, hz⟩ : ∃ z, M.cmp (M.ov a t f (-5000)) (M.ov 1 k k (-5000)) = z := ⟨_, rfl⟩
    have HZ := Lib.hid hz
    have hKk := HK.out k (by omega) (by omega)
    obtain ⟨⟨x0, x1, x2, x3⟩, _⟩ := id x
    obtain ⟨⟨y0, y1, y2, y3⟩, g0, g1, g2, g3⟩ := id y
    by_cases hlt : K < k
    · have dz : decide (z < 0) = true := by rw [← hz, M.cmp_lt (hKk.2 hlt)]; rfl
      clear hz hKk
      go_wp2_with fail
      refine (CC.out _ U _ l k (by omega) (by omega) z HZ).mono ?_
      rintro _ w2 ⟨rfl, u2⟩
      replace U := U.trans u2
      replace x := x.up u2
      replace y := y.up u2
      replace l := l.up u2
      clear u2 x0 x1 x2 x3 y0 y1 y2 y3 g0 g1 g2 g3
      obtain ⟨⟨y0, y1, y2, y3⟩, g0, g1, g2, g3⟩ := id y
      go_wp2_with fail
      clear y0 y1 y2 y3 g0 g1 g2 g3
      go_roundw
      case rel =>
        exact ⟨k - 1, by omega, by omega, .inl (by omega), rfl, (U.setCell (by show w.heap.size ≤ w.heap.size + 1 + 1; omega) _).setCell (by show w.heap.size ≤ w.heap.size + 1 + 1; omega) _,
          (x.setx (by omega) _ _).setx (by omega) _ _, (l.set (by show w.heap.size + 1 + 1 ≠ _; omega) _).set (by show w.heap.size + 1 + 1 ≠ _; omega) _, y.set2.set3⟩
      case measure => simp [intOf]; omega
    · have dz : decide (z < 0) = false := by
        have h1 := M.cmp_le (a := M.ov 1 k k (-5000)) (b := M.ov a t f (-5000))
        have h2 := M.cmp_swap (M.ov a t f (-5000)) (M.ov 1 k k (-5000))
        have h3 : M.ov 1 k k (-5000) ≤ M.ov a t f (-5000) := Nat.not_lt.1 (fun h => hlt (hKk.1 h))
        have := h1.2 h3
        exact decide_eq_false (by omega)
      have hkK : k ≤ K := by omega
      clear hz hKk
      go_wp2_with fail
      refine (CC.out _ U _ l k (by omega) (by omega) z HZ).mono ?_
      rintro _ w2 ⟨rfl, u2⟩
      replace U := U.trans u2
      replace x := x.up u2
      clear u2 x0 x1 x2 x3 y0 y1 y2 y3 g0 g1 g2 g3 y l
      go_wp2_with fail
      obtain ⟨V2, hV2⟩ : ∃ V, (w2.alloc (.cells #[.int .u64 1] 22)).alloc (.cells #[.bool false, .slice (some ⟨w2.heap.size, 0, none⟩) 1 1, .int .i64 (k + 1), .int .i64 (k + 1)] 40) = V := ⟨_, rfl⟩
      have u2 : Up w2 V2 := by rw [← hV2]; exact ((Up.refl _).alloc _).alloc _
      have l1 : L1 V2 w2.heap.size := by rw [← hV2]; exact (L1.mk_ w2).up ((Up.refl _).alloc _)
      have n0 : Bx V2 (w2.heap.size + 1) false (.slice (some ⟨w2.heap.size, 0, none⟩) 1 1) (k + 1) (k + 1) := by rw [← hV2]; exact bx_at _ w2 _ _ _ _
      have sz := Up.size U
      have bx2 := World.block_lt_of_cell? _ _ x.1.1
      simp only at bx2
      rw [hV2]
      clear hV2
      replace U := U.trans u2
      replace x := x.up u2
      clear u2
      go_loopw [3] (fun kv wr => ∃ j : Int, k ≤ j ∧ j ≤ K ∧ kv = .int .i64 j ∧ Up w wr ∧ Bx wr w.heap.size neg (.slice A n c) t f ∧ L1 wr w2.heap.size ∧ Bx wr (w2.heap.size + 1) false (.slice (some ⟨w2.heap.size, 0, none⟩) 1 1) (j + 1) (j + 1)) (fun kv _ => (5000 - intOf kv).toNat)
      case atStart => exact ⟨k, by omega, hkK, rfl, U, x, l1, n0⟩
      case round =>
        obtain ⟨j, hj0, hj1, rfl, U3, x3, l3, y3⟩ := hrel
        clear U x l1 n0 HZ dz
        obtain ⟨z2, hz2⟩ : ∃ z, M.cmp (M.ov a t f (-5000)) (M.ov 1 (j + 1) (j + 1) (-5000)) = z := ⟨_, rfl⟩
        have HZ2 := Lib.hid hz2
        have hKj := HK.out (j + 1) (by omega) (by omega)
        obtain ⟨⟨x0, x1, x2, x3'⟩, _⟩ := id x3
        obtain ⟨⟨y0, y1, y2, y3'⟩, g0, g1, g2, g3⟩ := id y3
        by_cases hlt2 : K < j + 1
        · have dz : decide (0 ≤ z2) = false := by rw [← hz2, M.cmp_lt (hKj.2 hlt2)]; rfl
          have hjK : j = K := by omega
          subst hjK
          clear hz2 hKj
          go_wp2_with fail
          refine (CC.out _ U3 _ l3 (j + 1) (by omega) (by omega) z2 HZ2).mono ?_
          rintro _ w5 ⟨rfl, u5⟩
          go_wp2_with fail
          go_ret
          exact ⟨rfl, U3.trans u5⟩
        · have dz : decide (0 ≤ z2) = true := by
            have h1 := M.cmp_le (a := M.ov 1 (j + 1) (j + 1) (-5000)) (b := M.ov a t f (-5000))
            have h2 := M.cmp_swap (M.ov a t f (-5000)) (M.ov 1 (j + 1) (j + 1) (-5000))
            have h3 : M.ov 1 (j + 1) (j + 1) (-5000) ≤ M.ov a t f (-5000) := Nat.not_lt.1 (fun h => hlt2 (hKj.1 h))
            have := h1.2 h3
            exact decide_eq_true (by omega)
          clear hz2 hKj
          go_wp2_with fail
          refine (CC.out _ U3 _ l3 (j + 1) (by omega) (by omega) z2 HZ2).mono ?_
          rintro _ w5 ⟨rfl, u5⟩
          replace U3 := U3.trans u5
          replace x3 := x3.up u5
          replace y3 := y3.up u5
          replace l3 := l3.up u5
          clear u5 x0 x1 x2 x3' y0 y1 y2 y3' g0 g1 g2 g3
          obtain ⟨⟨y0, y1, y2, y3'⟩, g0, g1, g2, g3⟩ := id y3
          go_wp2_with fail
          clear y0 y1 y2 y3' g0 g1 g2 g3
          go_roundw
          case rel =>
            exact ⟨j + 1, by omega, by omega, by go_num, (U3.setCell (by show w.heap.size ≤ w2.heap.size + 1; omega) _).setCell (by show w.heap.size ≤ w2.heap.size + 1; omega) _,
              (x3.setx (by omega) _ _).setx (by omega) _ _, (l3.set (by show w2.heap.size + 1 ≠ _; omega) _).set (by show w2.heap.size + 1 ≠ _; omega) _, y3.set2.set3⟩
          case measure => simp [intOf]; omega
end Go.Proofs.YtgpachgnacndoaaGreatDoor
