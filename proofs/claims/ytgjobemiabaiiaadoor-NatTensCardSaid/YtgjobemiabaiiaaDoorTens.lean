/-
  The walk of NatTens: true, and nothing that was there has turned.
-/
import Derived.Test.YtgjobemiabaiiaaDoorRing
import Derived.Deep.RegionWith
namespace Go.Proofs.YtgjobemiabaiiaaDoor
open Go.RowKit Go.Shelf

theorem wf_u8 {x : Int} (h : (Lit.int .u8 x).wf = true) : ∃ n : Nat, x = (n : Int) ∧ n < 256 := by
  have h6 : (0 : Int) ≤ x ∧ x ≤ 255 := by simpa [Lit.wf, IntKind.min, IntKind.max, IntKind.signed, IntKind.bits] using h
  exact ⟨x.toNat, by omega, by omega⟩
theorem nDigits_le : ∀ (k u : Nat), u < 10 ^ (k + 1) → Lib.nDigits u ≤ k + 1
  | 0, u, h => by rw [Lib.nDigits_small (by simpa using h)]; exact Nat.le_refl _
  | k + 1, u, h => by
    by_cases h10 : u < 10
    · rw [Lib.nDigits_small h10]; omega
    · rw [Lib.nDigits_big h10]
      have := nDigits_le k (u / 10) (by rw [Nat.pow_succ] at h; omega)
      omega
theorem digits_size (w : World) (lo : Nat) (v : Value) (a : Nat) (h : Nw w lo 30 v a) : (Lib.decDigits a).length ≤ 600 := by
  have h1 := h.lt
  have h2 : (18446744073709551616 : Nat) ^ 30 ≤ (10 ^ 20) ^ 30 := Nat.pow_le_pow_left (by omega) _
  rw [← Nat.pow_mul, show 20 * 30 = 599 + 1 from rfl] at h2
  rw [Lib.decDigits_length]
  exact nDigits_le 599 a (Nat.lt_of_lt_of_le h1 h2)
theorem ba_append (x y : List UInt8) : (⟨(x ++ y).toArray⟩ : ByteArray) = (⟨x.toArray⟩ : ByteArray) ++ (⟨y.toArray⟩ : ByteArray) := by
  apply ByteArray.ext
  rw [ByteArray.data_append]
  simp
/-- Div by ten, of what a digit was put behind. -/
theorem div_ten (w : World) (lo lo' s s' : Nat) (v v' : Value) (a n D : Nat) (h : Nw w lo s v a) (h' : Nw w lo' s' v' 10) (hs : s ≤ 1000000000) (hD : D < 10) (e : a = n * 10 + D) :
    Calls Tryd.prog 38 #[v, v'] w (Div3 (s + 1) n D true w) := by
  have := div_of w lo lo' s s' v v' a 10 h h' (by omega) hs (.inl (by omega))
  rwa [e, show (n * 10 + D) / 10 = n from by omega, show (n * 10 + D) % 10 = D from by omega] at this
/-- Bits, where it is known what it tells. -/
theorem bits_at1 (w : World) (lo s : Nat) (v : Value) (a : Nat) (z : Int) (h : Nw w lo s v a) (e : Hid (M.bits a = z)) : Calls Tryd.prog 21 #[v] w (Same (.int .i64 z) w) := by
  have := bits_any w lo s v a h
  rwa [e.out] at this
theorem cell?_lit1 (w : World) (v : Value) (t : TypeId) : (w.alloc (.cells #[v] t)).cell? ((⟨w.heap.size, 0, none⟩ : Addr).add 0) = some v := by
  show (match (w.heap.push (.cells #[v] t))[w.heap.size]? with | some (.cells c _ _) => c[0 + 0]? | _ => none) = _
  simp
/-- One digit, as a text. -/
theorem digit_up (w w' : World) (D : Nat) (hD : D < 10) (S : ByteArray) (hS : (⟨#[UInt8.ofNat (48 + D)]⟩ : ByteArray) = S) (Z : Int) (hZ : Z = 48 + (D : Int)) (hu : Up (w.alloc (.cells #[.int .u8 Z] 5)) w') :
    (convert 58 9 (.slice (some ⟨w.heap.size, 0, none⟩) 1 1)).run Tryd.prog w' = .ok (.string S) w' := by
  subst hZ hS
  have hz : (48 : Int) + (D : Int) = ((UInt8.ofNat (48 + D)).toNat : Int) := by
    rw [show (UInt8.ofNat (48 + D)).toNat = (48 + D) % 256 from rfl]; omega
  rw [hz] at hu
  have h1 := cell?_lit1 w (.int .u8 ((UInt8.ofNat (48 + D)).toNat : Int)) 5
  have h2 := Below.cell hu (World.block_lt_of_cell? _ _ h1)
  rw [h1] at h2
  exact run_convert_bytes_back _ 58 9 5 ⟨w.heap.size, 0, none⟩ 1 [UInt8.ofNat (48 + D)] Tryd.underlying58 Tryd.underlying5 Tryd.underlying9 (fun j hj => by
    have : j = 0 := by simpa using hj
    subst this
    exact h2)
theorem digit_conv (w : World) (D : Nat) (hD : D < 10) (S : ByteArray) (hS : (⟨#[UInt8.ofNat (48 + D)]⟩ : ByteArray) = S) (Z : Int) (hZ : Z = 48 + (D : Int)) :
    (convert 58 9 (.slice (some ⟨w.heap.size, 0, none⟩) 1 1)).run Tryd.prog (w.alloc (.cells #[.int .u8 Z] 5)) = .ok (.string S) (w.alloc (.cells #[.int .u8 Z] 5)) :=
  digit_up w _ D hD S hS Z hZ (Up.refl _)

set_option maxHeartbeats 8000000 in
set_option maxRecDepth 100000 in
theorem tens_walk (w : World) (hTW : TabW w) (hEW : ErrW w) (A0 : Option Addr) (n0 c0 : Nat) (x0 : List Nat) (h0 : Src w A0 n0 c0 x0) (x : Int) (wx : (Lit.int .u8 x).wf = true) :
    Calls Tryd.prog 11 #[.slice A0 n0 c0, .int .u8 x] w (True_ w) := by
  have U := Up.refl w
  obtain ⟨X, rfl, hX⟩ := wf_u8 wx
  clear wx
  obtain ⟨D, hD, hD10⟩ : ∃ D, X % 10 = D ∧ D < 10 := ⟨_, rfl, by omega⟩
  have hDi : (X : Int) % 10 = (D : Int) := by omega
  have hDt : (X : Int).tmod 10 = (D : Int) := by rw [Int.tmod_eq_emod_of_nonneg (by omega)]; exact hDi
  go_enter Tryd.func11, Tryd.ntmps11
  go_wp2_with fail
  refine (shown_any _ hTW hEW).mono ?_
  rintro _ w1 ⟨rfl, hu1⟩
  replace h0 := h0.up hu1
  replace U := U.trans hu1
  clear hu1
  go_wp2_with fail
  refine (few_lit _ _ _ _ _ h0 30 _ rfl (by omega)).mono ?_
  rintro _ w2 ⟨va, na, rfl, a, hu2⟩
  replace U := U.trans hu2
  clear hu2
  clear h0
  go_wp2_with fail
  replace U := U.trans ((Up.refl w2).alloc (.cells #[.int .u64 10] 24))
  replace a := a.up ((Up.refl w2).alloc (.cells #[.int .u64 10] 24))
  refine (mul_any _ _ _ _ _ _ _ _ _ a (lit1 _ 10 _ rfl (by omega)) (by omega) (by omega)).mono ?_
  rintro _ w3 ⟨vp, rfl, p, hu3⟩
  replace a := a.up hu3
  replace U := U.trans hu3
  clear hu3
  go_wp2_with fail
  refine (of_lit _ D _ rfl (by omega)).mono ?_
  rintro _ w4 ⟨vd, rfl, d, hu4⟩
  replace a := a.up hu4
  replace p := p.up hu4
  replace U := U.trans hu4
  clear hu4
  go_wp2_with fail
  refine (add_of _ _ _ _ _ 40 _ _ _ _ p.nw d.nw (by omega) (by omega) (by omega)).mono ?_
  rintro _ w5 ⟨vm, rfl, m, hu5⟩
  replace a := a.up hu5
  replace U := U.trans hu5
  clear hu5
  go_wp2_with fail
  obtain ⟨S1, hS1⟩ : ∃ S, (⟨(Lib.decDigits na).toArray⟩ : ByteArray) = S := ⟨_, rfl⟩
  have HS1 := Lib.hid hS1
  obtain ⟨S2, hS2⟩ : ∃ S, (⟨#[UInt8.ofNat (48 + D)]⟩ : ByteArray) = S := ⟨_, rfl⟩
  have HS2 := Lib.hid hS2
  have hw8 : IntKind.u8.wrap (48 + (D : Int)) = 48 + (D : Int) := by
    show (48 + (D : Int)) % 256 = _
    omega
  have hTW5 := hTW.up U
  clear hS1 hS2
  have hc6 : (convert 58 9 (.slice (some ⟨w5.heap.size, 0, none⟩) 1 1)).run Tryd.prog (w5.alloc (.cells #[.int .u8 (48 + (D : Int))] 5)).drew = .ok (.string S2) (w5.alloc (.cells #[.int .u8 (48 + (D : Int))] 5)).drew := digit_up w5 _ D hD10 S2 HS2.out _ rfl ((Up.refl _).drewN 1)
  have hz1 : S1.size ≤ 600 := by rw [← HS1.out]; exact digits_size _ _ _ _ a
  have hz2 : S2.size = 1 := by rw [← HS2.out]; rfl
  have hz3 : ¬ ((9223372036854775807 : Int) < (S1.size : Int) + (S2.size : Int)) := by omega
  obtain ⟨T, hT⟩ : ∃ T, S1 ++ S2 = T := ⟨_, rfl⟩
  have HT := Lib.hid hT
  clear hT
  go_cut [7] (fun t wx => t = .string T ∧ Up w5 wx)
  case first =>
    have U1 : Up w5 w5.drew := (Up.refl w5).drewN 1
    have U2 : Up w5 (w5.alloc (.cells #[.int .u8 (48 + (D : Int))] 5)).drew := ((Up.refl w5).alloc (.cells #[.int .u8 (48 + (D : Int))] 5)).drewN 1
    go_region_with (first
      | (go_at_call 28; refine (text_of _ _ _ _ _ (a.up U1) (by omega) (hTW5.up U1) S1 HS1.out).mono ?_; rintro _ w6 ⟨rfl, hu6⟩; have hc7 := digit_conv w6 D hD10 S2 HS2.out _ rfl; replace hu6 := U1.trans hu6)
      | (go_at_call 28; refine (text_of _ _ _ _ _ (a.up U2) (by omega) (hTW5.up U2) S1 HS1.out).mono ?_; rintro _ w6 ⟨rfl, hu6⟩; have hc7 : (convert 58 9 (.slice (some ⟨w5.heap.size, 0, none⟩) 1 1)).run Tryd.prog w6 = .ok (.string S2) w6 := digit_up w5 w6 D hD10 S2 HS2.out _ rfl (((Up.refl (w5.alloc (.cells #[.int .u8 (48 + (D : Int))] 5))).drewN 1).trans hu6); replace hu6 := U2.trans hu6))
    all_goals (go_wp2_with fail; go_meet; exact ⟨congrArg Value.string HT.out, by first | exact hu6 | exact hu6.alloc _⟩)
  case rest =>
    obtain ⟨rfl, hu7⟩ := hcut
    have hw8' := hw8
    replace a := a.up hu7
    replace m := m.up hu7
    replace U := U.trans hu7
    clear hu7 hc6 hTW5 d p hz1 hz2 hz3 hDi hDt hD hX
    rcases Nat.eq_zero_or_pos na with h0 | h0
    · have hbits : Hid (((M.bits na : Nat) : Int) = 0) := by rw [h0]; rfl
      have hmore : (⟨(Lib.decDigits (na * 10 + D)).toArray⟩ : ByteArray) = S2 := by
        rw [← HS2.out, h0, Nat.zero_mul, Nat.zero_add, Lib.decDigits_one hD10]
      clear h0
      go_wp2_with fail
      refine (bits_at1 _ _ _ _ _ _ a hbits).mono ?_
      rintro _ _ ⟨rfl, rfl⟩
      have hc8 := digit_conv wc D hD10 S2 HS2.out _ rfl
      replace a := a.up ((Up.refl wc).alloc (.cells #[.int .u8 (48 + (D : Int))] 5))
      replace m := m.up ((Up.refl wc).alloc (.cells #[.int .u8 (48 + (D : Int))] 5))
      replace U := U.trans ((Up.refl wc).alloc (.cells #[.int .u8 (48 + (D : Int))] 5))
      have hm' := Lib.hid hmore
      clear hmore
      go_wp2_with fail
      replace a := a.up ((Up.refl (wc.alloc (.cells #[.int .u8 (48 + (D : Int))] 5))).alloc (.cells #[.int .u64 10] 24))
      replace m := m.up ((Up.refl (wc.alloc (.cells #[.int .u8 (48 + (D : Int))] 5))).alloc (.cells #[.int .u64 10] 24))
      replace U := U.trans ((Up.refl (wc.alloc (.cells #[.int .u8 (48 + (D : Int))] 5))).alloc (.cells #[.int .u64 10] 24))
      have hL := lit1 (wc.alloc (.cells #[.int .u8 (48 + (D : Int))] 5)) 10 10 rfl (by omega)
      have hsz : (wc.alloc (.cells #[.int .u8 (48 + (D : Int))] 5)).heap.size = wc.heap.size + 1 := Array.size_push _
      rw [hsz] at hL
      clear hsz
      refine (div_ten _ _ _ _ _ _ _ _ _ _ m.nw hL (by omega) hD10 rfl).mono ?_
      rintro _ w8 ⟨vq, vr, rfl, q, r, hu8⟩
      replace a := a.up hu8
      replace m := m.up hu8
      replace U := U.trans hu8
      clear hu8
      go_wp2_with fail
      refine (text_of _ _ _ _ _ m.nw (by omega) (hTW.up U) S2 hm'.out).mono ?_
      rintro _ w9 ⟨rfl, hu9⟩
      replace a := a.up hu9
      replace q := q.up hu9
      replace r := r.up hu9
      replace U := U.trans hu9
      clear hu9
      go_wp2_with fail
      refine (cmp_same _ _ _ _ _ _ _ _ _ q.nw a rfl).mono ?_
      rintro _ w10 ⟨rfl, kk, hk⟩
      have hu10 : Up w9 w10 := by rw [hk]; exact (Up.refl _).drewN _
      clear hk
      replace r := r.up hu10
      replace U := U.trans hu10
      clear hu10
      go_wp2_with fail
      refine (of_lit _ D _ rfl (by omega)).mono ?_
      rintro _ w11 ⟨vd2, rfl, d2, hu11⟩
      replace r := r.up hu11
      replace U := U.trans hu11
      clear hu11
      go_wp2_with fail
      refine (cmp_same _ _ _ _ _ _ _ _ _ r.nw d2.nw rfl).mono ?_
      rintro _ w12 ⟨rfl, kk, hk⟩
      have hu12 : Up w11 w12 := by rw [hk]; exact (Up.refl _).drewN _
      clear hk
      replace U := U.trans hu12
      clear hu12
      go_wp2_with fail
      go_ret
      exact ⟨rfl, U⟩
    · obtain ⟨y, hy, hy1⟩ : ∃ y : Int, M.bits na = y ∧ 0 < y := ⟨_, rfl, by have := M.bits_pos (a := na) (by omega); omega⟩
      have hbits := Lib.hid hy
      have hmore : (⟨(Lib.decDigits (na * 10 + D)).toArray⟩ : ByteArray) = T := by
        rw [← HT.out, ← HS1.out, ← HS2.out, Lib.decDigits, dif_neg (by omega), show (na * 10 + D) / 10 = na from by omega, show (na * 10 + D) % 10 = D from by omega]
        exact ba_append _ _
      have hm' := Lib.hid hmore
      clear h0 hy hmore
      go_wp2_with fail
      refine (bits_at1 _ _ _ _ _ _ a hbits).mono ?_
      rintro _ _ ⟨rfl, rfl⟩
      go_wp2_with fail
      replace a := a.up ((Up.refl wc).alloc (.cells #[.int .u64 10] 24))
      replace m := m.up ((Up.refl wc).alloc (.cells #[.int .u64 10] 24))
      replace U := U.trans ((Up.refl wc).alloc (.cells #[.int .u64 10] 24))
      refine (div_ten _ _ _ _ _ _ _ _ _ _ m.nw (lit1 _ 10 _ rfl (by omega)) (by omega) hD10 rfl).mono ?_
      rintro _ w8 ⟨vq, vr, rfl, q, r, hu8⟩
      replace a := a.up hu8
      replace m := m.up hu8
      replace U := U.trans hu8
      clear hu8
      go_wp2_with fail
      refine (text_of _ _ _ _ _ m.nw (by omega) (hTW.up U) T hm'.out).mono ?_
      rintro _ w9 ⟨rfl, hu9⟩
      replace a := a.up hu9
      replace q := q.up hu9
      replace r := r.up hu9
      replace U := U.trans hu9
      clear hu9
      go_wp2_with fail
      refine (cmp_same _ _ _ _ _ _ _ _ _ q.nw a rfl).mono ?_
      rintro _ w10 ⟨rfl, kk, hk⟩
      have hu10 : Up w9 w10 := by rw [hk]; exact (Up.refl _).drewN _
      clear hk
      replace r := r.up hu10
      replace U := U.trans hu10
      clear hu10
      go_wp2_with fail
      refine (of_lit _ D _ rfl (by omega)).mono ?_
      rintro _ w11 ⟨vd2, rfl, d2, hu11⟩
      replace r := r.up hu11
      replace U := U.trans hu11
      clear hu11
      go_wp2_with fail
      refine (cmp_same _ _ _ _ _ _ _ _ _ r.nw d2.nw rfl).mono ?_
      rintro _ w12 ⟨rfl, kk, hk⟩
      have hu12 : Up w11 w12 := by rw [hk]; exact (Up.refl _).drewN _
      clear hk
      replace U := U.trans hu12
      clear hu12
      go_wp2_with fail
      go_ret
      exact ⟨rfl, U⟩
end Go.Proofs.YtgjobemiabaiiaaDoor
