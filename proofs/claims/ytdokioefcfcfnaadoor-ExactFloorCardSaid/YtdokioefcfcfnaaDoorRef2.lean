/-
  The reference's Up, Down, Bits, Bit: their contracts.
-/
import Derived.Test.YtdokioefcfcfnaaDoorRef2M
import Derived.Deep.QuietTactic
namespace Go.Proofs.YtdokioefcfcfnaaDoor
open Go.RowKit Go.Shelf

theorem M.getD_drop' (zs : List Nat) (i j : Nat) : (zs.drop i).getD j 0 = zs.getD (i + j) 0 := by
  simp [List.getD_eq_getElem?_getD, List.getElem?_drop]
theorem lit1_ow (w : World) (x : Nat) (X : Int) (hX : X = (x : Int)) : Ow (w.alloc (.cells #[.int .u64 X] 24)) w.heap.size (.slice (some ⟨w.heap.size, 0, none⟩) 1 1) 1 [x] := by
  subst hX
  exact World.ownsRow_lit w #[u64 x] 1 (Nat.le_refl _) (by simp only [maxLen]; omega) rfl
theorem lit1_wd (w : World) (x : Nat) (X : Int) (hX : X = (x : Int)) (hx : x < 18446744073709551616) :
    Wd (w.alloc (.cells #[.int .u64 X] 24)) w.heap.size (some ⟨w.heap.size, 0, none⟩) 1 1 [x] :=
  Ow.wd_ (lit1_ow w x X hX) (M.Wds.cons hx M.Wds.nil) (by omega)
/-- Trim of a row of half words: a normal number. -/
theorem trim_hs (w : World) (lo s : Nat) (A : Option Addr) (n c : Nat) (xs : List Nat) (h : Wd w lo A n c xs) (hh : M.Hs xs) (a : Nat) (ha : Hid (M.vh xs = a)) (hs : n ≤ s) :
    Calls Tryd.prog 53 #[.slice A n c] w (fun e w' => ∃ v, e = .returned v ∧ w = w' ∧ Nh w lo s v a) :=
  (rtrim_any w lo A n c xs h).mono fun _ _ ⟨m, he, hw, hm, hnm, hmn, hzz⟩ => ⟨_, he, hw, A, m, c, _, rfl, hm, hh.take m, (M.vh_take hzz).trans ha.out, by omega, hnm⟩

set_option maxHeartbeats 2000000 in
set_option maxRecDepth 100000 in
theorem up_any (w : World) (lo : Nat) (A : Option Addr) (n c : Nat) (xs : List Nat) (hx : Wd w lo A n c xs) (hh : M.Hs xs) (hn : n ≤ 100000000) (N : Nat) (hN : N ≤ 10000000) :
    Calls Tryd.prog 20 #[.slice A n c, .int .i64 N] w (Rh (n + N / 32 + 1) (M.vh xs * 2 ^ N) w) := by
  obtain ⟨S, hS⟩ : ∃ S, N / 32 = S := ⟨_, rfl⟩
  obtain ⟨s, hs⟩ : ∃ s, N % 32 = s := ⟨_, rfl⟩
  have hs32 : s < 32 := by omega
  have hSb : S ≤ 1000000 := by omega
  have HN : Hid (N = 32 * S + s) := by show _ = _; omega
  have q1 : (N : Int) / 32 = (S : Int) := by omega
  have q2 : (N : Int) % 32 = (s : Int) := by omega
  have q3 : (N : Int).tdiv 32 = (S : Int) := by rw [Int.tdiv_eq_ediv_of_nonneg (by omega)]; exact q1
  have q4 : (N : Int).tmod 32 = (s : Int) := by rw [Int.tmod_eq_emod_of_nonneg (by omega)]; exact q2
  rw [hS]
  clear hS hs
  have b1 := hx.len
  have hxl := Lib.hid hx.num
  go_enter Tryd.func20, Tryd.ntmps20
  go_wp2_with (at_make; refine wpList_make_wd _ rfl (.tmp 10) (.tmp 10) 22 rfl info_u64 Tryd.underlying22 (S : Int) (S : Int) S rfl rfl (by omega) (by omega) (by omega) ?_; intro w1 hown1 hg1)
  have hu1 : Up w w1 := (Up.refl w).grown hg1 (by simp)
  have hz1 : w.heap.size ≤ w1.heap.size := Up.size hu1
  have hst := Lib.hid (M.UInv.start S s xs)
  go_loopw [5, 6, 7] (fun sv cv iv wr => ∃ (k cy : Nat) (hs : List Nat), k ≤ n ∧ cy < 4294967296 ∧ cv = u64 cy ∧ iv = .int .i64 k ∧ Up w wr ∧ w.heap.size ≤ wr.heap.size ∧ Ow wr w.heap.size sv (S + k) hs ∧ Hid (M.UInv S s xs k cy hs)) (fun _ _ iv _ => n - (intOf iv).toNat)
  case atStart => exact ⟨0, 0, _, by omega, by omega, rfl, rfl, hu1, hz1, hown1, hst⟩
  case round =>
    obtain ⟨k, cy, hs, hk, hcy, rfl, rfl, hu, hsz, hown, HI⟩ := hrel
    have hcA := (hx.up hu).at_
    clear hst hown1 hu1 hg1 hz1
    by_cases hlt : k < n
    · obtain ⟨bb, oo, rfl, _, hc⟩ := hcA (by omega)
      have hc1 := (hc k hlt).1
      obtain ⟨x, hxk⟩ : ∃ x, xs.getD k 0 = x := ⟨_, rfl⟩
      have hxb : x < 4294967296 := by rw [← hxk]; exact hh.getD k
      rw [hxk] at hc1
      have hp : (2 : Nat) ^ s ≤ 2 ^ 31 := Nat.pow_le_pow_right (by omega) (by omega)
      have hxs : x * 2 ^ s ≤ 4294967295 * 2147483648 := Nat.mul_le_mul (by omega) hp
      obtain ⟨Y, hY⟩ : ∃ Y, x * 2 ^ s = Y := ⟨_, rfl⟩
      have qY : (x : Int) * 2 ^ s = (Y : Int) := by rw [← hY]; simp
      obtain ⟨t, ht⟩ : ∃ t, Y + cy = t := ⟨_, rfl⟩
      have qt : (Y : Int) + (cy : Int) = (t : Int) := by omega
      rw [hY] at hxs
      have htb : t < 18446744073709551616 := by omega
      have HS := HI.out.step (x := x) (t := t) hxk (by rw [hY]; exact ht) (by omega)
      obtain ⟨T0, hT0⟩ : ∃ T0, t % 4294967296 = T0 := ⟨_, rfl⟩
      obtain ⟨T1, hT1⟩ : ∃ T1, t / 4294967296 = T1 := ⟨_, rfl⟩
      rw [hT0, hT1] at HS
      have qT0 : (t : Int) % 4294967296 = (T0 : Int) := by omega
      have qT0' : (t : Int).tmod 4294967296 = (T0 : Int) := by rw [Int.tmod_eq_emod_of_nonneg (by omega)]; exact qT0
      have qT1 : (t : Int) / 4294967296 = (T1 : Int) := by omega
      have hT0b : T0 < 18446744073709551616 := by omega
      have hT1b : T1 < 4294967296 := HS.car
      have HE := Lib.hid HS
      have hYb : Y < 18446744073709551616 := by omega
      have hu2 : Up wr (wr.alloc (.cells #[.int .u64 (T0 : Int)] 24)) := (Up.refl wr).alloc _
      have hown2 := Ow.up hown hu2
      have hw2 := lit1_wd wr T0 _ rfl hT0b
      clear hc hcA hxk hp hxs hY ht hT0 hT1 HS HI
      go_wp2_with (at_builtin; refine wpList_append_wd _ rfl (.tmp 28) (.tmp 31) _ rfl info_u64 w.heap.size Tryd.underlying22 _ (S + k) hs rfl hown2 _ _ 1 1 [T0] rfl hw2 (by omega) (Nat.le_trans hsz (Up.size hu2)) ?_; intro v3 w3 hown3 hg3 hat3)
      have hu3 : Up w w3 := (hu.trans hu2).grown hg3 (fun b hb => (World.ownsRow.lt hown2 b hb).1)
      go_roundw
      case rel => exact ⟨k + 1, T1, _, by omega, hT1b, by go_num, by go_num, hu3, hu3.size, hown3, HE⟩
      case measure => simp [intOf]; omega
    · have hkn : k = n := by omega
      subst hkn
      have HF := HI.out
      rw [← hxl.out] at HF
      obtain ⟨f1, f2⟩ := HF.fin HN.out
      have HV := Lib.hid f1
      have hu2 : Up wr (wr.alloc (.cells #[.int .u64 (cy : Int)] 24)) := (Up.refl wr).alloc _
      have hown2 := Ow.up hown hu2
      have hw2 := lit1_wd wr cy _ rfl (by omega)
      clear HF f1 hcA HI hown
      go_wp2_with (at_builtin; refine wpList_append_wd _ rfl (.tmp 35) (.tmp 37) _ rfl info_u64 w.heap.size Tryd.underlying22 _ (S + k) hs rfl hown2 _ _ 1 1 [cy] rfl hw2 (by omega) (Nat.le_trans hsz (Up.size hu2)) ?_; intro v3 w3 hown3 hg3 hat3)
      have hu3 : Up w w3 := (hu.trans hu2).grown hg3 (fun b hb => (World.ownsRow.lt hown2 b hb).1)
      obtain ⟨A3, c3, rfl, hwd3⟩ := Ow.wd hown3 f2.wds (by omega)
      refine (trim_hs _ _ (k + S + 1) _ _ _ _ hwd3 f2 _ HV (by omega)).mono ?_
      rintro _ _ ⟨v4, rfl, rfl, h4⟩
      go_wp2_with fail
      go_ret
      exact ⟨_, rfl, h4, hu3⟩

set_option maxHeartbeats 2000000 in
set_option maxRecDepth 100000 in
theorem down_any (w : World) (lo : Nat) (A : Option Addr) (n c : Nat) (xs : List Nat) (hx : Wd w lo A n c xs) (hh : M.Hs xs) (hn : n ≤ 100000000) (N : Nat) (hN : N ≤ 10000000) :
    Calls Tryd.prog 22 #[.slice A n c, .int .i64 N] w (Rh n (M.vh xs / 2 ^ N) w) := by
  obtain ⟨S, hS⟩ : ∃ S, N / 32 = S := ⟨_, rfl⟩
  obtain ⟨s, hs⟩ : ∃ s, N % 32 = s := ⟨_, rfl⟩
  have hs32 : s < 32 := by omega
  have hSb : S ≤ 1000000 := by omega
  have HN : Hid (N = 32 * S + s) := by show _ = _; omega
  have q1 : (N : Int) / 32 = (S : Int) := by omega
  have q2 : (N : Int) % 32 = (s : Int) := by omega
  have q3 : (N : Int).tdiv 32 = (S : Int) := by rw [Int.tdiv_eq_ediv_of_nonneg (by omega)]; exact q1
  have q4 : (N : Int).tmod 32 = (s : Int) := by rw [Int.tmod_eq_emod_of_nonneg (by omega)]; exact q2
  clear hS hs
  have b1 := hx.len
  have hxl := Lib.hid hx.num
  have hst : Ow (w.alloc (.cells #[] 24)) w.heap.size (.slice (some ⟨w.heap.size, 0, none⟩) 0 0) 0 [] := World.ownsRow_lit w #[] 0 (Nat.le_refl _) (by simp only [maxLen]; omega) rfl
  go_enter Tryd.func22, Tryd.ntmps22
  go_wp2_with fail
  go_loopw [5, 6] (fun sv iv wr => ∃ (k i : Nat) (hs : List Nat), i ≤ 1000000 + n ∧ S + k ≤ i ∧ i ≤ S + k ∧ (k = 0 ∨ i ≤ n) ∧ iv = .int .i64 i ∧ Up w wr ∧ w.heap.size ≤ wr.heap.size ∧ Ow wr w.heap.size sv k hs ∧ Hid (hs = (M.dn s (xs.drop S)).take k)) (fun _ iv _ => n + 1000000 - (intOf iv).toNat)
  case atStart => exact ⟨0, S, [], by omega, by omega, by omega, .inl rfl, rfl, (Up.refl w).alloc _, by simp, hst, rfl⟩
  case round =>
    obtain ⟨k, i, hs, hi, hi1, hi2, hi3, rfl, hu, hsz, hown, HI⟩ := hrel
    have hcA := (hx.up hu).at_
    clear hst
    by_cases hlt : i < n
    · obtain ⟨bb, oo, rfl, _, hc⟩ := hcA (by omega)
      have hc1 := (hc i hlt).1
      obtain ⟨x, hxk⟩ : ∃ x, xs.getD i 0 = x := ⟨_, rfl⟩
      obtain ⟨y, hyk⟩ : ∃ y, xs.getD (i + 1) 0 = y := ⟨_, rfl⟩
      have hxb : x < 4294967296 := by rw [← hxk]; exact hh.getD i
      have hyb : y < 4294967296 := by rw [← hyk]; exact hh.getD (i + 1)
      rw [hxk] at hc1
      obtain ⟨t, ht⟩ : ∃ t, x + y * 4294967296 = t := ⟨_, rfl⟩
      have htb : t < 18446744073709551616 := by omega
      have qt : (x : Int) + (y : Int) * 4294967296 = (t : Int) := by omega
      have hd : (M.dn s (xs.drop S)).getD k 0 = t / 2 ^ s % 4294967296 := by
        rw [M.dn_getD s _ k (by rw [List.length_drop, hxl.out]; omega), M.getD_drop', M.getD_drop', show S + k = i from by omega, show S + (k + 1) = i + 1 from by omega, hxk, hyk, ht]
      obtain ⟨Y, hY⟩ : ∃ Y, t / 2 ^ s = Y := ⟨_, rfl⟩
      have qY : (t : Int) / 2 ^ s = (Y : Int) := by rw [← hY]; simp
      have hYt : Y ≤ t := by rw [← hY]; exact Nat.div_le_self _ _
      rw [hY] at hd
      obtain ⟨T0, hT0⟩ : ∃ T0, Y % 4294967296 = T0 := ⟨_, rfl⟩
      rw [hT0] at hd
      have qT0 : (Y : Int) % 4294967296 = (T0 : Int) := by omega
      have qT0' : (Y : Int).tmod 4294967296 = (T0 : Int) := by rw [Int.tmod_eq_emod_of_nonneg (by omega)]; exact qT0
      have hT0b : T0 < 18446744073709551616 := by omega
      have HE : Hid (hs ++ [T0] = (M.dn s (xs.drop S)).take (k + 1)) := by
        rw [Hid, M.take_snoc (by rw [M.dn_length, List.length_drop, hxl.out]; omega), ← HI.out, hd]
      have cg : ∀ q, Calls Tryd.prog 59 #[.slice (some ⟨bb, oo, none⟩) n c, .int .i64 ((i : Int) + 1)] (wr.drewN q) (Same (u64 y) (wr.drewN q)) := fun q => by
        have := get_any (wr.drewN q) lo _ n c xs (hx.up (hu.drewN q)) (i + 1) ((i : Int) + 1) (by omega)
        rwa [hyk] at this
      have CG := Lib.hid cg
      have e0 : IntKind.i64.wrap ((i : Int) + 1) = (i : Int) + 1 := by simp [IntKind.wrap, IntKind.bits, IntKind.signed]; omega
      have e1 : IntKind.u64.wrap ((y : Int) * 4294967296) = (y : Int) * 4294967296 := by rw [IntKind.wrap_u64]; omega
      have e2 : IntKind.u64.wrap (t : Int) = (t : Int) := by rw [IntKind.wrap_u64]; omega
      clear hc hcA hxk hyk ht hd hY hT0 cg HI
      go_wp2_with fail
      go_quiet ((go_at_call 59; exact Same.quiet (CG.out _)))
      clear e0 e1 e2
      have hu2 : Up wr ((wr.drewN nq).alloc (.cells #[.int .u64 (T0 : Int)] 24)) := ((Up.refl wr).drewN nq).alloc _
      have hown2 := Ow.up hown hu2
      have hw2 := lit1_wd (wr.drewN nq) T0 _ rfl hT0b
      go_wp2_with (at_builtin; refine wpList_append_wd _ rfl (.tmp 27) (.tmp 34) _ rfl info_u64 w.heap.size Tryd.underlying22 _ k hs rfl hown2 _ _ 1 1 [T0] rfl hw2 (by omega) (Nat.le_trans hsz (Up.size hu2)) ?_; intro v3 w3 hown3 hg3 hat3)
      have hu3 : Up w w3 := (hu.trans hu2).grown hg3 (fun b hb => (World.ownsRow.lt hown2 b hb).1)
      go_roundw
      case rel => exact ⟨k + 1, i + 1, _, by omega, by omega, by omega, .inr hlt, by go_num, hu3, hu3.size, hown3, HE⟩
      case measure => simp [intOf]; omega
    · have hall : hs = M.dn s (xs.drop S) := by
        rw [HI.out, List.take_of_length_le]
        rw [M.dn_length, List.length_drop, hxl.out]; omega
      have hhs : M.Hs hs := by rw [hall]; exact M.dn_hs _ _
      have HV : Hid (M.vh hs = M.vh xs / 2 ^ N) := by rw [hall]; exact M.vh_dn_drop hh hs32 HN.out
      have hkn : k ≤ n := by omega
      obtain ⟨A3, c3, rfl, hwd3⟩ := Ow.wd hown hhs.wds (by omega)
      clear hall HI hown hcA
      go_wp2_with fail
      refine (trim_hs _ _ n _ _ _ _ hwd3 hhs _ HV hkn).mono ?_
      rintro _ _ ⟨v4, rfl, rfl, h4⟩
      go_wp2_with fail
      go_ret
      exact ⟨_, rfl, h4, hu⟩

set_option maxHeartbeats 1000000 in
set_option maxRecDepth 100000 in
theorem rbits_any (w : World) (lo : Nat) (A : Option Addr) (n c : Nat) (xs : List Nat) (hx : Wd w lo A n c xs) (hh : M.Hs xs) (hn : n ≤ 100000000) (z : Int) (hz : Hid (((M.bits (M.vh xs) : Nat) : Int) = z)) :
    Calls Tryd.prog 24 #[.slice A n c] w (Same (.int .i64 z) w) := by
  go_enter Tryd.func24, Tryd.ntmps24
  go_wp2_with fail
  refine (rtrim_any w lo A n c xs hx).mono ?_
  rintro _ _ ⟨m, rfl, rfl, hm, hnm, hmn, hzz⟩
  have hv := M.vh_take hzz
  have HZ : Hid (((M.bits (M.vh (xs.take m)) : Nat) : Int) = z) := by rw [Hid, hv]; exact hz.out
  have hht := hh.take m
  have hml := hm.num
  obtain ⟨ys, hys⟩ : ∃ ys, xs.take m = ys := ⟨_, rfl⟩
  rw [hys] at hm hnm HZ hht hml
  have HML := Lib.hid hml
  clear hzz hv hz hh hx hys hml
  by_cases hm0 : m = 0
  · subst hm0
    have e : ys = [] := List.eq_nil_of_length_eq_zero HML.out
    have E : Hid (z = 0) := by
      have := HZ.out
      rw [e] at this
      exact this.symm
    clear e
    go_wp2_with fail
    go_ret
    exact ⟨ret_int E.out.symm, rfl⟩
  · obtain ⟨j, hj⟩ : ∃ j, m = j + 1 := ⟨m - 1, by omega⟩
    obtain ⟨b, o, rfl, _, hc⟩ := hm.at_ (by omega)
    obtain ⟨x, hxk⟩ : ∃ x, ys.getD j 0 = x := ⟨_, rfl⟩
    have hc1 := (hc j (by omega)).1
    rw [hxk] at hc1
    have hxb : x < 4294967296 := by rw [← hxk]; exact hht.getD j
    have hb := M.vh_top hht hnm (by rw [HML.out, hj]) hxk
    have HB : Hid (z = 32 * (j : Int) + (M.bits x : Nat)) := by
      have := HZ.out
      rw [hb] at this
      show z = _
      omega
    have q1 : (m : Int) - 1 = (j : Int) := by omega
    have l1 : j < m := by omega
    have t0 : ((m : Int) == 0) = false := by rw [beq_eq_false_iff_ne]; omega
    have hxbits : M.bits x ≤ 32 := M.bits_le_of_lt (by omega)
    have hst : Hid (0 + M.bits x = M.bits x) := by show _ = _; omega
    clear hc hxk hb hj hm0 HZ hht hnm hm HML
    go_wp2_with fail
    go_loop [3, 4] (fun nv xv => ∃ (t x' : Nat) (N : Int), nv = .int .i64 N ∧ N = 32 * (j : Int) + (t : Int) ∧ xv = u64 x' ∧ x' < 4294967296 ∧ t ≤ 32 ∧ Hid (t + M.bits x' = M.bits x)) (fun _ xv => (intOf xv).toNat)
    case atStart => exact ⟨0, x, _, rfl, by omega, rfl, hxb, by omega, hst⟩
    case round =>
      obtain ⟨t, x', N, rfl, hN, rfl, hx', ht, HT⟩ := hrel
      clear hst
      by_cases hx0 : x' = 0
      · subst hx0
        have ht2 : t = M.bits x := by have := HT.out; rw [M.bits_zero] at this; omega
        have HN : Hid (z = N) := by
          have := HB.out
          show z = N
          omega
        clear ht2 hN
        go_wp2_with fail
        go_ret
        exact ⟨ret_int HN.out.symm, rfl⟩
      · obtain ⟨h2, hh2⟩ : ∃ h2, x' / 2 = h2 := ⟨_, rfl⟩
        have qh : (x' : Int) / 2 = (h2 : Int) := by omega
        have hlt2 : h2 < x' := by omega
        have HT2 : Hid (t + 1 + M.bits h2 = M.bits x) := by
          have h3 := M.bits_half hx0
          rw [hh2] at h3
          have := HT.out
          show _ = _
          omega
        have ht3 : t + 1 ≤ 32 := by have := HT2.out; omega
        have hxp : 0 < x' := by omega
        have HNN := Lib.hid hN
        have hNb : N ≤ 3300000000 := by omega
        have hNb0 : 0 ≤ N := by omega
        clear hh2 hx0 hN
        go_wp2_with fail
        go_round
        case rel => exact ⟨t + 1, h2, N + 1, rfl, by have := HNN.out; omega, rfl, by omega, ht3, HT2⟩
        case measure => simp [intOf]; omega

set_option maxHeartbeats 1000000 in
theorem rbit_any (w : World) (lo : Nat) (A : Option Addr) (n c : Nat) (xs : List Nat) (hx : Wd w lo A n c xs) (hh : M.Hs xs) (k : Nat) (hk : k ≤ 1000000000000) (t : Bool) (ht : Hid ((M.vh xs).testBit k = t)) :
    Calls Tryd.prog 26 #[.slice A n c, .int .i64 k] w (Same (.bool t) w) := by
  obtain ⟨S, hS⟩ : ∃ S, k / 32 = S := ⟨_, rfl⟩
  obtain ⟨s, hs⟩ : ∃ s, k % 32 = s := ⟨_, rfl⟩
  have hs32 : s < 32 := by omega
  have q1 : (k : Int) / 32 = (S : Int) := by omega
  have q2 : (k : Int) % 32 = (s : Int) := by omega
  have q3 : (k : Int).tdiv 32 = (S : Int) := by rw [Int.tdiv_eq_ediv_of_nonneg (by omega)]; exact q1
  have q4 : (k : Int).tmod 32 = (s : Int) := by rw [Int.tmod_eq_emod_of_nonneg (by omega)]; exact q2
  have hg := get_any w lo A n c xs hx S (S : Int) rfl
  have hb := M.vh_bit hh k
  rw [hS, hs] at hb
  obtain ⟨x, hxk⟩ : ∃ x, xs.getD S 0 = x := ⟨_, rfl⟩
  rw [hxk] at hg hb
  have hxb : x < 4294967296 := by rw [← hxk]; exact hh.getD S
  obtain ⟨Y, hY⟩ : ∃ Y, x / 2 ^ s = Y := ⟨_, rfl⟩
  have qY : (x : Int) / 2 ^ s = (Y : Int) := by rw [← hY]; simp
  rw [hY, ht.out] at hb
  obtain ⟨T, hT⟩ : ∃ T, Y % 2 = T := ⟨_, rfl⟩
  have qT : (Y : Int) % 2 = (T : Int) := by omega
  have qT' : (Y : Int).tmod 2 = (T : Int) := by rw [Int.tmod_eq_emod_of_nonneg (by omega)]; exact qT
  have hT2 : T < 2 := by omega
  rw [hT] at hb
  have HB : Hid (((T : Int) == 1) = t) := by
    show _ = _
    rcases t with _ | _
    · simp at hb; rw [beq_eq_false_iff_ne]; omega
    · simp at hb; rw [hb]; rfl
  have CG := Lib.hid hg
  clear hS hs hxk hY hT hb hg hx hh ht
  go_enter Tryd.func26, Tryd.ntmps26
  go_wp2_with fail
  refine CG.out.mono ?_
  rintro _ _ ⟨rfl, rfl⟩
  go_wp2_with fail
  go_ret
  exact ⟨ret_bool HB.out, rfl⟩
theorem rbit_neg (w : World) (v : Value) (k : Int) (hk : k < 0) : Calls Tryd.prog 26 #[v, .int .i64 k] w (Same (.bool false) w) := by
  have hk2 : decide (0 ≤ k) = false := by simp; omega
  go_enter Tryd.func26, Tryd.ntmps26
  go_wp2_with fail
  go_ret
  exact ⟨rfl, rfl⟩
end Go.Proofs.YtdokioefcfcfnaaDoor
