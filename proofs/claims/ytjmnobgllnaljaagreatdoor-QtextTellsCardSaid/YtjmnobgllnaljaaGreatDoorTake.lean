/-
  nat.takeTimes, nat.giveBack, nat.takeDigit: their contracts.
-/
import Derived.Test.YtjmnobgllnaljaaGreatDoorNb
import Derived.Test.YtjmnobgllnaljaaGreatDoorMath2
import Derived.Test.YtjmnobgllnaljaaGreatDoorNa
import Derived.Test.YtjmnobgllnaljaaGreatDoorNb
namespace Go.Proofs.YtjmnobgllnaljaaGreatDoor
open Go.RowKit Go.Shelf

set_option maxHeartbeats 400000 in
set_option maxRecDepth 100000 in
theorem firstGuess_small (w : World) (hi lo y : Nat) (hlo : lo < 18446744073709551616) (hy : y < 18446744073709551616) (hh : hi < y) :
    Calls Tryz.prog 157 #[u64 hi, u64 lo, u64 y] w (Val (.tuple #[u64 ((hi * 18446744073709551616 + lo) / y), u64 ((hi * 18446744073709551616 + lo) % y), .int .u64 0]) w) := by
  have CW := Lib.hid (div64_any w hi lo y hlo hy hh)
  have hge : decide (y ≤ hi) = false := by simp; omega
  have hge' : decide ((y : Int) ≤ (hi : Int)) = false := by simp; omega
  generalize (hi * 18446744073709551616 + lo) / y = q at *
  generalize (hi * 18446744073709551616 + lo) % y = r at *
  go_enter Tryz.func157, Tryz.ntmps157
  go_wp2_with fail
  refine CW.out.mono ?_
  rintro _ _ ⟨rfl, kk, rfl⟩
  go_wp2_with fail
  go_ret3
  exact ⟨rfl, kk, rfl⟩

set_option maxHeartbeats 400000 in
set_option maxRecDepth 100000 in
theorem firstGuess_big (w : World) (lo y s d : Nat) (hrun : ∀ w, (callFunc 112 #[u64 lo, u64 y, .int .u64 0]).run Tryz.prog w = .ok (.value (.tuple #[u64 s, u64 d])) w) :
    Calls Tryz.prog 157 #[u64 y, u64 lo, u64 y] w (Val (.tuple #[.int .u64 18446744073709551615, u64 s, u64 d]) w) := by
  go_enter Tryz.func157, Tryz.ntmps157
  go_wp2_with fail
  go_ret3
  exact ⟨rfl, 0, rfl⟩

/-- The first guess, as a digit on the way. -/
theorem firstGuess_ex (hi lo y b c : Nat) (hlo : lo < 18446744073709551616) (hy : y < 18446744073709551616) (hy0 : 0 < y) (hh : hi ≤ y) (hc : c < 18446744073709551616) :
    ∃ g l o : Nat, l < 18446744073709551616 ∧ o ≤ 1 ∧ M.Gs (hi * 18446744073709551616 + lo) y b c g (l + 18446744073709551616 * o) ∧
      ∀ w, Calls Tryz.prog 157 #[u64 hi, u64 lo, u64 y] w (Val (.tuple #[u64 g, u64 l, u64 o]) w) := by
  rcases Nat.lt_or_ge hi y with h | h
  · have h1 : hi * 18446744073709551616 + lo < 18446744073709551616 * y := by omega
    refine ⟨_, _, 0, Nat.lt_trans (Nat.mod_lt (hi * 18446744073709551616 + lo) hy0) hy, by omega, ?_, fun w => firstGuess_small w hi lo y hlo hy h⟩
    rw [Nat.mul_zero, Nat.add_zero]
    exact M.Gs.start hy0 hc h1
  · obtain rfl : hi = y := by omega
    obtain ⟨s, d, h1, h2, h3, h4⟩ := add64_zero lo hi hlo hy
    refine ⟨18446744073709551615, s, d, h1, h2, ?_, fun w => firstGuess_big w lo hi s d h4⟩
    rw [← h3]
    exact M.Gs.start_big

/-- What guessDigit comes to. -/
def Guessed (t d : Nat) (w : World) (e : Ending) (w' : World) : Prop := ∃ q, e = .returned (u64 q) ∧ M.Gd t d q ∧ ∃ k, w' = w.drewN k

set_option maxHeartbeats 1000000 in
set_option maxRecDepth 100000 in
theorem guessDigit_any (w : World) (g o g' o' n1 c c' p : Nat) (x2 x1 x0 a b : Nat) (hp : p ≤ 1099511627776) (hn1 : n1 = p + 3)
    (hx2 : w.cell? ⟨g, o + (p + 2), none⟩ = some (u64 x2)) (hx1 : w.cell? ⟨g, o + (p + 1), none⟩ = some (u64 x1)) (hx0 : w.cell? ⟨g, o + p, none⟩ = some (u64 x0))
    (ha : w.cell? ⟨g', o' + (p + 1), none⟩ = some (u64 a)) (hb : w.cell? ⟨g', o' + p, none⟩ = some (u64 b))
    (bx2 : x2 ≤ a) (bx1 : x1 < 18446744073709551616) (bx0 : x0 < 18446744073709551616) (ba : a < 18446744073709551616) (ba0 : 0 < a) (bb : b < 18446744073709551616) :
    Calls Tryz.prog 142 #[.slice (some ⟨g, o, none⟩) n1 c, .slice (some ⟨g', o', none⟩) (p + 2 : Nat) c'] w
      (Guessed ((x2 * 18446744073709551616 + x1) * 18446744073709551616 + x0) (a * 18446744073709551616 + b) w) := by
  obtain ⟨q, l, ov, hl, hov, HG, hcall⟩ := firstGuess_ex x2 x1 a b x0 bx1 ba ba0 bx2 bx0
  obtain ⟨n, hn⟩ : ∃ n, p + 2 = n := ⟨_, rfl⟩
  obtain ⟨m, hm⟩ : ∃ m, p + 1 = m := ⟨_, rfl⟩
  have q1 : (n : Int) - 1 = (m : Int) := by omega
  have q2 : (n : Int) - 2 = (p : Int) := by omega
  have w1 : IntKind.i64.wrap ((n : Int) - 1) = (m : Int) := by rw [q1]; simp [IntKind.wrap, IntKind.bits, IntKind.signed]; omega
  have w2 : IntKind.i64.wrap ((n : Int) - 2) = (p : Int) := by rw [q2]; simp [IntKind.wrap, IntKind.bits, IntKind.signed]; omega
  have l1 : (m : Int) < (n : Int) := by omega
  have l2 : (p : Int) < (n : Int) := by omega
  have l3 : (n : Int) < (n1 : Int) := by omega
  have l4 : (m : Int) < (n1 : Int) := by omega
  have l5 : (p : Int) < (n1 : Int) := by omega
  have l6 : m < n := by omega
  have l7 : p < n := by omega
  have l8 : n < n1 := by omega
  have l9 : m < n1 := by omega
  have l10 : p < n1 := by omega
  rw [hn] at hx2 ⊢
  rw [hm] at hx1 ha
  have HC := Lib.hid hcall
  clear hn hm hcall hn1
  go_enter Tryz.func142, Tryz.ntmps142
  go_wp2_with fail
  go_step3
  go_wp2_with fail
  go_quiet (fail)
  obtain ⟨nq0, hq0⟩ : ∃ x, x = nq := ⟨nq, rfl⟩
  subst hq0
  go_wp2_with fail
  go_quiet ((go_at_call 157; exact Val.quiet2 (HC.out _)))
  go_wp2_with fail
  go_step3
  go_wp2_with fail
  clear hx2 hx1 ha hb q1 w1 w2 l1 l2 l3 l4 l6 l7 l8 l9 bx1 bx2 HC
  obtain ⟨kk, hkk⟩ : ∃ kk, nq0 + nq = kk := ⟨_, rfl⟩
  rw [World.drewN_drewN, hkk]
  clear hkk
  have hst := HG
  clear HG
  go_loop [8, 9, 10] (fun s8 s9 s10 => ∃ q l ov : Nat, s8 = u64 q ∧ s9 = u64 l ∧ s10 = u64 ov ∧ l < 18446744073709551616 ∧ ov ≤ 1 ∧ Hid (M.Gs (x2 * 18446744073709551616 + x1) a b x0 q (l + 18446744073709551616 * ov))) (fun s8 _ _ => (intOf s8).toNat)
  case atStart => exact ⟨q, l, ov, rfl, rfl, rfl, hl, hov, hst⟩
  case round =>
    clear hl hov hst
    obtain ⟨q, l, ov, rfl, rfl, rfl, hl, hov, HG⟩ := hrel
    have hq := HG.out.lt
    obtain ⟨hi1, lo1, e1, e2, e3, c1m⟩ := mul64_ex q b hq bb
    have CM := Lib.hid c1m
    have E3 := Lib.hid e3
    clear e3 c1m
    rcases (show ov = 1 ∨ ov = 0 by omega) with rfl | rfl
    · have HD := Lib.hid (HG.out.stop bb (by omega))
      have t1 : (((1 : Nat) : Int) != 0) = true := by decide
      clear HG
      go_wp2_with fail
      refine (CM.out _).mono ?_
      rintro _ _ ⟨rfl, rfl⟩
      go_wp2_with fail
      go_ret
      exact ⟨q, rfl, HD.out, _, rfl⟩
    · have t1 : (((0 : Nat) : Int) != 0) = false := by decide
      have HG0 : Hid (M.Gs (x2 * 18446744073709551616 + x1) a b x0 q l) := by
        have := HG.out
        rwa [Nat.mul_zero, Nat.add_zero] at this
      clear HG
      rcases Nat.lt_trichotomy hi1 l with h | h | h
      · have HD := Lib.hid (HG0.out.done (by have := E3.out; omega))
        go_wp2_with fail
        refine (CM.out _).mono ?_
        rintro _ _ ⟨rfl, rfl⟩
        go_wp2_with fail
        go_ret
        exact ⟨q, rfl, HD.out, _, rfl⟩
      · subst h
        by_cases hle : lo1 ≤ x0
        · have HD := Lib.hid (HG0.out.done (by have := E3.out; omega))
          have t2 : decide (hi1 < hi1) = false := by simp
          have t3 : ((hi1 : Int) == (hi1 : Int)) = true := by simp
          go_wp2_with fail
          refine (CM.out _).mono ?_
          rintro _ _ ⟨rfl, rfl⟩
          go_wp2_with fail
          go_ret
          exact ⟨q, rfl, HD.out, _, rfl⟩
        · have hmore : 18446744073709551616 * hi1 + x0 < q * b := by have := E3.out; omega
          obtain ⟨q', rfl⟩ : ∃ q', q = q' + 1 := ⟨q - 1, by
            rcases Nat.eq_zero_or_pos q with h0 | h0
            · rw [h0, Nat.zero_mul] at hmore; omega
            · omega⟩
          have HN := HG0.out.next hmore
          obtain ⟨s, d, f1, f2, f3, f4⟩ := add64_zero hi1 a hl ba
          rw [f3] at HN
          have HN2 := Lib.hid HN
          have t2 : decide (hi1 < hi1) = false := by simp
          have t3 : ((hi1 : Int) == (hi1 : Int)) = true := by simp
          clear HN f3 hmore HG0 E3
          go_wp2_with fail
          refine (CM.out _).mono ?_
          rintro _ _ ⟨rfl, rfl⟩
          go_wp2_with fail
          go_round
          case rel => exact ⟨q', s, d, by go_num, rfl, rfl, f1, f2, HN2.out⟩
          case measure => simp [intOf]
      · have hmore : 18446744073709551616 * l + x0 < q * b := by have := E3.out; omega
        obtain ⟨q', rfl⟩ : ∃ q', q = q' + 1 := ⟨q - 1, by
          rcases Nat.eq_zero_or_pos q with h0 | h0
          · rw [h0, Nat.zero_mul] at hmore; omega
          · omega⟩
        have HN := HG0.out.next hmore
        obtain ⟨s, d, f1, f2, f3, f4⟩ := add64_zero l a hl ba
        rw [f3] at HN
        have HN2 := Lib.hid HN
        have t2 : decide (hi1 < l) = false := by simp; omega
        have t3 : ((hi1 : Int) == (l : Int)) = false := by rw [beq_eq_false_iff_ne]; omega
        clear HN f3 hmore HG0 E3
        go_wp2_with fail
        refine (CM.out _).mono ?_
        rintro _ _ ⟨rfl, rfl⟩
        go_wp2_with fail
        go_round
        case rel => exact ⟨q', s, d, by go_num, rfl, rfl, f1, f2, HN2.out⟩
        case measure => simp [intOf]
end Go.Proofs.YtjmnobgllnaljaaGreatDoor
namespace Go.Proofs.YtjmnobgllnaljaaGreatDoor
open Go.RowKit Go.Shelf

/-- What takeTimes comes to. -/
def TakeTimes (w0 : World) (base g N m : Nat) (zs ys : List Nat) (x i : Nat) (e : Ending) (w' : World) : Prop :=
  ∃ (t : Bool) (b : Nat) (zs' : List Nat), e = .returned (.bool t) ∧ (t = true ↔ b = 1) ∧ b ≤ 1 ∧ w0.grownBy w' (some g) ∧ Ow w' base (.slice (some ⟨g, 0, none⟩) N N) N zs' ∧ M.Wds zs' ∧ M.SubInv zs ys x i (m + 1) b zs'

set_option maxHeartbeats 1000000 in
set_option maxRecDepth 100000 in
theorem takeTimes_any (w0 w : World) (lo base g N i n1 c1 m c x : Nat) (A : Option Addr) (zs ys : List Nat) (hu : w0.grownBy w (some g)) (hB : Wd w0 lo A m c ys) (hne : 0 < m → ∀ b, A.map (·.block) = some b → some g ≠ some b)
    (hown : Ow w base (.slice (some ⟨g, 0, none⟩) N N) N zs) (hwd : M.Wds zs) (hN : i + n1 ≤ N) (hm : n1 = m + 1) (hx : x < 18446744073709551616) :
    Calls Tryz.prog 143 #[.slice (some ⟨g, i, none⟩) n1 c1, .slice A m c, u64 x] w (TakeTimes w0 base g N m zs ys x i) := by
  have b1 := hB.small
  have hm1 : m < n1 := by omega
  have hm2 : n1 ≤ m + 1 := by omega
  clear hm
  go_enter Tryz.func143, Tryz.ntmps143
  go_wp2_with fail
  go_loopw [7, 8, 16] (fun c bo j wr => ∃ (k q b : Nat) (zs' : List Nat), k ≤ m ∧ Hid (q < 18446744073709551616) ∧ b ≤ 1 ∧ c = u64 q ∧ bo = u64 b ∧ j = .int .i64 k ∧ w0.grownBy wr (some g) ∧ Ow wr base (.slice (some ⟨g, 0, none⟩) N N) N zs' ∧ M.Wds zs' ∧ Hid (M.SubInv zs ys x i k (q + b) zs')) (fun _ _ j _ => m - (intOf j).toNat)
  case atStart => exact ⟨0, 0, 0, _, by omega, by simp [Hid], by omega, rfl, rfl, rfl, hu, hown, hwd, M.SubInv.start _ _ _ _⟩
  case round =>
    obtain ⟨k, q, b, zs', hk, hq, hb, rfl, rfl, rfl, hu1, hown1, hwd1, HI⟩ := hrel
    clear hown hwd hu
    have hzl := hown1.num
    have hcz := hown1.cellAt (i + k) (by omega)
    rw [cu_get (by omega), HI.out.word] at hcz
    have hfz := hown1.frozenAt (i + k)
    obtain ⟨z, hz⟩ : ∃ z, zs.getD (i + k) 0 = z := ⟨_, rfl⟩
    have hzb : z < 18446744073709551616 := by rw [← hz, ← HI.out.word]; exact hwd1.getD _
    rw [hz] at hcz
    by_cases hlt : k < m
    · have hcB := (hB.kept hu1 hne).at_
      obtain ⟨bb, oo, rfl, _, hc⟩ := hcB (by omega)
      have hc1 := (hc k hlt).1
      obtain ⟨y, hy⟩ : ∃ y, ys.getD k 0 = y := ⟨_, rfl⟩
      have hyb : y < 18446744073709551616 := by rw [← hy]; exact hB.wds.getD k
      rw [hy] at hc1
      obtain ⟨hi1, lo1, e1, e2, e3, c1m⟩ := mul64_ex y x hyb hx
      obtain ⟨s1, d1, f1, f2, f3, run1⟩ := add64_zero lo1 q e1 hq.out
      obtain ⟨s2, d2, g1, g2, g3, run2⟩ := sub64_ex z s1 b hzb f1 hb
      have hfin := M.word_borrow hx hyb hq.out e3 f3 g3
      have HE := Lib.hid (HI.out.step (by omega) hz hy hfin.1)
      have HQ := Lib.hid hfin.2
      have CM := Lib.hid c1m
      clear hc hcB hy hz hyb hzb e1 e3 f3 g3 hfin c1m
      go_wp2_with (go_at_call 86; refine (CM.out _).mono ?_; rintro _ _ ⟨rfl, rfl⟩)
      go_roundw
      case rel =>
        obtain ⟨h1, h2⟩ := hown1.stored (i + k) (u64 s2)
        rw [cu_set] at h1
        exact ⟨k + 1, hi1 + d1, d2, _, by omega, HQ.out, g2, by go_num, rfl, by go_num, only_setCell hu1 _ _, h1, hwd1.set _ g1, HE.out⟩
      case measure => simp [intOf]; omega
    · have hkm : k = m := by omega
      subst hkm
      obtain ⟨s2, d2, g1, g2, g3, run2⟩ := sub64_ex z q b hzb hq.out hb
      have hy0 : ys.getD k 0 = 0 := M.getD_big (by have := hB.num; omega)
      have HE := Lib.hid (HI.out.step (q' := d2) (s := s2) (by omega) hz hy0 (by rw [Nat.zero_mul]; omega))
      clear hz hzb hy0 HI
      obtain ⟨h1, h2⟩ := hown1.stored (i + k) (u64 s2)
      rw [cu_set] at h1
      have hu2 := only_setCell hu1 (i + k) (u64 s2)
      go_wp2_with fail
      go_ret
      refine ⟨_, d2, _, rfl, ?_, g2, hu2, h1, hwd1.set _ g1, HE.out⟩
      rw [bne_iff_ne]
      omega

/-- What giveBack comes to. -/
def GiveBack (w0 : World) (base g N m : Nat) (zs ys : List Nat) (i : Nat) (e : Ending) (w' : World) : Prop :=
  ∃ (b : Nat) (zs' : List Nat), e = .returned (.tuple #[]) ∧ b ≤ 1 ∧ w0.grownBy w' (some g) ∧ Ow w' base (.slice (some ⟨g, 0, none⟩) N N) N zs' ∧ M.Wds zs' ∧ M.AddInv zs ys 1 i (m + 1) b zs'

set_option maxHeartbeats 1000000 in
set_option maxRecDepth 100000 in
theorem giveBack_any (w0 w : World) (lo base g N i n1 c1 m c : Nat) (A : Option Addr) (zs ys : List Nat) (hu : w0.grownBy w (some g)) (hB : Wd w0 lo A m c ys) (hne : 0 < m → ∀ b, A.map (·.block) = some b → some g ≠ some b)
    (hown : Ow w base (.slice (some ⟨g, 0, none⟩) N N) N zs) (hwd : M.Wds zs) (hN : i + n1 ≤ N) (hm : n1 = m + 1) :
    Calls Tryz.prog 144 #[.slice (some ⟨g, i, none⟩) n1 c1, .slice A m c] w (GiveBack w0 base g N m zs ys i) := by
  have b1 := hB.small
  have hm1 : m < n1 := by omega
  have hm2 : n1 ≤ m + 1 := by omega
  clear hm
  go_enter Tryz.func144, Tryz.ntmps144
  go_wp2_with fail
  go_loopw [4, 9] (fun bo j wr => ∃ (k b : Nat) (zs' : List Nat), k ≤ m ∧ b ≤ 1 ∧ bo = u64 b ∧ j = .int .i64 k ∧ w0.grownBy wr (some g) ∧ Ow wr base (.slice (some ⟨g, 0, none⟩) N N) N zs' ∧ M.Wds zs' ∧ Hid (M.AddInv zs ys 1 i k b zs')) (fun _ j _ => m - (intOf j).toNat)
  case atStart => exact ⟨0, 0, _, by omega, by omega, rfl, rfl, hu, hown, hwd, M.AddInv.start _ _ _ _⟩
  case round =>
    obtain ⟨k, b, zs', hk, hb, rfl, rfl, hu1, hown1, hwd1, HI⟩ := hrel
    clear hown hwd hu
    have hzl := hown1.num
    have hcz := hown1.cellAt (i + k) (by omega)
    rw [cu_get (by omega), HI.out.word] at hcz
    have hfz := hown1.frozenAt (i + k)
    obtain ⟨z, hz⟩ : ∃ z, zs.getD (i + k) 0 = z := ⟨_, rfl⟩
    have hzb : z < 18446744073709551616 := by rw [← hz, ← HI.out.word]; exact hwd1.getD _
    rw [hz] at hcz
    by_cases hlt : k < m
    · have hcB := (hB.kept hu1 hne).at_
      obtain ⟨bb, oo, rfl, _, hc⟩ := hcB (by omega)
      have hc1 := (hc k hlt).1
      obtain ⟨y, hy⟩ : ∃ y, ys.getD k 0 = y := ⟨_, rfl⟩
      have hyb : y < 18446744073709551616 := by rw [← hy]; exact hB.wds.getD k
      rw [hy] at hc1
      obtain ⟨s2, d2, g1, g2, g3, run2⟩ := add64_ex z y b hzb hyb hb
      have HE := Lib.hid (HI.out.step (s := s2) (q' := d2) (by omega) hz hy (by omega))
      clear hc hcB hy hz hyb hzb g3
      go_wp2_with fail
      go_roundw
      case rel =>
        obtain ⟨h1, h2⟩ := hown1.stored (i + k) (u64 s2)
        rw [cu_set] at h1
        exact ⟨k + 1, d2, _, by omega, g2, rfl, by go_num, only_setCell hu1 _ _, h1, hwd1.set _ g1, HE.out⟩
      case measure => simp [intOf]; omega
    · have hkm : k = m := by omega
      subst hkm
      obtain ⟨s2, hs2⟩ : ∃ s2, s2 = (z + b) % 18446744073709551616 := ⟨_, rfl⟩
      obtain ⟨d2, hd2⟩ : ∃ d2, d2 = (z + b) / 18446744073709551616 := ⟨_, rfl⟩
      have hy0 : ys.getD k 0 = 0 := M.getD_big (by have := hB.num; omega)
      have HE := Lib.hid (HI.out.step (q' := d2) (s := s2) (by omega) hz hy0 (by omega))
      have g1 : s2 < 18446744073709551616 := by omega
      have g2 : d2 ≤ 1 := by omega
      have hw : IntKind.u64.wrap ((z : Int) + (b : Int)) = (s2 : Int) := by
        rw [IntKind.wrap_u64]; omega
      clear hz hzb hy0 HI hs2 hd2
      obtain ⟨h1, h2⟩ := hown1.stored (i + k) (u64 s2)
      rw [cu_set] at h1
      have hu2 := only_setCell hu1 (i + k) (u64 s2)
      go_wp2_with fail
      refine bodyPost_ret (v := .tuple #[]) (by simp [results, Tryz.results144, go_sem]) rfl ?_
      exact ⟨d2, _, rfl, g2, hu2, h1, hwd1.set _ g1, HE.out⟩

/-- What takeDigit comes to. -/
def TakeDigit (w0 : World) (base g N n : Nat) (zs ys : List Nat) (i : Nat) (e : Ending) (w' : World) : Prop :=
  ∃ (q : Nat) (zs' : List Nat), e = .returned (u64 q) ∧ q < 18446744073709551616 ∧ w0.grownBy w' (some g) ∧ Ow w' base (.slice (some ⟨g, 0, none⟩) N N) N zs' ∧ M.Wds zs' ∧ M.Dg zs ys i n q zs'

set_option maxHeartbeats 1000000 in
set_option maxRecDepth 100000 in
theorem takeDigit_any (w0 w : World) (lo base g N i n1 c1 p n c : Nat) (A : Option Addr) (zs ys : List Nat) (hu : w0.grownBy w (some g)) (hB : Wd w0 lo A n c ys) (hne : 0 < n → ∀ b, A.map (·.block) = some b → some g ≠ some b)
    (hown : Ow w base (.slice (some ⟨g, 0, none⟩) N N) N zs) (hwd : M.Wds zs) (hN : i + n1 ≤ N) (hn : n = p + 2) (hn1 : n1 = n + 1) (htop : 9223372036854775808 ≤ ys.getD (p + 1) 0)
    (hr : M.val ((zs.drop i).take (n + 1)) < 18446744073709551616 * M.val ys) :
    Calls Tryz.prog 129 #[.slice (some ⟨g, i, none⟩) n1 c1, .slice A n c] w (TakeDigit w0 base g N n zs ys i) := by
  have b1 := hB.small
  have hl := hB.num
  obtain ⟨bb, oo, rfl, _, hc⟩ := (hB.kept hu hne).at_ (by omega)
  have hzl := hown.num
  obtain ⟨x2, hx2⟩ : ∃ x, zs.getD (i + (p + 2)) 0 = x := ⟨_, rfl⟩
  obtain ⟨x1, hx1⟩ : ∃ x, zs.getD (i + (p + 1)) 0 = x := ⟨_, rfl⟩
  obtain ⟨x0, hx0⟩ : ∃ x, zs.getD (i + p) 0 = x := ⟨_, rfl⟩
  obtain ⟨a, ha⟩ : ∃ x, ys.getD (p + 1) 0 = x := ⟨_, rfl⟩
  obtain ⟨b, hb⟩ : ∃ x, ys.getD p 0 = x := ⟨_, rfl⟩
  have c2 := hown.cellAt (i + (p + 2)) (by omega)
  have c1' := hown.cellAt (i + (p + 1)) (by omega)
  have c0 := hown.cellAt (i + p) (by omega)
  rw [cu_get (by omega), hx2] at c2
  rw [cu_get (by omega), hx1] at c1'
  rw [cu_get (by omega), hx0] at c0
  have d1 := (hc (p + 1) (by omega)).1
  have d0 := (hc p (by omega)).1
  rw [ha] at d1
  rw [hb] at d0
  rw [ha] at htop
  subst hn
  have bx1 : x1 < 18446744073709551616 := by rw [← hx1]; exact hwd.getD _
  have bx0 : x0 < 18446744073709551616 := by rw [← hx0]; exact hwd.getD _
  have ba : a < 18446744073709551616 := by rw [← ha]; exact hB.wds.getD _
  have bb2 : b < 18446744073709551616 := by rw [← hb]; exact hB.wds.getD _
  have hle := M.top_le hB.wds hl hx2 ha hr
  have CG := Lib.hid (guessDigit_any w g i bb oo n1 c1 c p x2 x1 x0 a b (by omega) hn1 c2 c1' c0 d1 d0 hle bx1 bx0 ba (by omega) bb2)
  have NEAR : Hid (∀ q, M.Gd ((x2 * 18446744073709551616 + x1) * 18446744073709551616 + x0) (a * 18446744073709551616 + b) q → M.val ((zs.drop i).take (p + 2 + 1)) / M.val ys ≤ q ∧ q ≤ M.val ((zs.drop i).take (p + 2 + 1)) / M.val ys + 1) :=
    fun q hq => M.digit_near hwd hB.wds hl hx2 hx1 hx0 ha hb (by omega) hr hq
  have HP : Hid (0 < M.val ys) := by
    show 0 < _
    rcases Nat.eq_zero_or_pos (M.val ys) with h | h
    · rw [h] at hr; omega
    · exact h
  obtain ⟨Q, hQ⟩ : ∃ Q, Q = M.val ((zs.drop i).take (p + 2 + 1)) / M.val ys := ⟨_, rfl⟩
  have HQ := Lib.hid hQ
  obtain ⟨n, hn⟩ : ∃ n, p + 2 = n := ⟨_, rfl⟩
  rw [hn] at hB hne hl b1 NEAR hn1 HQ CG ⊢
  have hm1 : n < n1 := by omega
  have hm2 : n1 ≤ n + 1 := by omega
  have HN1 := Lib.hid hn1
  have HL := Lib.hid hl
  clear hc hzl hx2 hx1 hx0 ha hb c2 c1' c0 d1 d0 bx1 bx0 ba bb2 hle htop hr hQ hn hn1 hl
  go_enter Tryz.func129, Tryz.ntmps129
  go_wp2_with fail
  refine CG.out.mono ?_
  rintro _ w1 ⟨q, rfl, HD, kk, rfl⟩
  have hu1 := only_up hu ((Up.refl w).drewN kk)
  have hown1 : Ow (w.drewN kk) base _ N zs := Ow.up hown ((Up.refl w).drewN kk)
  have hqb := HD.lt
  have hnear := NEAR.out q HD
  rw [← HQ.out] at hnear
  clear HD NEAR CG hu hown
  rcases (show q = Q ∨ q = Q + 1 by omega) with rfl | rfl
  · clear hnear
    go_wp2_with fail
    refine (takeTimes_any w0 _ lo base g N i n1 c1 n c q _ zs ys hu1 hB hne hown1 hwd hN HN1.out hqb).mono ?_
    rintro _ w2 ⟨t, b2, zs2, rfl, ht, hb2, hu2, hown2, hwd2, HS⟩
    obtain ⟨hb0, HDG⟩ := M.Dg.just HL.out hwd2 HS hb2 HQ.out
    have ht0 : t = false := by
      rcases t with _ | _
      · rfl
      · have := ht.1 rfl; omega
    subst ht0
    clear ht hb2 HS hb0 hown1 hu1
    go_wp2_with fail
    go_ret
    exact ⟨q, zs2, rfl, hqb, hu2, hown2, hwd2, HDG⟩
  · clear hnear
    go_wp2_with fail
    refine (takeTimes_any w0 _ lo base g N i n1 c1 n c (Q + 1) _ zs ys hu1 hB hne hown1 hwd hN HN1.out hqb).mono ?_
    rintro _ w2 ⟨t, b2, zs2, rfl, ht, hb2, hu2, hown2, hwd2, HS⟩
    have hb1 : b2 = 1 := M.Dg.one HL.out hwd2 HS hb2 HP.out HQ.out
    have ht1 : t = true := ht.2 hb1
    subst ht1
    have HS1 := Lib.hid HS
    clear ht hb1 HS hown1 hu1
    go_wp2_with fail
    refine (giveBack_any w0 _ lo base g N i n1 c1 n c _ zs2 ys hu2 hB hne hown2 hwd2 hN HN1.out).mono ?_
    rintro _ w3 ⟨b3, zs3, rfl, hb3, hu3, hown3, hwd3, HA⟩
    obtain ⟨_, HDG⟩ := M.Dg.back HL.out hB.wds hwd2 hwd3 HS1.out hb2 HP.out HQ.out hb3 HA
    clear HA HS1 hb2 hu2 hown2 hb3
    go_wp2_with fail
    go_ret
    exact ⟨Q, zs3, by simp, by omega, hu3, hown3, hwd3, HDG⟩
end Go.Proofs.YtjmnobgllnaljaaGreatDoor
