/-
  The reference's Plus, Words: their contracts.
-/
import Derived.Test.YtjmnobgllnaljaaGreatDoorRfa
namespace Go.Proofs.YtjmnobgllnaljaaGreatDoor
open Go.RowKit Go.Shelf

set_option maxHeartbeats 2000000 in
set_option maxRecDepth 100000 in
theorem plus_any (w : World) (lo lo' : Nat) (A A' : Option Addr) (n c m c' : Nat) (xs ys : List Nat) (hx : Wd w lo A n c xs) (hy : Wd w lo' A' m c' ys) (hhx : M.Hs xs) (hhy : M.Hs ys) (T : Nat) (hn : n ≤ T) (hm : m ≤ T) (hT : T ≤ 100000000) :
    Calls Tryz.prog 49 #[.slice A n c, .slice A' m c'] w (Rh (T + 1) (M.vh xs + M.vh ys) w) := by
  have b1 := hx.len
  have b2 := hy.len
  have hst : Ow (w.alloc (.cells #[] 37)) w.heap.size (.slice (some ⟨w.heap.size, 0, none⟩) 0 0) 0 [] := World.ownsRow_lit w #[] 0 (Nat.le_refl _) (by simp only [maxLen]; omega) rfl
  have hst2 := Lib.hid (M.PlInv.start xs ys)
  have hxl := Lib.hid hx.num
  have hyl := Lib.hid hy.num
  go_enter Tryz.func49, Tryz.ntmps49
  go_wp2_with fail
  go_loopw [5, 6, 7] (fun sv cv iv wr => ∃ (i cy : Nat) (hs : List Nat), i ≤ T + 1 ∧ (cy = 0 ∨ i ≤ T) ∧ cy ≤ 1 ∧ cv = u64 cy ∧ iv = .int .i64 i ∧ Up w wr ∧ w.heap.size ≤ wr.heap.size ∧ Ow wr w.heap.size sv i hs ∧ Hid (M.PlInv xs ys i cy hs)) (fun _ _ iv _ => T + 1 - (intOf iv).toNat)
  case atStart => exact ⟨0, 0, [], by omega, by omega, by omega, rfl, rfl, (Up.refl w).alloc _, by simp, hst, hst2⟩
  case round =>
    obtain ⟨i, cy, hs, hi, hcT, hcy, rfl, rfl, hu, hsz, hown, HI⟩ := hrel
    clear hst hst2
    obtain ⟨x, hxk⟩ : ∃ x, xs.getD i 0 = x := ⟨_, rfl⟩
    obtain ⟨y, hyk⟩ : ∃ y, ys.getD i 0 = y := ⟨_, rfl⟩
    have hxb : x < 4294967296 := by rw [← hxk]; exact hhx.getD i
    have hyb : y < 4294967296 := by rw [← hyk]; exact hhy.getD i
    have cx := get_any wr lo A n c xs (hx.up hu) i _ rfl
    have cy' := get_any wr lo' A' m c' ys (hy.up hu) i _ rfl
    rw [hxk] at cx
    rw [hyk] at cy'
    have CX := Lib.hid cx
    have CY := Lib.hid cy'
    obtain ⟨t, ht⟩ : ∃ t, x + y + cy = t := ⟨_, rfl⟩
    have hE := HI.out.step hxk hyk hxb hyb ht
    have htb : t ≤ 8589934591 := by omega
    have qt0 : (x : Int) + (y : Int) + (cy : Int) = (t : Int) := by omega
    obtain ⟨T0, hT0⟩ : ∃ T0, t % 4294967296 = T0 := ⟨_, rfl⟩
    obtain ⟨T1, hT1⟩ : ∃ T1, t / 4294967296 = T1 := ⟨_, rfl⟩
    rw [hT0, hT1] at hE
    have qT0 : (t : Int) % 4294967296 = (T0 : Int) := by omega
    have qT0' : (t : Int).tmod 4294967296 = (T0 : Int) := by rw [Int.tmod_eq_emod_of_nonneg (by omega)]; exact qT0
    have qT1 : (t : Int) / 4294967296 = (T1 : Int) := by omega
    have hT0b : T0 < 18446744073709551616 := by omega
    have hT1b : T1 ≤ 1 := by omega
    have hT1c : i < n ∨ i < m ∨ 0 < cy → (T1 = 0 ∨ i + 1 ≤ T) := by
      intro hgo
      rcases Nat.lt_or_ge i T with h1 | h1
      · exact .inr (by omega)
      · refine .inl ?_
        have hx0 : x = 0 := by rw [← hxk, List.getD_eq_getElem?_getD, List.getElem?_eq_none (by rw [hxl.out]; omega)]; rfl
        have hy0 : y = 0 := by rw [← hyk, List.getD_eq_getElem?_getD, List.getElem?_eq_none (by rw [hyl.out]; omega)]; rfl
        omega
    have hiT : i < n ∨ i < m ∨ 0 < cy → i ≤ T := by omega
    have HT1c := Lib.hid hT1c
    have HiT := Lib.hid hiT
    have HE := Lib.hid hE
    clear hE cx cy' hxk hyk hT0 hT1 ht hT1c hiT
    by_cases hgo : i < n ∨ i < m ∨ 0 < cy
    · have h1 := HT1c.out hgo
      have h2 := HiT.out hgo
      have hcases : i < n ∨ (¬ i < n ∧ i < m) ∨ (¬ i < n ∧ ¬ i < m ∧ 0 < cy) := by omega
      clear HI HT1c HiT hgo hcT
      rcases hcases with d1 | ⟨d1, d2⟩ | ⟨d1, d2, d3⟩
      all_goals
        have H1 := Lib.hid h1
        clear h1
        go_wp2_with fail
        refine CX.out.mono ?_
        rintro _ _ ⟨rfl, rfl⟩
        go_wp2_with fail
        refine CY.out.mono ?_
        rintro _ _ ⟨rfl, rfl⟩
        have hu2 : Up wr (wr.alloc (.cells #[.int .u64 (T0 : Int)] 37)) := (Up.refl wr).alloc _
        have hown2 := Ow.up hown hu2
        have hw2 := lit1_wd wr T0 _ rfl hT0b
        go_wp2_with (at_builtin; refine wpList_append_wd _ rfl (.tmp 35) (.tmp 38) _ rfl info_u64 w.heap.size Tryz.underlying22 _ i hs rfl hown2 _ _ 1 1 [T0] rfl hw2 (by omega) (Nat.le_trans hsz (Up.size hu2)) ?_; intro v3 w3 hown3 hg3 hat3)
        have hu3 : Up w w3 := (hu.trans hu2).grown hg3 (fun b hb => (World.ownsRow.lt hown2 b hb).1)
        go_roundw
        case rel => exact ⟨i + 1, T1, _, by omega, H1.out, hT1b, by go_num, by go_num, hu3, hu3.size, hown3, HE⟩
        case measure => simp [intOf]; omega
    · have hcy0 : cy = 0 := by omega
      subst hcy0
      have d1 : ¬ i < n := by omega
      have d2 : ¬ i < m := by omega
      have hv := HI.out.fin (by rw [hxl.out]; omega) (by rw [hyl.out]; omega)
      have hhs := HI.out.hw
      have HV := Lib.hid hv
      obtain ⟨A3, c3, rfl, hwd3⟩ := Ow.wd hown hhs.wds (by omega)
      clear hv HI HT1c HiT HE CX CY hcT hown hgo
      go_wp2_with fail
      refine (trim_hs _ _ (T + 1) _ _ _ _ hwd3 hhs _ HV hi).mono ?_
      rintro _ _ ⟨v4, rfl, rfl, h4⟩
      go_wp2_with fail
      go_ret
      exact ⟨_, rfl, h4, hu⟩

/-- Trim of a row of words: a normal number. -/
theorem trim_ws (w : World) (lo s : Nat) (A : Option Addr) (n c : Nat) (xs : List Nat) (h : Wd w lo A n c xs) (a : Nat) (ha : Hid (M.val xs = a)) (hs : n ≤ s) :
    Calls Tryz.prog 48 #[.slice A n c] w (fun e w' => ∃ v, e = .returned v ∧ w = w' ∧ Nt w lo s v a) :=
  (rtrim_any w lo A n c xs h).mono fun _ _ ⟨m, he, hw, hm, hnm, hmn, hzz⟩ => ⟨_, he, hw, A, m, c, _, rfl, hm, by
    rw [← ha.out]
    rcases Nat.lt_or_ge m xs.length with h1 | h1
    · exact M.val_take_noughts (by omega) (fun j h2 _ => hzz j h2)
    · rw [List.take_of_length_le h1], by omega, hnm⟩

set_option maxHeartbeats 2000000 in
set_option maxRecDepth 100000 in
theorem words_any (w : World) (lo : Nat) (A : Option Addr) (n c : Nat) (xs : List Nat) (hx : Wd w lo A n c xs) (hhx : M.Hs xs) (hn : n ≤ 100000000) :
    Calls Tryz.prog 25 #[.slice A n c] w (Res (n + 1) (M.vh xs) w) := by
  have b1 := hx.len
  have hst : Ow (w.alloc (.cells #[] 37)) w.heap.size (.slice (some ⟨w.heap.size, 0, none⟩) 0 0) 0 [] := World.ownsRow_lit w #[] 0 (Nat.le_refl _) (by simp only [maxLen]; omega) rfl
  have hst2 := Lib.hid (M.WoInv.start xs)
  have hxl := Lib.hid hx.num
  go_enter Tryz.func25, Tryz.ntmps25
  go_wp2_with fail
  go_loopw [3, 4] (fun sv iv wr => ∃ (k i : Nat) (ws : List Nat), 2 * k ≤ i ∧ i ≤ 2 * k ∧ i ≤ n + 1 ∧ iv = .int .i64 i ∧ Up w wr ∧ w.heap.size ≤ wr.heap.size ∧ Ow wr w.heap.size sv k ws ∧ Hid (M.WoInv xs k ws)) (fun _ iv _ => n + 1 - (intOf iv).toNat)
  case atStart => exact ⟨0, 0, [], by omega, by omega, by omega, rfl, (Up.refl w).alloc _, by simp, hst, hst2⟩
  case round =>
    obtain ⟨k, i, ws, hi1, hi2, hi, rfl, hu, hsz, hown, HI⟩ := hrel
    clear hst hst2
    by_cases hlt : i < n
    · have hcA := (hx.up hu).at_
      obtain ⟨bb, oo, rfl, _, hc⟩ := hcA (by omega)
      have hik : 2 * k = i := by omega
      obtain ⟨x, hxk⟩ : ∃ x, xs.getD i 0 = x := ⟨_, rfl⟩
      obtain ⟨y, hyk⟩ : ∃ y, xs.getD (i + 1) 0 = y := ⟨_, rfl⟩
      have hxb : x < 4294967296 := by rw [← hxk]; exact hhx.getD i
      have hyb : y < 4294967296 := by rw [← hyk]; exact hhx.getD (i + 1)
      have hc1 := (hc i hlt).1
      rw [hxk] at hc1
      obtain ⟨t, ht⟩ : ∃ t, x + y * 4294967296 = t := ⟨_, rfl⟩
      have hE := HI.out.step (by rw [hik]; exact hxk) (by rw [hik]; exact hyk) hxb hyb ht
      have htb : t < 18446744073709551616 := by omega
      have HE := Lib.hid hE
      have hu2 : Up wr (wr.alloc (.cells #[.int .u64 (t : Int)] 37)) := (Up.refl wr).alloc _
      have hown2 := Ow.up hown hu2
      have hw2 := lit1_wd wr t _ rfl htb
      by_cases hlt2 : i + 1 < n
      · have hc2 := (hc (i + 1) hlt2).1
        rw [hyk] at hc2
        have qt : (x : Int) + (y : Int) * 4294967296 = (t : Int) := by omega
        have d1 : decide ((i : Int) + 1 < (n : Int)) = true := decide_eq_true (by omega)
        clear hE hxk hyk ht hcA hc hik HI
        go_wp2_with (at_builtin; refine wpList_append_wd _ rfl (.tmp 30) (.tmp 32) _ rfl info_u64 w.heap.size Tryz.underlying22 _ k ws rfl hown2 _ _ 1 1 [t] rfl hw2 (by omega) (Nat.le_trans hsz (Up.size hu2)) ?_; intro v3 w3 hown3 hg3 hat3)
        have hu3 : Up w w3 := (hu.trans hu2).grown hg3 (fun b hb => (World.ownsRow.lt hown2 b hb).1)
        go_roundw
        case rel => exact ⟨k + 1, i + 2, _, by omega, by omega, by omega, by go_num, hu3, hu3.size, hown3, HE⟩
        case measure => simp [intOf]; omega
      · have hy0 : y = 0 := by rw [← hyk, List.getD_eq_getElem?_getD, List.getElem?_eq_none (by rw [hxl.out]; omega)]; rfl
        have hxt : x = t := by omega
        subst hxt
        have d1 : decide ((i : Int) + 1 < (n : Int)) = false := decide_eq_false (by omega)
        clear hE hxk hyk ht hcA hc hik HI hy0
        go_wp2_with (at_builtin; refine wpList_append_wd _ rfl (.tmp 30) (.tmp 32) _ rfl info_u64 w.heap.size Tryz.underlying22 _ k ws rfl hown2 _ _ 1 1 [x] rfl hw2 (by omega) (Nat.le_trans hsz (Up.size hu2)) ?_; intro v3 w3 hown3 hg3 hat3)
        have hu3 : Up w w3 := (hu.trans hu2).grown hg3 (fun b hb => (World.ownsRow.lt hown2 b hb).1)
        go_roundw
        case rel => exact ⟨k + 1, i + 2, _, by omega, by omega, by omega, by go_num, hu3, hu3.size, hown3, HE⟩
        case measure => simp [intOf]; omega
    · have hv := HI.out.fin (by rw [hxl.out]; omega)
      have hwd := HI.out.wd
      have HV := Lib.hid hv
      obtain ⟨A3, c3, rfl, hwd3⟩ := Ow.wd hown hwd (by omega)
      clear hv HI hown
      go_wp2_with fail
      refine (trim_ws _ _ (n + 1) _ _ _ _ hwd3 _ HV (by omega)).mono ?_
      rintro _ _ ⟨v4, rfl, rfl, h4⟩
      go_wp2_with fail
      go_ret
      exact ⟨_, rfl, h4, hu⟩
theorem plus_of (w : World) (lo lo' s s' S : Nat) (v v' : Value) (a b : Nat) (h : Nh w lo s v a) (h' : Nh w lo' s' v' b) (hs : s ≤ S) (hs' : s' ≤ S) (hS : S ≤ 100000000) :
    Calls Tryz.prog 49 #[v, v'] w (Rh (S + 1) (a + b) w) := by
  obtain ⟨A, n, c, xs, rfl, h1, h2, h3, h4, h5⟩ := h
  obtain ⟨A', n', c', ys, rfl, k1, k2, k3, k4, k5⟩ := h'
  have := plus_any w lo lo' A A' n c n' c' xs ys h1 k1 h2 k2 S (by omega) (by omega) hS
  rwa [h3, k3] at this
theorem words_of (w : World) (lo s : Nat) (v : Value) (a : Nat) (h : Nh w lo s v a) (hs : s ≤ 100000000) : Calls Tryz.prog 25 #[v] w (Res (s + 1) a w) := by
  obtain ⟨A, n, c, xs, rfl, h1, h2, h3, h4, h5⟩ := h
  refine (words_any w lo A n c xs h1 h2 (by omega)).mono ?_
  rintro _ w' ⟨v, rfl, hv, hu⟩
  rw [h3] at hv
  exact ⟨v, rfl, hv.more (by omega), hu⟩
end Go.Proofs.YtjmnobgllnaljaaGreatDoor
