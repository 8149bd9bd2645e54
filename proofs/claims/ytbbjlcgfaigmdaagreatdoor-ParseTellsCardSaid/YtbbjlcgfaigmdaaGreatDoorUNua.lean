/-
  What each law shows first.
-/
import Derived.Test.YtbbjlcgfaigmdaaGreatDoorUNb
import Derived.Test.YtbbjlcgfaigmdaaGreatDoorUNa
import Derived.Test.YtbbjlcgfaigmdaaGreatDoorURfa
import Derived.Test.YtbbjlcgfaigmdaaGreatDoorUVsa
import Derived.Deep.RegionWith
namespace Go.Proofs.YtbbjlcgfaigmdaaGreatDoor
open Go.RowKit Go.Shelf

end Go.Proofs.YtbbjlcgfaigmdaaGreatDoor
namespace Go.Proofs.YtbbjlcgfaigmdaaGreatDoor
open Go.RowKit Go.Shelf

section
variable (w : World) (lo lo' s s' : Nat) (v v' : Value)
end
end Go.Proofs.YtbbjlcgfaigmdaaGreatDoor
/-
  The reference's Plus, Words: their contracts.
-/
namespace Go.Proofs.YtbbjlcgfaigmdaaGreatDoor
open Go.RowKit Go.Shelf

set_option maxHeartbeats 2000000 in
set_option maxRecDepth 100000 in
theorem plus_any (w : World) (lo lo' : Nat) (A A' : Option Addr) (n c m c' : Nat) (xs ys : List Nat) (hx : Wd w lo A n c xs) (hy : Wd w lo' A' m c' ys) (hhx : M.Hs xs) (hhy : M.Hs ys) (T : Nat) (hn : n ≤ T) (hm : m ≤ T) (hT : T ≤ 100000000) :
    Calls Tryz.prog 145 #[.slice A n c, .slice A' m c'] w (Rh (T + 1) (M.vh xs + M.vh ys) w) := by
  have b1 := hx.len
  have b2 := hy.len
  have hst : Ow (w.alloc (.cells #[] 23)) w.heap.size (.slice (some ⟨w.heap.size, 0, none⟩) 0 0) 0 [] := World.ownsRow_lit w #[] 0 (Nat.le_refl _) (by simp only [maxLen]; omega) rfl
  have hst2 := Lib.hid (M.PlInv.start xs ys)
  have hxl := Lib.hid hx.num
  have hyl := Lib.hid hy.num
  go_enter Tryz.func145, Tryz.ntmps145
  go_wp2_with fail
  go_loopw [5, 6, 7] (fun sv cv iv wr => ∃ (i cy : Nat) (hs : List Nat), i ≤ T + 1 ∧ (cy = 0 ∨ i ≤ T) ∧ cy ≤ 1 ∧ cv = u64 cy ∧ iv = .int .i64 i ∧ Up w wr ∧ w.heap.size ≤ wr.heap.size ∧ Ow wr w.heap.size sv i hs ∧ Hid (M.PlInv xs ys i cy hs)) (fun _ _ iv _ => T + 1 - (intOf iv).toNat)
  case atStart => exact ⟨0, 0, [], by omega, by omega, by omega, rfl, rfl, (Up.refl w).alloc _, by simp, hst, hst2⟩
  case round =>
    obtain ⟨i, cy, hs, hi, hcT, hcy, rfl, rfl, hu, hsz, hown, HI⟩ := hrel
    clear hst hst2
    obtain ⟨x, hxk⟩ : ∃ x, xs.getD i 0 = x := ⟨_, rfl⟩
    obtain ⟨y, hyk⟩ : ∃ y, ys.getD i 0 = y := ⟨_, rfl⟩
    have hxb : x < 4294967296 := by rw [← hxk]; exact hhx.getD i
    have hyb : y < 4294967296 := by rw [← hyk]; exact hhy.getD i
    have cx := get_any wr lo A n c xs (hx.up hu) i _ rfl
    have cy' := get_any wr lo' A' m c' ys (hy.up hu) i _ rfl
    rw [hxk] at cx
    rw [hyk] at cy'
    have CX := Lib.hid cx
    have CY := Lib.hid cy'
    obtain ⟨t, ht⟩ : ∃ t, x + y + cy = t := ⟨_, rfl⟩
    have hE := HI.out.step hxk hyk hxb hyb ht
    have htb : t ≤ 8589934591 := by omega
    have qt0 : (x : Int) + (y : Int) + (cy : Int) = (t : Int) := by omega
    obtain ⟨T0, hT0⟩ : ∃ T0, t % 4294967296 = T0 := ⟨_, rfl⟩
    obtain ⟨T1, hT1⟩ : ∃ T1, t / 4294967296 = T1 := ⟨_, rfl⟩
    rw [hT0, hT1] at hE
    have qT0 : (t : Int) % 4294967296 = (T0 : Int) := by omega
    have qT0' : (t : Int).tmod 4294967296 = (T0 : Int) := by rw [Int.tmod_eq_emod_of_nonneg (by omega)]; exact qT0
    have qT1 : (t : Int) / 4294967296 = (T1 : Int) := by omega
    have hT0b : T0 < 18446744073709551616 := by omega
    have hT1b : T1 ≤ 1 := by omega
    have hT1c : i < n ∨ i < m ∨ 0 < cy → (T1 = 0 ∨ i + 1 ≤ T) := by
      intro hgo
      rcases Nat.lt_or_ge i T with h1 | h1
      · exact .inr (by omega)
      · refine .inl ?_
        have hx0 : x = 0 := by rw [← hxk, List.getD_eq_getElem?_getD, List.getElem?_eq_none (by rw [hxl.out]; omega)]; rfl
        have hy0 : y = 0 := by rw [← hyk, List.getD_eq_getElem?_getD, List.getElem?_eq_none (by rw [hyl.out]; omega)]; rfl
        omega
    have hiT : i < n ∨ i < m ∨ 0 < cy → i ≤ T := by omega
    have HT1c := Lib.hid hT1c
    have HiT := Lib.hid hiT
    have HE := Lib.hid hE
    clear hE cx cy' hxk hyk hT0 hT1 ht hT1c hiT
    by_cases hgo : i < n ∨ i < m ∨ 0 < cy
    · have h1 := HT1c.out hgo
      have h2 := HiT.out hgo
      have hcases : i < n ∨ (¬ i < n ∧ i < m) ∨ (¬ i < n ∧ ¬ i < m ∧ 0 < cy) := by omega
      clear HI HT1c HiT hgo hcT
      rcases hcases with d1 | ⟨d1, d2⟩ | ⟨d1, d2, d3⟩
      all_goals
        have H1 := Lib.hid h1
        clear h1
        go_wp2_with fail
        refine CX.out.mono ?_
        rintro _ _ ⟨rfl, rfl⟩
        go_wp2_with fail
        refine CY.out.mono ?_
        rintro _ _ ⟨rfl, rfl⟩
        have hu2 : Up wr (wr.alloc (.cells #[.int .u64 (T0 : Int)] 23)) := (Up.refl wr).alloc _
        have hown2 := Ow.up hown hu2
        have hw2 := lit1_wd wr T0 _ rfl hT0b
        go_wp2_with (at_builtin; refine wpList_append_wd _ rfl (.tmp 35) (.tmp 38) _ rfl info_u64 w.heap.size Tryz.underlying38 _ i hs rfl hown2 _ _ 1 1 [T0] rfl hw2 (by omega) (Nat.le_trans hsz (Up.size hu2)) ?_; intro v3 w3 hown3 hg3 hat3)
        have hu3 : Up w w3 := (hu.trans hu2).grown hg3 (fun b hb => (World.ownsRow.lt hown2 b hb).1)
        go_roundw
        case rel => exact ⟨i + 1, T1, _, by omega, H1.out, hT1b, by go_num, by go_num, hu3, hu3.size, hown3, HE⟩
        case measure => simp [intOf]; omega
    · have hcy0 : cy = 0 := by omega
      subst hcy0
      have d1 : ¬ i < n := by omega
      have d2 : ¬ i < m := by omega
      have hv := HI.out.fin (by rw [hxl.out]; omega) (by rw [hyl.out]; omega)
      have hhs := HI.out.hw
      have HV := Lib.hid hv
      obtain ⟨A3, c3, rfl, hwd3⟩ := Ow.wd hown hhs.wds (by omega)
      clear hv HI HT1c HiT HE CX CY hcT hown hgo
      go_wp2_with fail
      refine (trim_hs _ _ (T + 1) _ _ _ _ hwd3 hhs _ HV hi).mono ?_
      rintro _ _ ⟨v4, rfl, rfl, h4⟩
      go_wp2_with fail
      go_ret
      exact ⟨_, rfl, h4, hu⟩

/-- Trim of a row of words: a normal number. -/
theorem trim_ws (w : World) (lo s : Nat) (A : Option Addr) (n c : Nat) (xs : List Nat) (h : Wd w lo A n c xs) (a : Nat) (ha : Hid (M.val xs = a)) (hs : n ≤ s) :
    Calls Tryz.prog 147 #[.slice A n c] w (fun e w' => ∃ v, e = .returned v ∧ w = w' ∧ Nt w lo s v a) :=
  (rtrim_any w lo A n c xs h).mono fun _ _ ⟨m, he, hw, hm, hnm, hmn, hzz⟩ => ⟨_, he, hw, A, m, c, _, rfl, hm, by
    rw [← ha.out]
    rcases Nat.lt_or_ge m xs.length with h1 | h1
    · exact M.val_take_noughts (by omega) (fun j h2 _ => hzz j h2)
    · rw [List.take_of_length_le h1], by omega, hnm⟩

set_option maxHeartbeats 2000000 in
set_option maxRecDepth 100000 in
theorem words_any (w : World) (lo : Nat) (A : Option Addr) (n c : Nat) (xs : List Nat) (hx : Wd w lo A n c xs) (hhx : M.Hs xs) (hn : n ≤ 100000000) :
    Calls Tryz.prog 97 #[.slice A n c] w (Res (n + 1) (M.vh xs) w) := by
  have b1 := hx.len
  have hst : Ow (w.alloc (.cells #[] 23)) w.heap.size (.slice (some ⟨w.heap.size, 0, none⟩) 0 0) 0 [] := World.ownsRow_lit w #[] 0 (Nat.le_refl _) (by simp only [maxLen]; omega) rfl
  have hst2 := Lib.hid (M.WoInv.start xs)
  have hxl := Lib.hid hx.num
  go_enter Tryz.func97, Tryz.ntmps97
  go_wp2_with fail
  go_loopw [3, 4] (fun sv iv wr => ∃ (k i : Nat) (ws : List Nat), 2 * k ≤ i ∧ i ≤ 2 * k ∧ i ≤ n + 1 ∧ iv = .int .i64 i ∧ Up w wr ∧ w.heap.size ≤ wr.heap.size ∧ Ow wr w.heap.size sv k ws ∧ Hid (M.WoInv xs k ws)) (fun _ iv _ => n + 1 - (intOf iv).toNat)
  case atStart => exact ⟨0, 0, [], by omega, by omega, by omega, rfl, (Up.refl w).alloc _, by simp, hst, hst2⟩
  case round =>
    obtain ⟨k, i, ws, hi1, hi2, hi, rfl, hu, hsz, hown, HI⟩ := hrel
    clear hst hst2
    by_cases hlt : i < n
    · have hcA := (hx.up hu).at_
      obtain ⟨bb, oo, rfl, _, hc⟩ := hcA (by omega)
      have hik : 2 * k = i := by omega
      obtain ⟨x, hxk⟩ : ∃ x, xs.getD i 0 = x := ⟨_, rfl⟩
      obtain ⟨y, hyk⟩ : ∃ y, xs.getD (i + 1) 0 = y := ⟨_, rfl⟩
      have hxb : x < 4294967296 := by rw [← hxk]; exact hhx.getD i
      have hyb : y < 4294967296 := by rw [← hyk]; exact hhx.getD (i + 1)
      have hc1 := (hc i hlt).1
      rw [hxk] at hc1
      obtain ⟨t, ht⟩ : ∃ t, x + y * 4294967296 = t := ⟨_, rfl⟩
      have hE := HI.out.step (by rw [hik]; exact hxk) (by rw [hik]; exact hyk) hxb hyb ht
      have htb : t < 18446744073709551616 := by omega
      have HE := Lib.hid hE
      have hu2 : Up wr (wr.alloc (.cells #[.int .u64 (t : Int)] 23)) := (Up.refl wr).alloc _
      have hown2 := Ow.up hown hu2
      have hw2 := lit1_wd wr t _ rfl htb
      by_cases hlt2 : i + 1 < n
      · have hc2 := (hc (i + 1) hlt2).1
        rw [hyk] at hc2
        have qt : (x : Int) + (y : Int) * 4294967296 = (t : Int) := by omega
        have d1 : decide ((i : Int) + 1 < (n : Int)) = true := decide_eq_true (by omega)
        clear hE hxk hyk ht hcA hc hik HI
        go_wp2_with (at_builtin; refine wpList_append_wd _ rfl (.tmp 30) (.tmp 32) _ rfl info_u64 w.heap.size Tryz.underlying38 _ k ws rfl hown2 _ _ 1 1 [t] rfl hw2 (by omega) (Nat.le_trans hsz (Up.size hu2)) ?_; intro v3 w3 hown3 hg3 hat3)
        have hu3 : Up w w3 := (hu.trans hu2).grown hg3 (fun b hb => (World.ownsRow.lt hown2 b hb).1)
        go_roundw
        case rel => exact ⟨k + 1, i + 2, _, by omega, by omega, by omega, by go_num, hu3, hu3.size, hown3, HE⟩
        case measure => simp [intOf]; omega
      · have hy0 : y = 0 := by rw [← hyk, List.getD_eq_getElem?_getD, List.getElem?_eq_none (by rw [hxl.out]; omega)]; rfl
        have hxt : x = t := by omega
        subst hxt
        have d1 : decide ((i : Int) + 1 < (n : Int)) = false := decide_eq_false (by omega)
        clear hE hxk hyk ht hcA hc hik HI hy0
        go_wp2_with (at_builtin; refine wpList_append_wd _ rfl (.tmp 30) (.tmp 32) _ rfl info_u64 w.heap.size Tryz.underlying38 _ k ws rfl hown2 _ _ 1 1 [x] rfl hw2 (by omega) (Nat.le_trans hsz (Up.size hu2)) ?_; intro v3 w3 hown3 hg3 hat3)
        have hu3 : Up w w3 := (hu.trans hu2).grown hg3 (fun b hb => (World.ownsRow.lt hown2 b hb).1)
        go_roundw
        case rel => exact ⟨k + 1, i + 2, _, by omega, by omega, by omega, by go_num, hu3, hu3.size, hown3, HE⟩
        case measure => simp [intOf]; omega
    · have hv := HI.out.fin (by rw [hxl.out]; omega)
      have hwd := HI.out.wd
      have HV := Lib.hid hv
      obtain ⟨A3, c3, rfl, hwd3⟩ := Ow.wd hown hwd (by omega)
      clear hv HI hown
      go_wp2_with fail
      refine (trim_ws _ _ (n + 1) _ _ _ _ hwd3 _ HV (by omega)).mono ?_
      rintro _ _ ⟨v4, rfl, rfl, h4⟩
      go_wp2_with fail
      go_ret
      exact ⟨_, rfl, h4, hu⟩
theorem plus_of (w : World) (lo lo' s s' S : Nat) (v v' : Value) (a b : Nat) (h : Nh w lo s v a) (h' : Nh w lo' s' v' b) (hs : s ≤ S) (hs' : s' ≤ S) (hS : S ≤ 100000000) :
    Calls Tryz.prog 145 #[v, v'] w (Rh (S + 1) (a + b) w) := by
  obtain ⟨A, n, c, xs, rfl, h1, h2, h3, h4, h5⟩ := h
  obtain ⟨A', n', c', ys, rfl, k1, k2, k3, k4, k5⟩ := h'
  have := plus_any w lo lo' A A' n c n' c' xs ys h1 k1 h2 k2 S (by omega) (by omega) hS
  rwa [h3, k3] at this
theorem words_of (w : World) (lo s : Nat) (v : Value) (a : Nat) (h : Nh w lo s v a) (hs : s ≤ 100000000) : Calls Tryz.prog 97 #[v] w (Res (s + 1) a w) := by
  obtain ⟨A, n, c, xs, rfl, h1, h2, h3, h4, h5⟩ := h
  refine (words_any w lo A n c xs h1 h2 (by omega)).mono ?_
  rintro _ w' ⟨v, rfl, hv, hu⟩
  rw [h3] at hv
  exact ⟨v, rfl, hv.more (by omega), hu⟩
end Go.Proofs.YtbbjlcgfaigmdaaGreatDoor
/-
  The reference's Number: its contract.
-/
namespace Go.Proofs.YtbbjlcgfaigmdaaGreatDoor
open Go.RowKit Go.Shelf

theorem lit_nh' (w : World) (b x : Nat) (hc : w.cell? ⟨b, 0, none⟩ = some (u64 x)) (hf : w.frozen? ⟨b, 0, none⟩ = false) (hx : x < 4294967296) (h0 : x ≠ 0) : Nh w b 1 (.slice (some ⟨b, 0, none⟩) 1 1) x :=
  ⟨_, 1, 1, [x], rfl, ⟨rfl, by omega, by omega, M.Wds.cons (by omega) M.Wds.nil, fun _ => ⟨b, 0, rfl, Nat.le_refl _, fun j hj => by
    have : j = 0 := by omega
    subst this
    exact ⟨hc, hf⟩⟩⟩, fun y hy => by simp at hy; omega, by simp [M.vh], by omega, by simp [M.Nrm, h0]⟩
/-- A word in a block of its own. -/
def Lw (w : World) (b x : Nat) : Prop := w.cell? ⟨b, 0, none⟩ = some (u64 x) ∧ w.frozen? ⟨b, 0, none⟩ = false
theorem Lw.up {w w' : World} {b x : Nat} (h : Lw w b x) (hu : Up w w') : Lw w' b x := ⟨cell_up hu h.1, frozen_up hu h.1 h.2⟩
theorem Lw.mk_ (w : World) (x : Nat) : Lw (w.alloc (.cells #[.int .u64 (x : Int)] 23)) w.heap.size x := by
  unfold Lw
  constructor <;> simp
theorem Lw.at_ (o : Obj) (w : World) (x : Nat) : Lw ((w.alloc o).alloc (.cells #[.int .u64 (x : Int)] 23)) (w.heap.size + 1) x := by
  have := Lw.mk_ (w.alloc o) x
  rwa [show (w.alloc o).heap.size = w.heap.size + 1 from Array.size_push _] at this
theorem Lw.wd {w : World} {b x : Nat} (h : Lw w b x) (hx : x < 18446744073709551616) : Wd w b (some ⟨b, 0, none⟩) 1 1 [x] :=
  ⟨rfl, by omega, by omega, M.Wds.cons hx M.Wds.nil, fun _ => ⟨b, 0, rfl, Nat.le_refl _, fun j hj => by
    have : j = 0 := by omega
    subst this
    exact h⟩⟩
theorem Lw.nh {w : World} {b x : Nat} (h : Lw w b x) (hx : x < 4294967296) (h0 : x ≠ 0) : Nh w b 1 (.slice (some ⟨b, 0, none⟩) 1 1) x := lit_nh' w b x h.1 h.2 hx h0
/-- What Number comes to. -/
def Nmb (l : List UInt8) (w : World) (e : Ending) (w' : World) : Prop := ∃ v, e = .returned (.tuple #[v, .bool (M.allD l)]) ∧ (M.allD l = true → Nh w' w.heap.size l.length v (M.vsa 0 l)) ∧ Up w w'

set_option maxHeartbeats 8000000 in
set_option maxRecDepth 100000 in
theorem number1_any (w : World) (s : ByteArray) (l : List UInt8) (hl : s.data.toList = l) (h0 : l ≠ []) (hlen : l.length ≤ 2000) (hz : l.headD 0 ≠ 48 ∨ l = [48]) :
    Calls Tryz.prog 96 #[.string s] w (Nmb l w) := by
  have hsz : s.size = l.length := by rw [← hl]; exact (Array.length_toList).symm
  have hpos : 0 < s.size := by rw [hsz]; exact List.length_pos_iff.2 h0
  have hs2 : s.size ≤ 2000 := by omega
  have hget : ∀ (i : Nat) (h : i < s.size), s[i] = l.getD i 0 := by
    intro i h
    have h1 : s[i] = s.data.toList[i]'(show i < s.data.toList.length by rw [Array.length_toList]; exact h) := rfl
    rw [h1]
    simp only [hl]
    rw [List.getD_eq_getElem?_getD, List.getElem?_eq_getElem (by omega)]
    rfl
  have h48 : (((s[0]'hpos).toNat : Int) == 48) = false ∨ ((((s[0]'hpos).toNat : Int) == 48) = true ∧ s.size = 1) := by
    rcases hz with h | h
    · left
      rw [beq_eq_false_iff_ne, hget 0 hpos]
      intro e
      apply h
      apply UInt8.toNat_inj.1
      have : (l.headD 0) = l.getD 0 0 := by cases l <;> rfl
      rw [this]
      show _ = 48
      omega
    · right
      refine ⟨?_, by rw [hsz, h]; rfl⟩
      rw [hget 0 hpos, h]
      rfl
  have HGET := Lib.hid hget
  have HSZ := Lib.hid hsz
  have d1 : decide ((s.size : Int) < 1) = false := decide_eq_false (by omega)
  have d2 : decide ((2000 : Int) < (s.size : Int)) = false := decide_eq_false (by omega)
  have hst : Nh (w.alloc (.cells #[] 23)) w.heap.size 0 (.slice (some ⟨w.heap.size, 0, none⟩) 0 0) (M.vsa 0 (l.take 0)) := ⟨_, 0, 0, [], rfl, Wd.nil _ _ _ _, (fun x hx => by cases hx), by simp [M.vh, M.vsa], by omega, M.Nrm.nil⟩
  obtain ⟨b48, hb48⟩ : ∃ b, (((s[0]'hpos).toNat : Int) == 48) = b := ⟨_, rfl⟩
  rw [hb48] at h48
  have hb1 : b48 = true → decide ((1 : Int) < (s.size : Int)) = false := by
    intro e
    rcases h48 with h | ⟨_, h⟩
    · rw [e] at h; cases h
    · exact decide_eq_false (by omega)
  have HB1 := Lib.hid hb1
  clear hget hsz hz hl h0 h48 hb1 hlen
  go_enter Tryz.func96, Tryz.ntmps96
  have goal : ∀ b, b48 = b → _ := fun b _ => True.intro
  clear goal
  rcases b48 with _ | _
  all_goals
    have d3 := HB1.out
    simp only [forall_const, Bool.false_eq_true, false_implies] at d3
    go_wp2_with fail
    clear d3 hb48 d1 d2
    go_loopw [4, 5] (fun ov iv wr => ∃ i : Nat, i ≤ s.size ∧ iv = .int .i64 i ∧ Up w wr ∧ w.heap.size ≤ wr.heap.size ∧ Nh wr w.heap.size i ov (M.vsa 0 (l.take i)) ∧ Hid (M.allD (l.take i) = true)) (fun _ iv _ => s.size - (intOf iv).toNat)
    case atStart => exact ⟨0, by omega, rfl, (Up.refl w).alloc _, by simp, hst, rfl⟩
    case round =>
      obtain ⟨i, hi, rfl, U, hsz, no, HD⟩ := hrel
      clear hst
      by_cases hlt : i < s.size
      · obtain ⟨c, hc⟩ : ∃ c, s[i] = c := ⟨_, rfl⟩
        have hcl : l.getD i 0 = c := by rw [← HGET.out i hlt, hc]
        have htake : l.take (i + 1) = l.take i ++ [c] := by
          rw [List.take_add_one, ← hcl, List.getD_eq_getElem?_getD, List.getElem?_eq_getElem (by have := HSZ.out; omega)]
          rfl
        obtain ⟨C, hC, hCb⟩ : ∃ C : Nat, c.toNat = C ∧ C < 256 := ⟨_, rfl, c.toNat_lt⟩
        have hcC : ((s[i]).toNat : Int) = (C : Int) := by rw [hc, hC]
        by_cases hdg : 48 ≤ C ∧ C ≤ 57
        · obtain ⟨dg, hdgg⟩ : ∃ dg, C - 48 = dg := ⟨_, rfl⟩
          have hD : M.isD c = true := (M.isD_iff c).2 (by rw [hC]; exact hdg)
          have HV : Hid (M.vsa 0 (l.take i) * 10 + dg = M.vsa 0 (l.take (i + 1))) := by rw [Hid, htake, M.vsa_snoc, hC, hdgg]
          have HD2 : Hid (M.allD (l.take (i + 1)) = true) := by rw [Hid, htake, M.allD_snoc, HD.out, hD]; rfl
          have hfit : M.vsa 0 (l.take (i + 1)) < 4294967296 ^ (i + 1) := by
            have := M.vsa_fit _ HD2.out
            rw [List.length_take, Nat.min_eq_left (by have := HSZ.out; omega)] at this
            exact this
          have HFIT := Lib.hid hfit
          have e1 : decide ((C : Int) < 48) = false := decide_eq_false (by omega)
          have e2 : decide ((57 : Int) < (C : Int)) = false := decide_eq_false (by omega)
          have e3 : (C : Int) - 48 = (dg : Int) := by omega
          have e4 : IntKind.u8.wrap ((C : Int) - 48) = (dg : Int) := by rw [e3]; show (dg : Int) % 256 = _; omega
          have e4' : IntKind.u8.wrap (dg : Int) = (dg : Int) := by show (dg : Int) % 256 = _; omega
          have e5 : IntKind.u64.wrap (dg : Int) = (dg : Int) := by rw [IntKind.wrap_u64]; omega
          have dgb : dg ≤ 9 := by omega
          obtain ⟨V, hV⟩ : ∃ V, M.vsa 0 (l.take i) = V := ⟨_, rfl⟩
          rw [hV] at no HV
          clear hc hcl htake hC hD hfit hdgg hV HD hdg
          go_wp2_with fail
          go_region_with (first
              | (go_at_call 146; refine (times_of _ _ _ _ _ _ _ _ _ (no.up ?_) (Lw.nh (x := 10) ?_ (by omega) (by omega)) (by omega) (by omega)).mono ?_; (repeat (first | exact Up.refl _ | refine Up.drew ?_ | refine Up.drewN ?_ _ | refine Up.alloc ?_ _)); (first | exact (Lw.mk_ wr 10).up (by (repeat (first | exact Up.refl _ | refine Up.drew ?_ | refine Up.drewN ?_ _ | refine Up.alloc ?_ _))) | exact (Lw.at_ _ wr 10).up (by (repeat (first | exact Up.refl _ | refine Up.drew ?_ | refine Up.drewN ?_ _ | refine Up.alloc ?_ _)))); rintro _ wA ⟨vA, rfl, hA, huA⟩; have uA : Up wr wA := Up.trans (by (repeat (first | exact Up.refl _ | refine Up.drew ?_ | refine Up.drewN ?_ _ | refine Up.alloc ?_ _))) huA)
              | (go_at_call 147; refine (trim_hs _ _ 1 _ 1 1 [dg] (Lw.wd (x := dg) ?_ (by omega)) (fun y hy => by simp at hy; omega) dg (by simp [Hid, M.vh]) (Nat.le_refl _)).mono ?_; (first | exact (Lw.mk_ wA dg).up (by (repeat (first | exact Up.refl _ | refine Up.drew ?_ | refine Up.drewN ?_ _ | refine Up.alloc ?_ _))) | exact (Lw.mk_ wr dg).up (Up.trans (by (repeat (first | exact Up.refl _ | refine Up.drew ?_ | refine Up.drewN ?_ _ | refine Up.alloc ?_ _))) huA) | exact (Lw.at_ _ wr dg).up (Up.trans (by (repeat (first | exact Up.refl _ | refine Up.drew ?_ | refine Up.drewN ?_ _ | refine Up.alloc ?_ _))) huA) | exact ((Lw.mk_ wr dg).up (Up.trans (by (repeat (first | exact Up.refl _ | refine Up.drew ?_ | refine Up.drewN ?_ _ | refine Up.alloc ?_ _))) huA)).up (by (repeat (first | exact Up.refl _ | refine Up.drew ?_ | refine Up.drewN ?_ _ | refine Up.alloc ?_ _))) | exact ((Lw.at_ _ wr dg).up (Up.trans (by (repeat (first | exact Up.refl _ | refine Up.drew ?_ | refine Up.drewN ?_ _ | refine Up.alloc ?_ _))) huA)).up (by (repeat (first | exact Up.refl _ | refine Up.drew ?_ | refine Up.drewN ?_ _ | refine Up.alloc ?_ _)))); rintro _ wB ⟨vB, rfl, hwB, hB⟩; subst hwB)
              | (go_at_call 145; refine (plus_of _ _ _ _ _ 3000 _ _ _ _ (hA.up ?_) (hB.up ?_) (by omega) (by omega) (by omega)).mono ?_; (repeat (first | exact Up.refl _ | refine Up.drew ?_ | refine Up.drewN ?_ _ | refine Up.alloc ?_ _)); (repeat (first | exact Up.refl _ | refine Up.drew ?_ | refine Up.drewN ?_ _ | refine Up.alloc ?_ _)); rintro _ wC ⟨vC, rfl, hC, huC⟩; have uC : Up wA wC := Up.trans (by (repeat (first | exact Up.refl _ | refine Up.drew ?_ | refine Up.drewN ?_ _ | refine Up.alloc ?_ _))) huC))
          all_goals
            rw [HV.out] at hC
            have ux := uA.trans uC
            have nx := (hC.fit HFIT.out).lower (lo' := w.heap.size) (Nat.le_trans (Up.size U) (Up.size (Up.trans uA (by first | exact Up.refl _ | (repeat (first | exact Up.refl _ | refine Up.drew ?_ | refine Up.drewN ?_ _ | refine Up.alloc ?_ _))))))
            go_wp2_with fail
            go_roundw
            case rel => exact ⟨i + 1, by omega, by go_num, U.trans ux, Nat.le_trans hsz (Up.size ux), nx, HD2⟩
            case measure => simp [intOf]; omega
        · have hD : M.isD c = false := by
            cases h : M.isD c
            · rfl
            · exact absurd ((M.isD_iff c).1 h) (by rw [hC]; exact hdg)
          have hall : M.allD l = false := by
            rw [← List.take_append_drop (i + 1) l, M.allD_append, htake, M.allD_snoc, hD]
            simp
          have HALL := Lib.hid hall
          have key : ∀ W, Up w W → Nmb l w (.returned (.tuple #[.slice none 0 0, .bool false])) W := fun W hu => ⟨_, by rw [HALL.out], (fun h => by rw [HALL.out] at h; cases h), hu⟩
          have KEY := Lib.hid key
          clear hc hcl htake hC hD hall key
          rcases (show C < 48 ∨ (¬ C < 48 ∧ 57 < C) by omega) with e1 | ⟨e1, e2⟩
          · have f1 : decide ((C : Int) < 48) = true := decide_eq_true (by omega)
            go_wp2_with fail
            go_ret2
            exact KEY.out _ U
          · have f1 : decide ((C : Int) < 48) = false := decide_eq_false (by omega)
            have f2 : decide ((57 : Int) < (C : Int)) = true := decide_eq_true (by omega)
            go_wp2_with fail
            go_ret2
            exact KEY.out _ U
      · have hin : i = s.size := by omega
        have htk : l.take i = l := List.take_of_length_le (by have := HSZ.out; omega)
        rw [htk] at no HD
        have key : Nmb l w (.returned (.tuple #[u4, .bool true])) wr := ⟨_, by rw [HD.out], fun _ => no.more (by have := HSZ.out; omega), U⟩
        have KEY := Lib.hid key
        clear key htk
        go_wp2_with fail
        go_ret2
        exact KEY.out
end Go.Proofs.YtbbjlcgfaigmdaaGreatDoor
