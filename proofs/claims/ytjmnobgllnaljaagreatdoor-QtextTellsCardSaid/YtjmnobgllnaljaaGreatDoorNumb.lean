/-
  The reference's Number: its contract.
-/
import Derived.Test.YtjmnobgllnaljaaGreatDoorFirst
import Derived.Test.YtjmnobgllnaljaaGreatDoorNa
import Derived.Test.YtjmnobgllnaljaaGreatDoorRef3
import Derived.Test.YtjmnobgllnaljaaGreatDoorRfa
import Derived.Test.YtjmnobgllnaljaaGreatDoorVsa
import Derived.Deep.RegionWith
namespace Go.Proofs.YtjmnobgllnaljaaGreatDoor
open Go.RowKit Go.Shelf

theorem lit_nh' (w : World) (b x : Nat) (hc : w.cell? ⟨b, 0, none⟩ = some (u64 x)) (hf : w.frozen? ⟨b, 0, none⟩ = false) (hx : x < 4294967296) (h0 : x ≠ 0) : Nh w b 1 (.slice (some ⟨b, 0, none⟩) 1 1) x :=
  ⟨_, 1, 1, [x], rfl, ⟨rfl, by omega, by omega, M.Wds.cons (by omega) M.Wds.nil, fun _ => ⟨b, 0, rfl, Nat.le_refl _, fun j hj => by
    have : j = 0 := by omega
    subst this
    exact ⟨hc, hf⟩⟩⟩, fun y hy => by simp at hy; omega, by simp [M.vh], by omega, by simp [M.Nrm, h0]⟩
/-- A word in a block of its own. -/
def Lw (w : World) (b x : Nat) : Prop := w.cell? ⟨b, 0, none⟩ = some (u64 x) ∧ w.frozen? ⟨b, 0, none⟩ = false
theorem Lw.up {w w' : World} {b x : Nat} (h : Lw w b x) (hu : Up w w') : Lw w' b x := ⟨cell_up hu h.1, frozen_up hu h.1 h.2⟩
theorem Lw.mk_ (w : World) (x : Nat) : Lw (w.alloc (.cells #[.int .u64 (x : Int)] 37)) w.heap.size x := by
  unfold Lw
  constructor <;> simp
theorem Lw.at_ (o : Obj) (w : World) (x : Nat) : Lw ((w.alloc o).alloc (.cells #[.int .u64 (x : Int)] 37)) (w.heap.size + 1) x := by
  have := Lw.mk_ (w.alloc o) x
  rwa [show (w.alloc o).heap.size = w.heap.size + 1 from Array.size_push _] at this
theorem Lw.wd {w : World} {b x : Nat} (h : Lw w b x) (hx : x < 18446744073709551616) : Wd w b (some ⟨b, 0, none⟩) 1 1 [x] :=
  ⟨rfl, by omega, by omega, M.Wds.cons hx M.Wds.nil, fun _ => ⟨b, 0, rfl, Nat.le_refl _, fun j hj => by
    have : j = 0 := by omega
    subst this
    exact h⟩⟩
theorem Lw.nh {w : World} {b x : Nat} (h : Lw w b x) (hx : x < 4294967296) (h0 : x ≠ 0) : Nh w b 1 (.slice (some ⟨b, 0, none⟩) 1 1) x := lit_nh' w b x h.1 h.2 hx h0
/-- What Number comes to. -/
def Nmb (l : List UInt8) (w : World) (e : Ending) (w' : World) : Prop := ∃ v, e = .returned (.tuple #[v, .bool (M.allD l)]) ∧ (M.allD l = true → Nh w' w.heap.size l.length v (M.vsa 0 l)) ∧ Up w w'

set_option maxHeartbeats 8000000 in
set_option maxRecDepth 100000 in
theorem number1_any (w : World) (s : ByteArray) (l : List UInt8) (hl : s.data.toList = l) (h0 : l ≠ []) (hlen : l.length ≤ 2000) (hz : l.headD 0 ≠ 48 ∨ l = [48]) :
    Calls Tryz.prog 24 #[.string s] w (Nmb l w) := by
  have hsz : s.size = l.length := by rw [← hl]; exact (Array.length_toList).symm
  have hpos : 0 < s.size := by rw [hsz]; exact List.length_pos_iff.2 h0
  have hs2 : s.size ≤ 2000 := by omega
  have hget : ∀ (i : Nat) (h : i < s.size), s[i] = l.getD i 0 := by
    intro i h
    have h1 : s[i] = s.data.toList[i]'(show i < s.data.toList.length by rw [Array.length_toList]; exact h) := rfl
    rw [h1]
    simp only [hl]
    rw [List.getD_eq_getElem?_getD, List.getElem?_eq_getElem (by omega)]
    rfl
  have h48 : (((s[0]'hpos).toNat : Int) == 48) = false ∨ ((((s[0]'hpos).toNat : Int) == 48) = true ∧ s.size = 1) := by
    rcases hz with h | h
    · left
      rw [beq_eq_false_iff_ne, hget 0 hpos]
      intro e
      apply h
      apply UInt8.toNat_inj.1
      have : (l.headD 0) = l.getD 0 0 := by cases l <;> rfl
      rw [this]
      show _ = 48
      omega
    · right
      refine ⟨?_, by rw [hsz, h]; rfl⟩
      rw [hget 0 hpos, h]
      rfl
  have HGET := Lib.hid hget
  have HSZ := Lib.hid hsz
  have d1 : decide ((s.size : Int) < 1) = false := decide_eq_false (by omega)
  have d2 : decide ((2000 : Int) < (s.size : Int)) = false := decide_eq_false (by omega)
  have hst : Nh (w.alloc (.cells #[] 37)) w.heap.size 0 (.slice (some ⟨w.heap.size, 0, none⟩) 0 0) (M.vsa 0 (l.take 0)) := ⟨_, 0, 0, [], rfl, Wd.nil _ _ _ _, (fun x hx => by cases hx), by simp [M.vh, M.vsa], by omega, M.Nrm.nil⟩
  obtain ⟨b48, hb48⟩ : ∃ b, (((s[0]'hpos).toNat : Int) == 48) = b := ⟨_, rfl⟩
  rw [hb48] at h48
  have hb1 : b48 = true → decide ((1 : Int) < (s.size : Int)) = false := by
    intro e
    rcases h48 with h | ⟨_, h⟩
    · rw [e] at h; cases h
    · exact decide_eq_false (by omega)
  have HB1 := Lib.hid hb1
  clear hget hsz hz hl h0 h48 hb1 hlen
  go_enter Tryz.func24, Tryz.ntmps24
  have goal : ∀ b, b48 = b → _ := fun b _ => True.intro
  clear goal
  rcases b48 with _ | _
  all_goals
    have d3 := HB1.out
    simp only [forall_const, Bool.false_eq_true, false_implies] at d3
    go_wp2_with fail
    clear d3 hb48 d1 d2
    go_loopw [4, 5] (fun ov iv wr => ∃ i : Nat, i ≤ s.size ∧ iv = .int .i64 i ∧ Up w wr ∧ w.heap.size ≤ wr.heap.size ∧ Nh wr w.heap.size i ov (M.vsa 0 (l.take i)) ∧ Hid (M.allD (l.take i) = true)) (fun _ iv _ => s.size - (intOf iv).toNat)
    case atStart => exact ⟨0, by omega, rfl, (Up.refl w).alloc _, by simp, hst, rfl⟩
    case round =>
      obtain ⟨i, hi, rfl, U, hsz, no, HD⟩ := hrel
      clear hst
      by_cases hlt : i < s.size
      · obtain ⟨c, hc⟩ : ∃ c, s[i] = c := ⟨_, rfl⟩
        have hcl : l.getD i 0 = c := by rw [← HGET.out i hlt, hc]
        have htake : l.take (i + 1) = l.take i ++ [c] := by
          rw [List.take_add_one, ← hcl, List.getD_eq_getElem?_getD, List.getElem?_eq_getElem (by have := HSZ.out; omega)]
          rfl
        obtain ⟨C, hC, hCb⟩ : ∃ C : Nat, c.toNat = C ∧ C < 256 := ⟨_, rfl, c.toNat_lt⟩
        have hcC : ((s[i]).toNat : Int) = (C : Int) := by rw [hc, hC]
        by_cases hdg : 48 ≤ C ∧ C ≤ 57
        · obtain ⟨dg, hdgg⟩ : ∃ dg, C - 48 = dg := ⟨_, rfl⟩
          have hD : M.isD c = true := (M.isD_iff c).2 (by rw [hC]; exact hdg)
          have HV : Hid (M.vsa 0 (l.take i) * 10 + dg = M.vsa 0 (l.take (i + 1))) := by rw [Hid, htake, M.vsa_snoc, hC, hdgg]
          have HD2 : Hid (M.allD (l.take (i + 1)) = true) := by rw [Hid, htake, M.allD_snoc, HD.out, hD]; rfl
          have hfit : M.vsa 0 (l.take (i + 1)) < 4294967296 ^ (i + 1) := by
            have := M.vsa_fit _ HD2.out
            rw [List.length_take, Nat.min_eq_left (by have := HSZ.out; omega)] at this
            exact this
          have HFIT := Lib.hid hfit
          have e1 : decide ((C : Int) < 48) = false := decide_eq_false (by omega)
          have e2 : decide ((57 : Int) < (C : Int)) = false := decide_eq_false (by omega)
          have e3 : (C : Int) - 48 = (dg : Int) := by omega
          have e4 : IntKind.u8.wrap ((C : Int) - 48) = (dg : Int) := by rw [e3]; show (dg : Int) % 256 = _; omega
          have e4' : IntKind.u8.wrap (dg : Int) = (dg : Int) := by show (dg : Int) % 256 = _; omega
          have e5 : IntKind.u64.wrap (dg : Int) = (dg : Int) := by rw [IntKind.wrap_u64]; omega
          have dgb : dg ≤ 9 := by omega
          obtain ⟨V, hV⟩ : ∃ V, M.vsa 0 (l.take i) = V := ⟨_, rfl⟩
          rw [hV] at no HV
          clear hc hcl htake hC hD hfit hdgg hV HD hdg
          go_wp2_with fail
          go_region_with (first
              | (go_at_call 50; refine (times_of _ _ _ _ _ _ _ _ _ (no.up ?_) (Lw.nh (x := 10) ?_ (by omega) (by omega)) (by omega) (by omega)).mono ?_; (repeat (first | exact Up.refl _ | refine Up.drew ?_ | refine Up.drewN ?_ _ | refine Up.alloc ?_ _)); (first | exact (Lw.mk_ wr 10).up (by (repeat (first | exact Up.refl _ | refine Up.drew ?_ | refine Up.drewN ?_ _ | refine Up.alloc ?_ _))) | exact (Lw.at_ _ wr 10).up (by (repeat (first | exact Up.refl _ | refine Up.drew ?_ | refine Up.drewN ?_ _ | refine Up.alloc ?_ _)))); rintro _ wA ⟨vA, rfl, hA, huA⟩; have uA : Up wr wA := Up.trans (by (repeat (first | exact Up.refl _ | refine Up.drew ?_ | refine Up.drewN ?_ _ | refine Up.alloc ?_ _))) huA)
              | (go_at_call 48; refine (trim_hs _ _ 1 _ 1 1 [dg] (Lw.wd (x := dg) ?_ (by omega)) (fun y hy => by simp at hy; omega) dg (by simp [Hid, M.vh]) (Nat.le_refl _)).mono ?_; (first | exact (Lw.mk_ wA dg).up (by (repeat (first | exact Up.refl _ | refine Up.drew ?_ | refine Up.drewN ?_ _ | refine Up.alloc ?_ _))) | exact (Lw.mk_ wr dg).up (Up.trans (by (repeat (first | exact Up.refl _ | refine Up.drew ?_ | refine Up.drewN ?_ _ | refine Up.alloc ?_ _))) huA) | exact (Lw.at_ _ wr dg).up (Up.trans (by (repeat (first | exact Up.refl _ | refine Up.drew ?_ | refine Up.drewN ?_ _ | refine Up.alloc ?_ _))) huA) | exact ((Lw.mk_ wr dg).up (Up.trans (by (repeat (first | exact Up.refl _ | refine Up.drew ?_ | refine Up.drewN ?_ _ | refine Up.alloc ?_ _))) huA)).up (by (repeat (first | exact Up.refl _ | refine Up.drew ?_ | refine Up.drewN ?_ _ | refine Up.alloc ?_ _))) | exact ((Lw.at_ _ wr dg).up (Up.trans (by (repeat (first | exact Up.refl _ | refine Up.drew ?_ | refine Up.drewN ?_ _ | refine Up.alloc ?_ _))) huA)).up (by (repeat (first | exact Up.refl _ | refine Up.drew ?_ | refine Up.drewN ?_ _ | refine Up.alloc ?_ _)))); rintro _ wB ⟨vB, rfl, hwB, hB⟩; subst hwB)
              | (go_at_call 49; refine (plus_of _ _ _ _ _ 3000 _ _ _ _ (hA.up ?_) (hB.up ?_) (by omega) (by omega) (by omega)).mono ?_; (repeat (first | exact Up.refl _ | refine Up.drew ?_ | refine Up.drewN ?_ _ | refine Up.alloc ?_ _)); (repeat (first | exact Up.refl _ | refine Up.drew ?_ | refine Up.drewN ?_ _ | refine Up.alloc ?_ _)); rintro _ wC ⟨vC, rfl, hC, huC⟩; have uC : Up wA wC := Up.trans (by (repeat (first | exact Up.refl _ | refine Up.drew ?_ | refine Up.drewN ?_ _ | refine Up.alloc ?_ _))) huC))
          all_goals
            rw [HV.out] at hC
            have ux := uA.trans uC
            have nx := (hC.fit HFIT.out).lower (lo' := w.heap.size) (Nat.le_trans (Up.size U) (Up.size (Up.trans uA (by first | exact Up.refl _ | (repeat (first | exact Up.refl _ | refine Up.drew ?_ | refine Up.drewN ?_ _ | refine Up.alloc ?_ _))))))
            go_wp2_with fail
            go_roundw
            case rel => exact ⟨i + 1, by omega, by go_num, U.trans ux, Nat.le_trans hsz (Up.size ux), nx, HD2⟩
            case measure => simp [intOf]; omega
        · have hD : M.isD c = false := by
            cases h : M.isD c
            · rfl
            · exact absurd ((M.isD_iff c).1 h) (by rw [hC]; exact hdg)
          have hall : M.allD l = false := by
            rw [← List.take_append_drop (i + 1) l, M.allD_append, htake, M.allD_snoc, hD]
            simp
          have HALL := Lib.hid hall
          have key : ∀ W, Up w W → Nmb l w (.returned (.tuple #[.slice none 0 0, .bool false])) W := fun W hu => ⟨_, by rw [HALL.out], (fun h => by rw [HALL.out] at h; cases h), hu⟩
          have KEY := Lib.hid key
          clear hc hcl htake hC hD hall key
          rcases (show C < 48 ∨ (¬ C < 48 ∧ 57 < C) by omega) with e1 | ⟨e1, e2⟩
          · have f1 : decide ((C : Int) < 48) = true := decide_eq_true (by omega)
            go_wp2_with fail
            go_ret2
            exact KEY.out _ U
          · have f1 : decide ((C : Int) < 48) = false := decide_eq_false (by omega)
            have f2 : decide ((57 : Int) < (C : Int)) = true := decide_eq_true (by omega)
            go_wp2_with fail
            go_ret2
            exact KEY.out _ U
      · have hin : i = s.size := by omega
        have htk : l.take i = l := List.take_of_length_le (by have := HSZ.out; omega)
        rw [htk] at no HD
        have key : Nmb l w (.returned (.tuple #[u4, .bool true])) wr := ⟨_, by rw [HD.out], fun _ => no.more (by have := HSZ.out; omega), U⟩
        have KEY := Lib.hid key
        clear key htk
        go_wp2_with fail
        go_ret2
        exact KEY.out
end Go.Proofs.YtjmnobgllnaljaaGreatDoor
