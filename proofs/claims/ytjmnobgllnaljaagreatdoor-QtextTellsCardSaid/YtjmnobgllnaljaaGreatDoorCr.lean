/-
  Package qtext: Text's contract.
-/
import Derived.Test.YtjmnobgllnaljaaGreatDoorCc
import Derived.Test.YtjmnobgllnaljaaGreatDoorCo
import Derived.Test.YtjmnobgllnaljaaGreatDoorCq
import Derived.Test.YtjmnobgllnaljaaGreatDoorShr
namespace Go.Proofs.YtjmnobgllnaljaaGreatDoor
open Go.RowKit Go.Shelf
set_option linter.unusedVariables false
set_option linter.unusedSimpArgs false

theorem qtrr_any (w : World) (s : ByteArray) (l : List UInt8) (hs : Tx s l) (hl : s.size ≤ 9223372036854775807) : Calls Tryz.prog 75 #[.string s, .string ⟨#[48]⟩] w (fun e w' => ∃ t, e = .returned (.string t) ∧ Tx t (M.tz l) ∧ w = w') := by
  refine (Tryz.strings_TrimRight_one s 48 (by decide) w hl).mono ?_
  rintro _ _ ⟨rfl, rfl⟩
  rw [show s.data.toList = l from hs]
  exact ⟨_, rfl, Tx.lit (M.tz l), rfl⟩
theorem M.rep16 : ∀ n : Nat, Lib.repeatL [48] n = List.replicate n 48
  | 0 => rfl
  | n + 1 => by
    rw [List.replicate_succ, ← M.rep16 n]
    rfl
/-- Text of noughts. -/
theorem qrep_any (w : World) (n : Nat) (h : n ≤ 20000) : Calls Tryz.prog 45 #[.string ⟨#[48]⟩, .int .i64 (n : Int)] w (Tex (List.replicate n 48) w) := by
  have CR := repeat_any ⟨#[48]⟩ n w (by omega) (by show 1 * n ≤ _; omega)
  rw [show (⟨#[48]⟩ : ByteArray).data.toList = [48] from rfl, M.rep16] at CR
  refine CR.mono ?_
  rintro _ w' ⟨rfl, u⟩
  exact ⟨_, rfl, Tx.lit _, u⟩
theorem M.bhd_len {r E : Nat} (hE : E ≤ 1200) (h : r < 2 ^ E) : (M.bhd r E).length ≤ 5000 := by
  unfold M.bhd
  by_cases h0 : r = 0
  · rw [if_pos h0]; exact Nat.zero_le _
  · rw [if_neg h0]
    have hPl : r * 5 ^ E < 10 ^ E := by rw [← M.two_five]; exact Nat.mul_lt_mul_of_pos_right h (Nat.pow_pos (by decide))
    have hl := M.dd_len hPl (by
      have := Nat.mul_pos (Nat.pos_of_ne_zero h0) (Nat.pow_pos (n := E) (show 0 < 5 by decide))
      omega)
    have := M.tz_len (Lib.decDigits (r * 5 ^ E))
    rw [List.length_cons, List.length_append, List.length_replicate]
    omega
theorem M.c_2560 : (2 : Nat) ^ 2560 ≤ 10 ^ 800 := by decide +kernel
theorem M.dd_wid {w : World} {lo : Nat} {v : Value} {a : Nat} (h : Nt w lo 40 v a) (b : Nat) (hb : b ≤ a) : (Lib.decDigits b).length ≤ 5000 := by
  by_cases b0 : b = 0
  · rw [b0, M.dd_zero]; show 1 ≤ 5000; omega
  · have h1 := Nat.lt_of_le_of_lt hb (M.words_two (s := 40) (k := 2560) h.nw.lt rfl)
    have hc := M.c_2560
    have key : ∀ p q : Nat, q ≤ 800 → 2 ^ p ≤ 10 ^ q → b < 2 ^ p → (Lib.decDigits b).length ≤ 5000 := fun p q hq h1 h2 => by
      have := M.dd_len (Nat.lt_of_lt_of_le h2 h1) b0
      omega
    exact key 2560 800 (Nat.le_refl _) hc h1
set_option maxHeartbeats 1000000 in
theorem isnear_any (w : World) (e : Int) (t : Bool) (ht : Hid (decide (-1200 ≤ e ∧ e ≤ 1200) = t)) : Calls Tryz.prog 21 #[.int .i64 e] w (Same (.bool t) w) := by
  by_cases h1 : -1200 ≤ e
  · have d1 : decide (-1200 ≤ e) = true := decide_eq_true h1
    obtain ⟨r, hr⟩ : ∃ r, decide (e ≤ 1200) = r := ⟨_, rfl⟩
    have e2 : r = t := by rw [← ht.out, ← hr]; simp [h1]
    subst e2
    clear ht
    go_enter Tryz.func21, Tryz.ntmps21
    go_wp2_with fail
    go_ret
    exact ⟨rfl, rfl⟩
  · have d1 : decide (-1200 ≤ e) = false := decide_eq_false h1
    have e2 : t = false := by rw [← ht.out]; simp [h1]
    subst e2
    clear ht h1
    go_enter Tryz.func21, Tryz.ntmps21
    go_wp2_with fail
    go_ret
    exact ⟨rfl, rfl⟩
set_option maxHeartbeats 4000000 in
set_option maxRecDepth 100000 in
theorem behind_any (w : World) (TW : TabW w) (lo : Nat) (v : Value) (left E : Nat) (h : Nt w lo 40 v left) (hE : E ≤ 1200) (hlt : left < 2 ^ E) :
    Calls Tryz.prog 47 #[v, .int .i64 (E : Int)] w (Tex (M.bhd left E) w) := by
  have U := Up.refl w
  obtain ⟨A, n, c, rfl, h⟩ := h.slr
  by_cases h0 : left = 0
  · have CB := Lib.hid (bits_at2 w lo 40 _ left 0 h.nw (Lib.hid (by rw [h0]; rfl)))
    have HE : Hid (M.bhd left E = []) := if_pos h0
    clear h TW hlt hE h0
    go_enter Tryz.func47, Tryz.ntmps47
    go_wp2_with fail
    refine CB.out.mono ?_
    rintro _ _ ⟨rfl, rfl⟩
    go_wp2_with fail
    go_ret
    exact ⟨_, rfl, (Tx.lit []).to16 HE.out.symm, by first | exact U | exact U.drew | exact U.drewN _⟩
  · obtain ⟨B, hB⟩ : ∃ B : Int, (M.bits left : Int) = B := ⟨_, rfl⟩
    have hB0 : 0 < B := by rw [← hB]; have := M.bits_pos h0; omega
    have hB1 : (B == 0) = false := by rw [beq_eq_false_iff_ne]; omega
    have CB := Lib.hid (bits_at2 w lo 40 _ left B h.nw (Lib.hid hB))
    have CP := Lib.hid (fun W => pow_any W 5 E (E : Int) (by omega) (by omega))
    obtain ⟨P, hP⟩ : ∃ P, left * 5 ^ E = P := ⟨_, rfl⟩
    have CM := Lib.hid (fun W (u : Up w W) lo' v' (N : Nt W lo' (E + 1) v' (5 ^ E)) => mul_any W lo lo' 40 (E + 1) _ v' left (5 ^ E) (h.up u).nw N.nw (by omega) (by omega))
    rw [hP] at CM
    have P0 : P ≠ 0 := by
      rw [← hP]
      have := Nat.mul_pos (Nat.pos_of_ne_zero h0) (Nat.pow_pos (n := E) (show 0 < 5 by decide))
      omega
    have hPl : P < 10 ^ E := by rw [← hP, ← M.two_five]; exact Nat.mul_lt_mul_of_pos_right hlt (Nat.pow_pos (by decide))
    have hl := M.dd_len hPl P0
    obtain ⟨D, hD⟩ : ∃ D, Lib.decDigits P = D := ⟨_, rfl⟩
    rw [hD] at hl
    obtain ⟨S, hS⟩ : ∃ S : ByteArray, ⟨D.toArray⟩ = S := ⟨_, rfl⟩
    have tS : Tx S D := by rw [← hS]; exact Tx.lit D
    have sS := tS.size
    obtain ⟨Z, hZ⟩ : ∃ Z : Nat, E - D.length = Z := ⟨_, rfl⟩
    have hz : (E : Int) - (S.size : Int) = (Z : Int) := by omega
    have hzl : Z ≤ 1200 := by omega
    have CT := Lib.hid (fun W (u : Up w W) lo' v' (N : Nt W lo' (40 + (E + 1)) v' P) => text_of W lo' _ v' P N.nw (by omega) (TW.up u) S (by rw [hD, hS]))
    have CR := Lib.hid (fun W => qrep_any W Z (by omega))
    have CTR := Lib.hid (fun W => qtrr_any W S D tS (by omega))
    have htl := M.tz_len D
    have htl2 : (M.tz D).length ≤ 1200 := by omega
    have HE : Hid (M.bhd left E = ([46] ++ List.replicate Z 48) ++ M.tz D) := by
      show _ = _
      unfold M.bhd
      rw [if_neg h0, hP, hD, hZ]
      rfl
    have hS2 : S.size ≤ 1200 := by omega
    clear h TW hlt h0 hB hP P0 hPl hl hD hS tS sS hZ htl
    generalize M.tz D = T at *
    go_enter Tryz.func47, Tryz.ntmps47
    go_wp2_with fail
    refine CB.out.mono ?_
    rintro _ w1 ⟨rfl, hw1⟩
    replace U : Up w w1 := by rw [← hw1]; first | exact U | exact U.drew | exact U.drewN _
    clear hw1
    go_wp2_with fail
    refine (CP.out _).mono ?_
    rintro _ w2 ⟨v2, rfl, N2, u2⟩
    replace U := Up.trans (by first | exact U | exact U.drew | exact U.drewN _) u2
    clear u2
    go_wp2_with fail
    refine (CM.out _ (by first | exact U | exact U.drew | exact U.drewN _) _ _ (by first | exact N2 | exact N2.up ((Up.refl _).drew) | exact N2.up ((Up.refl _).drewN _))).mono ?_
    rintro _ w3 ⟨v3, rfl, N3, u3⟩
    replace U := Up.trans (by first | exact U | exact U.drew | exact U.drewN _) u3
    clear u3 N2
    go_wp2_with fail
    refine (CT.out _ (by first | exact U | exact U.drew | exact U.drewN _) _ _ (by first | exact N3 | exact N3.up ((Up.refl _).drew) | exact N3.up ((Up.refl _).drewN _))).mono ?_
    rintro _ w4 ⟨rfl, u4⟩
    replace U := Up.trans (by first | exact U | exact U.drew | exact U.drewN _) u4
    clear u4 N3
    go_wp2_with fail
    refine (CR.out _).mono ?_
    rintro _ w5 ⟨X, rfl, tX, u5⟩
    replace U := Up.trans (by first | exact U | exact U.drew | exact U.drewN _) u5
    clear u5
    have sX := tX.size
    rw [List.length_replicate] at sX
    have hX : X.size ≤ 1200 := by omega
    obtain ⟨Y, hY, tY, sY⟩ := cat16 ⟨#[46]⟩ X [46] _ 1201 (Lib.hid (Tx.lit [46])) (Lib.hid tX) (by show 1 + X.size ≤ _; omega)
    clear sX tX
    go_wp2_with fail
    refine (CTR.out _).mono ?_
    rintro _ w6 ⟨V, rfl, tV, hw6⟩
    replace U : Up w w6 := by rw [← hw6]; first | exact U | exact U.drew | exact U.drewN _
    clear hw6
    have sV := tV.size
    have hV : V.size ≤ 1200 := by omega
    have TV := Lib.hid tV
    clear sV tV
    go_wp2_with fail
    go_ret
    exact ⟨_, rfl, (tY.out.cat TV.out).to16 HE.out.symm, by first | exact U | exact U.drew | exact U.drewN _⟩
set_option maxHeartbeats 4000000 in
set_option maxRecDepth 100000 in
/-- The text of a size. -/
theorem qsize_any (w : World) (TW : TabW w) (lo : Nat) (v : Value) (a : Nat) (h : Nt w lo 40 v a) (e : Int) (he : -1200 ≤ e ∧ e ≤ 1200) (n : Nat) (k : Int) (hq : M.Qd a e n k) :
    Calls Tryz.prog 22 #[v, .int .i64 e] w (Tex (if n = 0 then [48] else M.qpb (Lib.decDigits n) k) w) := by
  have U := Up.refl w
  obtain ⟨A, nn, c, rfl, h⟩ := h.slr
  by_cases h0 : 0 ≤ e
  · obtain ⟨E, rfl⟩ : ∃ E : Nat, e = E := ⟨e.toNat, by omega⟩
    have HE := Lib.hid (M.size_up hq)
    have d1 : decide ((E : Int) ≥ 0) = true := decide_eq_true h0
    have d2 : decide (0 ≤ (E : Int)) = true := decide_eq_true h0
    have CS := Lib.hid (shl_any w lo 40 _ a h.nw (by omega) (E : Int) E (by omega))
    have CT := Lib.hid (fun W (u : Up w W) lo' v' (N : Nt W lo' (40 + E / 64 + 1) v' (a * 2 ^ E)) => text_of W lo' _ v' _ N.nw (by omega) (TW.up u) _ rfl)
    clear h TW hq
    generalize (if n = 0 then [48] else M.qpb (Lib.decDigits n) k) = L at *
    go_enter Tryz.func22, Tryz.ntmps22
    go_wp2_with fail
    refine CS.out.mono ?_
    rintro _ w1 ⟨v1, rfl, N1, u1⟩
    replace U := Up.trans (by first | exact U | exact U.drew | exact U.drewN _) u1
    clear u1
    go_wp2_with fail
    refine (CT.out _ (by first | exact U | exact U.drew | exact U.drewN _) _ _ (by first | exact N1 | exact N1.up ((Up.refl _).drew) | exact N1.up ((Up.refl _).drewN _))).mono ?_
    rintro _ w2 ⟨rfl, u2⟩
    replace U := Up.trans (by first | exact U | exact U.drew | exact U.drewN _) u2
    go_wp2_with fail
    go_ret
    exact ⟨_, rfl, (Tx.lit _).to16 HE.out, by first | exact U | exact U.drew | exact U.drewN _⟩
  · obtain ⟨E, rfl⟩ : ∃ E : Nat, e = -(E : Int) := ⟨(-e).toNat, by omega⟩
    have hE : E ≤ 1200 := by omega
    have HE := Lib.hid (M.size_down hE hq)
    have d1 : decide (-(E : Int) ≥ 0) = false := decide_eq_false h0
    have d2 : decide (0 ≤ -(E : Int)) = false := decide_eq_false h0
    have d3 : - -(E : Int) = (E : Int) := by omega
    have hp := Nat.two_pow_pos E
    have CR := Lib.hid (shr_any w lo 40 _ a h.nw (E : Int) E (by omega))
    have hsum : a - a / 2 ^ E * 2 ^ E = a % 2 ^ E := by
      have := Nat.div_add_mod a (2 ^ E)
      rw [Nat.mul_comm] at this
      omega
    have hle : a / 2 ^ E * 2 ^ E ≤ a := Nat.div_mul_le_self a (2 ^ E)
    have hlt : a % 2 ^ E < 2 ^ E := Nat.mod_lt _ hp
    have hwl := M.dd_wid h
    obtain ⟨W0, hW0⟩ : ∃ W0, a / 2 ^ E = W0 := ⟨_, rfl⟩
    obtain ⟨R0, hR0⟩ : ∃ R0, a % 2 ^ E = R0 := ⟨_, rfl⟩
    rw [hW0] at HE CR hsum hle
    rw [hR0] at HE hsum hlt
    have CL := Lib.hid (fun W (u : Up w W) lo' v' (N : Nt W lo' 40 v' W0) => shl_any W lo' 40 v' W0 N.nw (by omega) (E : Int) E (by omega))
    have CS := Lib.hid (fun W (u : Up w W) lo' v' (N : Nt W lo' (40 + E / 64 + 1) v' (W0 * 2 ^ E)) => sub_ok W lo lo' 40 _ _ v' a (W0 * 2 ^ E) (h.up u).nw N.nw hle)
    rw [hsum] at CS
    have CT := Lib.hid (fun W (u : Up w W) lo' v' (N : Nt W lo' 40 v' W0) => text_of W lo' _ v' W0 N.nw (by omega) (TW.up u) _ rfl)
    have CB := Lib.hid (fun W (u : Up w W) lo' v' (N : Nt W lo' 40 v' R0) => behind_any W (TW.up u) lo' v' R0 E N hE hlt)
    have hl1 : (M.bhd R0 E).length ≤ 5000 := M.bhd_len hE hlt
    have hl2 : (Lib.decDigits W0).length ≤ 5000 := by
      rw [← hW0]
      exact hwl _ (Nat.div_le_self _ _)
    clear h TW hq hsum hle hlt hwl hW0 hR0 hp
    generalize (if n = 0 then [48] else M.qpb (Lib.decDigits n) k) = L at *
    generalize M.bhd R0 E = BH at *
    obtain ⟨S, hS⟩ : ∃ S : ByteArray, ⟨(Lib.decDigits W0).toArray⟩ = S := ⟨_, rfl⟩
    have tS : Tx S (Lib.decDigits W0) := by rw [← hS]; exact Tx.lit _
    rw [hS] at CT
    have sS := tS.size
    have hS2 : S.size ≤ 5000 := by omega
    have TS := Lib.hid tS
    clear hS tS sS hl2
    generalize Lib.decDigits W0 = DW at *
    go_enter Tryz.func22, Tryz.ntmps22
    go_wp2_with fail
    refine CR.out.mono ?_
    rintro _ w1 ⟨v1, rfl, N1, u1⟩
    obtain ⟨A1, n1, c1, rfl, N1⟩ := N1.slr
    replace U := Up.trans (by first | exact U | exact U.drew | exact U.drewN _) u1
    clear u1
    go_wp2_with fail
    refine (CL.out _ (by first | exact U | exact U.drew | exact U.drewN _) _ _ (by first | exact N1 | exact N1.up ((Up.refl _).drew) | exact N1.up ((Up.refl _).drewN _))).mono ?_
    rintro _ w2 ⟨v2, rfl, N2, u2⟩
    replace U := Up.trans (by first | exact U | exact U.drew | exact U.drewN _) u2
    replace N1 := N1.up (Up.trans (by first | exact Up.refl _ | exact (Up.refl _).drew | exact (Up.refl _).drewN _) u2)
    clear u2
    go_wp2_with fail
    refine (CS.out _ (by first | exact U | exact U.drew | exact U.drewN _) _ _ (by first | exact N2 | exact N2.up ((Up.refl _).drew) | exact N2.up ((Up.refl _).drewN _))).mono ?_
    rintro _ w3 ⟨v3, rfl, N3, u3⟩
    obtain ⟨A3, n3, c3, rfl, N3⟩ := N3.slr
    replace U := Up.trans (by first | exact U | exact U.drew | exact U.drewN _) u3
    replace N1 := N1.up (Up.trans (by first | exact Up.refl _ | exact (Up.refl _).drew | exact (Up.refl _).drewN _) u3)
    clear u3 N2
    go_wp2_with fail
    refine (CT.out _ (by first | exact U | exact U.drew | exact U.drewN _) _ _ (by first | exact N1 | exact N1.up ((Up.refl _).drew) | exact N1.up ((Up.refl _).drewN _))).mono ?_
    rintro _ w4 ⟨rfl, u4⟩
    replace U := Up.trans (by first | exact U | exact U.drew | exact U.drewN _) u4
    replace N3 := N3.up (Up.trans (by first | exact Up.refl _ | exact (Up.refl _).drew | exact (Up.refl _).drewN _) u4)
    clear u4 N1
    go_wp2_with fail
    refine (CB.out _ (by first | exact U | exact U.drew | exact U.drewN _) _ _ (by first | exact N3 | exact N3.up ((Up.refl _).drew) | exact N3.up ((Up.refl _).drewN _))).mono ?_
    rintro _ w5 ⟨X, rfl, tX, u5⟩
    replace U := Up.trans (by first | exact U | exact U.drew | exact U.drewN _) u5
    clear u5 N3
    have sX := tX.size
    have hX : X.size ≤ 5000 := by omega
    have TX := Lib.hid tX
    clear sX tX
    go_wp2_with fail
    go_ret
    exact ⟨_, rfl, (TS.out.cat TX.out).to16 HE.out, by first | exact U | exact U.drew | exact U.drewN _⟩
set_option maxHeartbeats 4000000 in
set_option maxRecDepth 100000 in
/-- Text. -/
theorem qtext_any (w : World) (TW : TabW w) (neg : Bool) (lo : Nat) (v : Value) (a : Nat) (e : Int) (h : Nt w lo 40 v a) (l : List UInt8) (x : Int) (hq : M.Qt neg a e l x) : Calls Tryz.prog 11 #[.bool neg, v, .int .i64 e] w (Ptq l x w) := by
  have U := Up.refl w
  obtain ⟨A, nn, c, rfl, h⟩ := h.slr
  obtain ⟨B, hB⟩ : ∃ B : Nat, M.bits a = B := ⟨_, rfl⟩
  have hBT : a < 2 ^ 2048 ↔ B ≤ 2048 := by
    rw [← hB]
    exact ⟨fun h => M.bits_le_of_lt h, fun h => M.lt_2048 (M.bits_lt a) h⟩
  have hB0 : a = 0 ↔ B = 0 := by
    rw [← hB]
    exact ⟨fun h => by rw [h]; rfl, fun h => by
      rcases Nat.eq_zero_or_pos a with h1 | h1
      · exact h1
      · have := M.bits_pos (a := a) (by omega); omega⟩
  have CB := Lib.hid (fun W (u : Up w W) => bits_at2 W lo 40 _ a (B : Int) (h.up u).nw (Lib.hid (by rw [hB])))
  obtain ⟨t, ht⟩ : ∃ t, decide (-1200 ≤ e ∧ e ≤ 1200) = t := ⟨_, rfl⟩
  have CN := Lib.hid (fun W => isnear_any W e t (Lib.hid ht))
  rcases hq with ⟨h1, rfl, rfl⟩ | ⟨⟨h1, h2⟩, rfl, n, k, hq, rfl⟩
  · by_cases c1 : 2048 < B
    · have d1 : decide ((B : Int) > 2048) = true := decide_eq_true (by omega)
      have d2 : decide (2048 < B) = true := decide_eq_true c1
      have d3 : decide (2048 < (B : Int)) = true := decide_eq_true (by omega)
      clear h TW hB hBT hB0 h1 ht CN
      go_enter Tryz.func11, Tryz.ntmps11
      go_wp2_with fail
      refine (CB.out _ (by first | exact U | exact U.drew | exact U.drewN _)).mono ?_
      rintro _ w1 ⟨rfl, hw1⟩
      replace U : Up w w1 := by rw [← hw1]; first | exact U | exact U.drew | exact U.drewN _
      clear hw1
      go_wp2_with fail
      go_ret2
      exact ⟨_, rfl, Tx.lit [], by first | exact U | exact U.drew | exact U.drewN _⟩
    · have d1 : decide ((B : Int) > 2048) = false := decide_eq_false (by omega)
      have d2 : decide (2048 < B) = false := decide_eq_false c1
      have d3 : decide (2048 < (B : Int)) = false := decide_eq_false (by omega)
      have tf : false = t := by
        rw [← ht, eq_comm, decide_eq_false_iff_not]
        exact fun h => h1 ⟨hBT.2 (by omega), h⟩
      subst tf
      clear h TW hB hBT hB0 h1 ht
      go_enter Tryz.func11, Tryz.ntmps11
      go_wp2_with fail
      refine (CB.out _ (by first | exact U | exact U.drew | exact U.drewN _)).mono ?_
      rintro _ w1 ⟨rfl, hw1⟩
      replace U : Up w w1 := by rw [← hw1]; first | exact U | exact U.drew | exact U.drewN _
      clear hw1
      go_wp2_with fail
      refine (CN.out _).mono ?_
      rintro _ w2 ⟨rfl, hw2⟩
      replace U : Up w w2 := by rw [← hw2]; first | exact U | exact U.drew | exact U.drewN _
      clear hw2
      go_wp2_with fail
      go_ret2
      exact ⟨_, rfl, Tx.lit [], by first | exact U | exact U.drew | exact U.drewN _⟩
  · have d1 : decide ((B : Int) > 2048) = false := decide_eq_false (by have := hBT.1 h1; omega)
    have d2 : decide (2048 < B) = false := decide_eq_false (by have := hBT.1 h1; omega)
    have d3 : decide (2048 < (B : Int)) = false := decide_eq_false (by have := hBT.1 h1; omega)
    have tf : true = t := by rw [← ht, decide_eq_true h2]
    subst tf
    have CZ := Lib.hid (fun W (u : Up w W) => qsize_any W (TW.up u) lo _ a (h.up u) e h2 n k hq)
    have hl := M.qp_len hq false
    have hp : M.qp false n k = (if n = 0 then [48] else M.qpb (Lib.decDigits n) k) := rfl
    rw [hp] at hl
    have hq2 : M.qp (neg && decide (a ≠ 0)) n k = M.sgt (neg && decide (a ≠ 0)) ++ (if n = 0 then [48] else M.qpb (Lib.decDigits n) k) := rfl
    rw [hq2]
    clear h TW hB hBT hq hq2 hp ht h1 h2
    generalize (if n = 0 then [48] else M.qpb (Lib.decDigits n) k) = L at *
    cases neg with
    | true =>
      by_cases a0 : a = 0
      · have e0 : M.sgt (true && decide (a ≠ 0)) ++ L = L := by simp [a0, M.sgt]
        rw [e0]
        obtain rfl : B = 0 := hB0.1 a0
        clear hB0 a0 e0
        go_enter Tryz.func11, Tryz.ntmps11
        go_wp2_with fail
        refine (CB.out _ (by first | exact U | exact U.drew | exact U.drewN _)).mono ?_
        rintro _ w1 ⟨rfl, hw1⟩
        replace U : Up w w1 := by rw [← hw1]; first | exact U | exact U.drew | exact U.drewN _
        clear hw1
        go_wp2_with fail
        refine (CN.out _).mono ?_
        rintro _ w2 ⟨rfl, hw2⟩
        replace U : Up w w2 := by rw [← hw2]; first | exact U | exact U.drew | exact U.drewN _
        clear hw2
        go_wp2_with fail
        refine (CB.out _ (by first | exact U | exact U.drew | exact U.drewN _)).mono ?_
        rintro _ w3 ⟨rfl, hw3⟩
        replace U : Up w w3 := by rw [← hw3]; first | exact U | exact U.drew | exact U.drewN _
        clear hw3
        go_wp2_with fail
        refine (CZ.out _ (by first | exact U | exact U.drew | exact U.drewN _)).mono ?_
        rintro _ w4 ⟨X, rfl, tX, u4⟩
        replace U := Up.trans (by first | exact U | exact U.drew | exact U.drewN _) u4
        have TX := Lib.hid tX
        clear u4 tX
        go_wp2_with fail
        go_ret2
        exact ⟨_, rfl, TX.out, by first | exact U | exact U.drew | exact U.drewN _⟩
      · have e0 : M.sgt (true && decide (a ≠ 0)) ++ L = [45] ++ L := by simp [a0, M.sgt]
        rw [e0]
        have b0 : 0 < B := by
          rcases Nat.eq_zero_or_pos B with h | h
          · exact absurd (hB0.2 h) a0
          · exact h
        have d4 : decide ((B : Int) > 0) = true := decide_eq_true (by omega)
        have d5 : decide (0 < B) = true := decide_eq_true b0
        have d6 : decide (0 < (B : Int)) = true := decide_eq_true (by omega)
        clear hB0 a0 e0
        go_enter Tryz.func11, Tryz.ntmps11
        go_wp2_with fail
        refine (CB.out _ (by first | exact U | exact U.drew | exact U.drewN _)).mono ?_
        rintro _ w1 ⟨rfl, hw1⟩
        replace U : Up w w1 := by rw [← hw1]; first | exact U | exact U.drew | exact U.drewN _
        clear hw1
        go_wp2_with fail
        refine (CN.out _).mono ?_
        rintro _ w2 ⟨rfl, hw2⟩
        replace U : Up w w2 := by rw [← hw2]; first | exact U | exact U.drew | exact U.drewN _
        clear hw2
        go_wp2_with fail
        refine (CB.out _ (by first | exact U | exact U.drew | exact U.drewN _)).mono ?_
        rintro _ w3 ⟨rfl, hw3⟩
        replace U : Up w w3 := by rw [← hw3]; first | exact U | exact U.drew | exact U.drewN _
        clear hw3
        go_wp2_with fail
        refine (CZ.out _ (by first | exact U | exact U.drew | exact U.drewN _)).mono ?_
        rintro _ w4 ⟨X, rfl, tX, u4⟩
        replace U := Up.trans (by first | exact U | exact U.drew | exact U.drewN _) u4
        have sX := tX.size
        have hX : X.size ≤ 5000 := by omega
        have TX := Lib.hid tX
        clear u4 tX sX
        go_wp2_with fail
        go_ret2
        exact ⟨_, rfl, (Tx.lit [45]).cat TX.out, by first | exact U | exact U.drew | exact U.drewN _⟩
    | false =>
      have e0 : M.sgt (false && decide (a ≠ 0)) ++ L = L := by simp [M.sgt]
      rw [e0]
      clear hB0 e0
      go_enter Tryz.func11, Tryz.ntmps11
      go_wp2_with fail
      refine (CB.out _ (by first | exact U | exact U.drew | exact U.drewN _)).mono ?_
      rintro _ w1 ⟨rfl, hw1⟩
      replace U : Up w w1 := by rw [← hw1]; first | exact U | exact U.drew | exact U.drewN _
      clear hw1
      go_wp2_with fail
      refine (CN.out _).mono ?_
      rintro _ w2 ⟨rfl, hw2⟩
      replace U : Up w w2 := by rw [← hw2]; first | exact U | exact U.drew | exact U.drewN _
      clear hw2
      go_wp2_with fail
      refine (CZ.out _ (by first | exact U | exact U.drew | exact U.drewN _)).mono ?_
      rintro _ w4 ⟨X, rfl, tX, u4⟩
      replace U := Up.trans (by first | exact U | exact U.drew | exact U.drewN _) u4
      have TX := Lib.hid tX
      clear u4 tX
      go_wp2_with fail
      go_ret2
      exact ⟨_, rfl, TX.out, by first | exact U | exact U.drew | exact U.drewN _⟩
end Go.Proofs.YtjmnobgllnaljaaGreatDoor
