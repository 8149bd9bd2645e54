/-
  Package layout: Right: its contract.
-/
import Derived.Test.YtkhnobogaiaogaaGreatDoorHp
namespace Go.Proofs.YtkhnobogaiaogaaGreatDoor
open Go.RowKit Go.Shelf
set_option linter.unusedVariables false
set_option linter.unusedSimpArgs false

namespace M
theorem ten2000 : 10 ^ 2000 ≤ 2 ^ 6644 := Nat.le_of_ble_eq_true (by decide +kernel)
/-- What has so many bits has too many digits. -/
theorem dd_bits_of {a K G : Nat} (hKG : 10 ^ K ≤ 2 ^ G) (h : G < bits a) : K < (Lib.decDigits a).length := by
  rcases Nat.lt_or_ge K (Lib.decDigits a).length with h1 | h1
  · exact h1
  · exfalso
    have h0 : a ≠ 0 := by
      intro e
      rw [e, bits_zero] at h
      omega
    have h4 : G ≤ bits a - 1 := by omega
    have h2 := bits_le h0
    have h3 := dd_lt a
    have h5 : a < 10 ^ K := Nat.lt_of_lt_of_le h3 (Nat.pow_le_pow_right (Nat.succ_pos 9) h1)
    have h6 : 2 ^ G ≤ 2 ^ (bits a - 1) := Nat.pow_le_pow_right (Nat.succ_pos 1) h4
    exact absurd (Nat.lt_of_lt_of_le h5 (Nat.le_trans hKG (Nat.le_trans h6 h2))) (Nat.lt_irrefl _)
theorem dd_bits {a : Nat} (h : 6644 < bits a) : 2000 < (Lib.decDigits a).length := dd_bits_of ten2000 h
theorem dd_suf (a : Nat) : Lib.hasSuffix (Lib.decDigits a) [48] = decide (a % 10 = 0) := by
  unfold Lib.hasSuffix List.isSuffixOf
  have e := dd_end a
  have hp := decDigits_pos a
  obtain ⟨b, c, hbc⟩ : ∃ b c, Lib.decDigits a = b ++ [c] := by
    have hne : Lib.decDigits a ≠ [] := List.length_pos_iff.1 hp
    exact ⟨_, (Lib.decDigits a).getLast hne, (List.dropLast_concat_getLast hne).symm⟩
  rw [hbc] at e ⊢
  have hc : c.toNat = 48 + a % 10 := by
    rw [← e, List.length_append, List.length_singleton, Nat.add_sub_cancel, List.getD_eq_getElem?_getD, List.getElem?_concat_length]
    rfl
  rw [List.reverse_append]
  show List.isPrefixOf [48] (c :: b.reverse) = _
  have h48 : (48 : UInt8).toNat = 48 := rfl
  rw [Bool.eq_iff_iff, decide_eq_true_iff]
  constructor
  · intro h
    have h2 : (48 : UInt8) = c := by simpa [List.isPrefixOf] using h
    rw [← h2] at hc
    omega
  · intro h
    have h2 : (48 : UInt8) = c := UInt8.toNat_inj.1 (by rw [hc, h48]; omega)
    rw [← h2]
    simp [List.isPrefixOf]
end M

set_option maxHeartbeats 400000 in
theorem bits_src (w : World) (A : Option Addr) (n c : Nat) (xs : List Nat) (h : Src w A n c xs) (hn : n ≤ 17592186044416) :
    Calls Tryz.prog 39 #[.slice A n c] w (Same (.int .i64 (M.bits (M.val xs))) w) := by
  obtain ⟨a, ha⟩ : ∃ a, M.val xs = a := ⟨_, rfl⟩
  have CT := Lib.hid (trim_src w A n c xs h (by omega))
  rw [ha] at CT ⊢
  clear h ha
  go_enter Tryz.func39, Tryz.ntmps39
  go_wp2_with fail
  refine CT.out.mono ?_
  rintro _ _ ⟨m, ys, rfl, rfl, hy, hny, hv, hmn⟩
  have HV : Hid (M.val ys = a) := hv
  clear hv CT
  rcases Nat.eq_zero_or_pos m with hm | hm
  · subst hm
    have hz : M.bits a = 0 := by
      rw [← HV.out, List.eq_nil_of_length_eq_zero hy.num]; rfl
    have HZ := Lib.hid hz
    clear hz
    go_wp2_with fail
    go_ret
    exact ⟨ret_int (by rw [HZ.out]; rfl), rfl⟩
  · obtain ⟨j, rfl⟩ : ∃ j, m = j + 1 := ⟨m - 1, by omega⟩
    obtain ⟨ad, rfl⟩ : ∃ ad, A = some ad := by
      rcases A with _ | ad
      · have := hy.none_ rfl
        have := hy.len
        omega
      · exact ⟨ad, rfl⟩
    have hc1 := hy.at_ ad rfl j (by omega)
    obtain ⟨x, hx⟩ : ∃ x, ys.getD j 0 = x := ⟨_, rfl⟩
    have hxb : x < 18446744073709551616 := by rw [← hx]; exact hy.wds.getD j
    have hfin : M.bits a = 64 * j + M.bits x := by rw [← HV.out, M.bits_val hy.wds hny hy.num, hx]
    have cw := len64_any x hxb
    rw [M.bitLen_eq x x (Nat.le_refl _) hxb] at cw
    have hbx : M.bits x ≤ 64 := by
      by_cases h0 : x = 0
      · subst h0; decide
      · have h1 := M.bits_le h0
        rcases Nat.lt_or_ge 64 (M.bits x) with h2 | h2
        · have h3 : 2 ^ 64 ≤ 2 ^ (M.bits x - 1) := Nat.pow_le_pow_right (by omega) (by omega)
          omega
        · exact h2
    rw [hx] at hc1
    generalize M.bits x = y at *
    have HF := Lib.hid hfin
    have CW := Lib.hid cw
    have hj : ((j + 1 : Nat) : Int) - 1 = (j : Int) := by omega
    clear hx hxb hfin cw hy HV hny
    go_wp2_with fail
    refine (CW.out _).mono ?_
    rintro _ _ ⟨rfl, rfl⟩
    go_wp2_with fail
    go_ret
    exact ⟨ret_int (by rw [HF.out]; omega), rfl⟩

/-- HasSuffix of a nought. -/
theorem suf_any (S : ByteArray) (a : Nat) (hS : Tx S (Lib.decDigits a)) (hs : S.size ≤ 9223372036854775807) (t : Bool) (ht : Hid (decide (a % 10 = 0) = t)) (w : World) :
    Calls Tryz.prog 40 #[.string S, .string ⟨#[48]⟩] w (Same (.bool t) w) := by
  refine (Tryz.strings_HasSuffix S ⟨#[48]⟩ w hs).mono ?_
  rintro _ _ ⟨rfl, rfl⟩
  refine ⟨?_, rfl⟩
  rw [show S.data.toList = Lib.decDigits a from hS, show (⟨#[48]⟩ : ByteArray).data.toList = [48] from rfl, M.dd_suf, ht.out]

/-- Are there few enough digits, and no nought at their end? -/
def M.fit (a : Nat) : Prop := (Lib.decDigits a).length ≤ 2000 ∧ a % 10 ≠ 0
instance (a : Nat) : Decidable (M.fit a) := by unfold M.fit; infer_instance

set_option maxHeartbeats 2000000 in
set_option maxRecDepth 100000 in
theorem are_any (w : World) (TW : TabW w) (A : Option Addr) (n c : Nat) (a : Nat) (h : Nw w 0 1000 (.slice A n c) a) (r : Bool) (hr : Hid (decide (M.fit a) = r)) :
    Calls Tryz.prog 22 #[.slice A n c] w (Boo r w) := by
  obtain ⟨z, hz⟩ : ∃ z : Nat, M.bits a = z := ⟨_, rfl⟩
  have CB := Lib.hid (bits_any w 0 1000 _ a h)
  rw [hz] at CB
  have hlt := h.lt
  have hroom := M.dd_room a 1000 hlt
  obtain ⟨S, HS0⟩ := tx_ex (Lib.decDigits a)
  have hsz := HS0.size
  have CT := Lib.hid (text_of w 0 1000 _ a h (by omega) TW S (Tx.uniq (Tx.lit _) HS0))
  have CS := Lib.hid (fun W => suf_any S a HS0 (by omega) (decide (a % 10 = 0)) rfl W)
  obtain ⟨q, hq⟩ : ∃ q, decide (a % 10 = 0) = q := ⟨_, rfl⟩
  rw [hq] at CS
  by_cases h1 : 6644 < z
  · have HR : Hid (false = r) := by
      show _ = _
      rw [← hr.out, eq_comm, decide_eq_false_iff_not]
      intro h2
      have := M.dd_bits (a := a) (by omega)
      have := h2.1
      omega
    have d1 : decide ((z : Int) > 6644) = true := decide_eq_true (by omega)
    clear hr h hlt hroom HS0 hsz CT CS hq hz
    go_enter Tryz.func22, Tryz.ntmps22
    go_wp2_with fail
    refine CB.out.mono ?_
    rintro _ _ ⟨rfl, rfl⟩
    go_wp2_with fail
    go_ret
    exact ⟨ret_bool HR.out, Up.refl _⟩
  · have d1 : decide ((z : Int) > 6644) = false := decide_eq_false (by omega)
    by_cases hL : S.size ≤ 2000
    · have d4 : decide ((S.size : Int) ≤ 2000) = true := decide_eq_true (by omega)
      have HR : Hid ((!q) = r) := by
        show _ = _
        rw [← hr.out, ← hq, Bool.eq_iff_iff, decide_eq_true_iff]
        unfold M.fit
        simp only [Bool.not_eq_true', decide_eq_false_iff_not]
        constructor
        · intro h2; exact ⟨by omega, h2⟩
        · intro h2; exact h2.2
      clear hr h hlt hroom HS0 hsz hq hz
      go_enter Tryz.func22, Tryz.ntmps22
      go_wp2_with fail
      refine CB.out.mono ?_
      rintro _ _ ⟨rfl, rfl⟩
      go_wp2_with fail
      refine CT.out.mono ?_
      rintro _ w1 ⟨rfl, u1⟩
      go_wp2_with fail
      refine (CS.out _).mono ?_
      rintro _ _ ⟨rfl, rfl⟩
      go_wp2_with fail
      go_ret
      exact ⟨ret_bool HR.out, u1⟩
    · have d4 : decide ((S.size : Int) ≤ 2000) = false := decide_eq_false (by omega)
      have HR : Hid (false = r) := by
        show _ = _
        rw [← hr.out, eq_comm, decide_eq_false_iff_not]
        intro h2
        have := h2.1
        omega
      clear hr h hlt hroom HS0 hsz hq hz
      go_enter Tryz.func22, Tryz.ntmps22
      go_wp2_with fail
      refine CB.out.mono ?_
      rintro _ _ ⟨rfl, rfl⟩
      go_wp2_with fail
      refine CT.out.mono ?_
      rintro _ w1 ⟨rfl, u1⟩
      go_wp2_with fail
      go_ret
      exact ⟨ret_bool HR.out, u1⟩

set_option maxHeartbeats 1000000 in
theorem are_dr (w : World) (TW : TabW w) (A : Option Addr) (n c : Nat) (xs : List Nat) (h : Dr w A n c xs) (hn : M.Nrm xs) (h0 : 0 < n) (r : Bool) (hr : Hid (decide (M.fit (M.val xs)) = r)) :
    Calls Tryz.prog 22 #[.slice A n c] w (Boo r w) := by
  by_cases h1 : n ≤ 1000
  · exact are_any w TW A n c _ ⟨_, _, _, _, rfl, h.wd h1, rfl, h1⟩ r hr
  · have hb : ∃ z : Nat, M.bits (M.val xs) = z ∧ 6644 < z := by
      obtain ⟨m, rfl⟩ : ∃ m, n = m + 1 := ⟨n - 1, by omega⟩
      refine ⟨_, rfl, ?_⟩
      rw [M.bits_val (h.src (by omega)).wds hn h.num]
      omega
    obtain ⟨z, hz, hz2⟩ := hb
    have CB := Lib.hid (bits_src w A n c xs (h.src (by omega)) h.mx)
    rw [hz] at CB
    have HR : Hid (false = r) := by
      show _ = _
      rw [← hr.out, eq_comm, decide_eq_false_iff_not]
      intro h2
      have := M.dd_bits (a := M.val xs) (by omega)
      have := h2.1
      omega
    have d1 : decide ((z : Int) > 6644) = true := decide_eq_true (by omega)
    clear hr h hz hn
    go_enter Tryz.func22, Tryz.ntmps22
    go_wp2_with fail
    refine CB.out.mono ?_
    rintro _ _ ⟨rfl, rfl⟩
    go_wp2_with fail
    go_ret
    exact ⟨ret_bool HR.out, Up.refl _⟩

set_option maxHeartbeats 2000000 in
set_option maxRecDepth 100000 in
theorem lright_any (w : World) (ng : Bool) (A : Option Addr) (n c : Nat) (xs : List Nat) (k : Int) (r : Bool) (TW : TabW w) (h : Dr w A n c xs) (hr : Hid (decide (M.rt xs k) = r)) :
    Calls Tryz.prog 10 #[dv ng (.slice A n c) k] w (Boo r w) := by
  have hu := (Up.refl w).alloc (.cells #[.bool ng, .slice A n c, .int .i64 k] 25)
  rcases Nat.eq_zero_or_pos n with h0 | h0
  · subst h0
    have hx := h.nil
    subst hx
    have HR : Hid ((k == 0) = r) := by
      show _ = _
      rw [← hr.out, Bool.eq_iff_iff, decide_eq_true_iff, beq_iff_eq]
      constructor
      · intro e; exact ⟨M.Nrm.nil, .inl ⟨rfl, e⟩⟩
      · rintro ⟨_, h | h⟩
        · exact h.2
        · exact absurd rfl h.1
    clear hr h TW
    go_enter Tryz.func10, Tryz.ntmps10
    go_wp2_with fail
    go_ret
    exact ⟨ret_bool HR.out, hu⟩
  · have hn0 : ((n : Int) == 0) = false := by rw [beq_eq_false_iff_ne]; omega
    have hnm := h.mx
    obtain ⟨ad, y, rfl, hc, hny⟩ := h.last h0
    have hc2 := cell_up hu hc
    have hne : y ≠ 0 → M.val xs ≠ 0 := by
      intro hy e
      have h1 := M.val_zero (hny.2 hy) e
      have h2 := h.num
      rw [h1] at h2
      simp at h2
      omega
    have hiff : M.rt xs k ↔ y ≠ 0 ∧ (-5000 ≤ k ∧ k ≤ 5000) ∧ M.fit (M.val xs) := by
      constructor
      · rintro ⟨a1, h | h⟩
        · exact absurd h.1 (hne (hny.1 a1))
        · exact ⟨hny.1 a1, h.2.1, h.2.2.1, h.2.2.2⟩
      · rintro ⟨a1, a2, a3⟩; exact ⟨hny.2 a1, .inr ⟨hne a1, a2, a3.1, a3.2⟩⟩
    by_cases hy : y = 0
    · have HR : Hid (false = r) := by
        show _ = _
        rw [← hr.out, eq_comm, decide_eq_false_iff_not]
        intro h2
        exact (hiff.1 h2).1 hy
      subst hy
      clear hr h hc hny hiff hne TW
      by_cases k1 : -5000 ≤ k
      · have d2 : decide (-5000 ≤ k) = true := decide_eq_true k1
        go_enter Tryz.func10, Tryz.ntmps10
        go_wp2_with fail
        all_goals go_ret
        all_goals exact ⟨ret_bool HR.out, hu⟩
      · have d2 : decide (-5000 ≤ k) = false := decide_eq_false k1
        go_enter Tryz.func10, Tryz.ntmps10
        go_wp2_with fail
        go_ret
        exact ⟨ret_bool HR.out, hu⟩
    · have hy0 : ((y : Int) != 0) = true := by rw [bne_iff_ne]; omega
      by_cases hk : -5000 ≤ k ∧ k ≤ 5000
      · obtain ⟨k1, k2⟩ := hk
        have d2 : decide (-5000 ≤ k) = true := decide_eq_true k1
        have d3 : decide (k ≤ 5000) = true := decide_eq_true k2
        have HR : Hid (decide (M.fit (M.val xs)) = r) := by
          show _ = _
          rw [← hr.out, Bool.eq_iff_iff, decide_eq_true_iff, decide_eq_true_iff, hiff]
          exact ⟨fun x => ⟨hy, ⟨k1, k2⟩, x⟩, fun x => x.2.2⟩
        have CA := Lib.hid (are_dr _ (TW.up hu) _ n c xs (h.up hu) (hny.2 hy) h0 r HR)
        clear hr h hc hny hiff hne TW
        go_enter Tryz.func10, Tryz.ntmps10
        go_wp2_with fail
        refine CA.out.mono ?_
        rintro _ w1 ⟨rfl, u1⟩
        go_wp2_with fail
        go_ret
        exact ⟨rfl, hu.trans u1⟩
      · have HR : Hid (false = r) := by
          show _ = _
          rw [← hr.out, eq_comm, decide_eq_false_iff_not]
          intro h2
          exact hk (hiff.1 h2).2.1
        clear hr h hc hny hiff hne TW
        by_cases k1 : -5000 ≤ k
        · have d2 : decide (-5000 ≤ k) = true := decide_eq_true k1
          have d3 : decide (k ≤ 5000) = false := decide_eq_false (by omega)
          clear hk
          go_enter Tryz.func10, Tryz.ntmps10
          go_wp2_with fail
          go_ret
          exact ⟨ret_bool HR.out, hu⟩
        · have d2 : decide (-5000 ≤ k) = false := decide_eq_false k1
          clear hk
          go_enter Tryz.func10, Tryz.ntmps10
          go_wp2_with fail
          go_ret
          exact ⟨ret_bool HR.out, hu⟩
end Go.Proofs.YtkhnobogaiaogaaGreatDoor
