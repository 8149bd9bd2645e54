/-
  Digits and numbers; the reference's Number of what is no number's text.
-/
import Derived.Test.YteeepfhjbemgoaaDoorNumb
import Derived.Test.YteeepfhjbemgoaaDoorDigs
namespace Go.Proofs.YteeepfhjbemgoaaDoor
open Go.RowKit Go.Shelf

namespace M
theorem ofNat_toNat {d : Nat} (h : d ≤ 9) : (UInt8.ofNat (48 + d)).toNat = 48 + d := by
  rw [show (UInt8.ofNat (48 + d)).toNat = (48 + d) % 256 from rfl]; omega
theorem dd_all : ∀ (n a : Nat), a ≤ n → allD (Lib.decDigits a) = true ∧ vsa 0 (Lib.decDigits a) = a ∧ Lib.decDigits a ≠ [] ∧ ((Lib.decDigits a).headD 0 ≠ 48 ∨ Lib.decDigits a = [48])
  | n, a, h => by
    by_cases h10 : a < 10
    · rw [Lib.decDigits_one h10]
      have e := ofNat_toNat (d := a) (by omega)
      refine ⟨?_, ?_, by simp, ?_⟩
      · have : isD (UInt8.ofNat (48 + a)) = true := (isD_iff _).2 (by rw [e]; omega)
        simp only [allD, List.all_cons, List.all_nil, this, Bool.and_true]
      · rw [vsa_cons, vsa_nil, e]; omega
      · by_cases h0 : a = 0
        · right; rw [h0]; rfl
        · left
          intro e2
          have e3 : (UInt8.ofNat (48 + a)) = 48 := e2
          rw [e3] at e
          have : (48 : UInt8).toNat = 48 := rfl
          omega
    · cases n with
      | zero => omega
      | succ n =>
        obtain ⟨k1, k2, k3, k4⟩ := dd_all n (a / 10) (by omega)
        have e := ofNat_toNat (d := a % 10) (by omega)
        have ed : Lib.decDigits a = Lib.decDigits (a / 10) ++ [UInt8.ofNat (48 + a % 10)] := by
          conv => lhs; rw [Lib.decDigits, dif_neg h10]
        rw [ed]
        refine ⟨?_, ?_, by simp, ?_⟩
        · rw [allD_snoc, k1]
          exact (isD_iff _).2 (by rw [e]; omega)
        · rw [vsa_snoc, k2, e]; omega
        · left
          have hh : (Lib.decDigits (a / 10) ++ [UInt8.ofNat (48 + a % 10)]).headD 0 = (Lib.decDigits (a / 10)).headD 0 := by
            cases hl : Lib.decDigits (a / 10) with
            | nil => exact absurd hl k3
            | cons c r => rfl
          rw [hh]
          rcases k4 with k4 | k4
          · exact k4
          · rw [k4] at k2
            have : vsa 0 [48] = 0 := rfl
            omega
theorem vsa_pos {l : List UInt8} (h0 : l ≠ []) (hd : allD l = true) (hz : l.headD 0 ≠ 48) : 0 < vsa 0 l := by
  cases l with
  | nil => exact absurd rfl h0
  | cons c r =>
    have h1 : isD c = true := by simp only [allD, List.all_cons, Bool.and_eq_true] at hd; exact hd.1
    have h2 := (isD_iff c).1 h1
    have h3 : c.toNat ≠ 48 := fun e => hz (UInt8.toNat_inj.1 (by show c.toNat = 48; exact e))
    rw [vsa_cons, vsa_acc]
    have : 0 < (0 * 10 + (c.toNat - 48)) * 10 ^ r.length := Nat.mul_pos (by omega) (Nat.pow_pos (by omega))
    omega
theorem dd_vsa : ∀ (n : Nat) (l : List UInt8), l.length ≤ n → l ≠ [] → allD l = true → (l.headD 0 ≠ 48 ∨ l = [48]) → Lib.decDigits (vsa 0 l) = l
  | 0, l, h, h0, _, _ => absurd (List.eq_nil_of_length_eq_zero (by omega)) h0
  | n + 1, l, h, h0, hd, hz => by
    obtain ⟨b, c, rfl⟩ : ∃ b c, l = b ++ [c] := ⟨l.dropLast, l.getLast h0, (List.dropLast_concat_getLast h0).symm⟩
    rw [allD_snoc, Bool.and_eq_true] at hd
    have h2 := (isD_iff c).1 hd.2
    have hc : UInt8.ofNat (48 + (c.toNat - 48)) = c := by
      apply UInt8.toNat_inj.1
      rw [ofNat_toNat (by omega)]
      omega
    rw [vsa_snoc]
    by_cases hb : b = []
    · subst hb
      rw [vsa_nil, Nat.zero_mul, Nat.zero_add, Lib.decDigits_one (by omega), hc]
      rfl
    · have hh : (b ++ [c]).headD 0 = b.headD 0 := by
        cases hl : b with
        | nil => exact absurd hl hb
        | cons c r => rfl
      have hzb : b.headD 0 ≠ 48 := by
        rcases hz with e | e
        · rw [hh] at e; exact e
        · exfalso
          have := congrArg List.length e
          rw [List.length_append] at this
          simp at this
          exact hb this
      have hv := vsa_pos hb hd.1 hzb
      have ih := dd_vsa n b (by rw [List.length_append] at h; simp at h; omega) hb hd.1 (.inl hzb)
      rw [Lib.decDigits, dif_neg (by omega), show (vsa 0 b * 10 + (c.toNat - 48)) / 10 = vsa 0 b by omega, ih, show (vsa 0 b * 10 + (c.toNat - 48)) % 10 = c.toNat - 48 by omega, hc]
end M

set_option maxHeartbeats 1000000 in
theorem number_bad (w : World) (s : ByteArray) (l : List UInt8) (hl : s.data.toList = l) (hlen : l.length ≤ 2000) (hb : l = [] ∨ (l.headD 0 = 48 ∧ l ≠ [48])) :
    Calls Tryd.prog 20 #[.string s] w (fun e w' => e = .returned (.tuple #[.slice none 0 0, .bool false]) ∧ w = w') := by
  have hsz : s.size = l.length := by rw [← hl]; exact (Array.length_toList).symm
  by_cases h1 : s.size = 0
  · have d1 : decide ((s.size : Int) < 1) = true := decide_eq_true (by omega)
    clear hl hsz hlen hb
    go_enter Tryd.func20, Tryd.ntmps20
    go_wp2_with fail
    go_ret2
    exact ⟨rfl, rfl⟩
  · have hpos : 0 < s.size := by omega
    have hne : l ≠ [] := by intro e; rw [e] at hsz; exact h1 hsz
    have hb3 : l.headD 0 = 48 ∧ l ≠ [48] := by
      rcases hb with h | h
      · exact absurd h hne
      · exact h
    have hb1 : (((s[0]'hpos).toNat : Int) == 48) = true := by
      have h1 : (s[0]'hpos) = s.data.toList[0]'(show 0 < s.data.toList.length by rw [Array.length_toList]; exact hpos) := rfl
      have h2 : (s[0]'hpos) = l.headD 0 := by
        rw [h1]
        cases l with
        | nil => exact absurd rfl hne
        | cons c r => simp [hl]
      rw [h2, hb3.1]
      rfl
    have h2 : 1 < s.size := by
      rcases (show s.size = 1 ∨ 1 < s.size by omega) with e | e
      · exfalso
        apply hb3.2
        cases l with
        | nil => exact absurd rfl hne
        | cons c r =>
          have hr : r = [] := List.eq_nil_of_length_eq_zero (by rw [List.length_cons] at hsz; omega)
          have hc : c = 48 := hb3.1
          rw [hr, hc]
      · exact e
    have d1 : decide ((s.size : Int) < 1) = false := decide_eq_false (by omega)
    have d2 : decide ((2000 : Int) < (s.size : Int)) = false := decide_eq_false (by omega)
    have d3 : decide ((1 : Int) < (s.size : Int)) = true := decide_eq_true (by omega)
    clear hl hsz hlen hb hb3 hne h1
    go_enter Tryd.func20, Tryd.ntmps20
    go_wp2_with fail
    go_ret2
    exact ⟨rfl, rfl⟩
end Go.Proofs.YteeepfhjbemgoaaDoor
