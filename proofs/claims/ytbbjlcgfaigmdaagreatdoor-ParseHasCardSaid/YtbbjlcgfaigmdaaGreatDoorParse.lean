/-
  nat.Parse: its contract.
-/
import Derived.Test.YtbbjlcgfaigmdaaGreatDoorText
import Derived.Test.YtbbjlcgfaigmdaaGreatDoorNa
import Derived.Test.YtbbjlcgfaigmdaaGreatDoorSub
import Derived.Test.YtbbjlcgfaigmdaaGreatDoorVsa
namespace Go.Proofs.YtbbjlcgfaigmdaaGreatDoor
open Go.RowKit Go.Shelf

namespace M
theorem parseM (M : Nat) (hM : 9999999999999999999 ≤ M) (l : List UInt8) : ∀ acc k, acc < 10 ^ k → k + l.length ≤ 19 → Lib.parseUintM M acc l = if allD l = true then .ok (vsa acc l) else Lib.parseUintB 64 [] := by
  induction l with
  | nil => intro acc k _ _; rw [Lib.parseUintM, vsa_nil]; rfl
  | cons c r ih =>
    intro acc k hk hl
    rw [List.length_cons] at hl
    rw [Lib.parseUintM]
    by_cases hc : 48 ≤ c.toNat ∧ c.toNat ≤ 57
    · have hpow : 10 ^ (k + 1) ≤ 10 ^ 19 := Nat.pow_le_pow_right (by omega) (by omega)
      have h1 : acc * 10 + (c.toNat - 48) < 10 ^ (k + 1) := by rw [Nat.pow_succ]; omega
      rw [if_pos hc, if_neg (by rw [Nat.pow_succ] at hpow; omega), if_neg (by omega), ih _ (k + 1) h1 (by omega)]
      have : isD c = true := (isD_iff c).2 hc
      rw [vsa_cons]
      simp [allD, this]
    · rw [if_neg hc]
      have : isD c = false := by
        cases h : isD c
        · rfl
        · exact absurd ((isD_iff c).1 h) hc
      have e : allD (c :: r) = false := by simp [allD, this]
      rw [e]
      rfl
theorem parseB (l : List UInt8) (h0 : l ≠ []) (hl : l.length ≤ 19) : Lib.parseUintB 64 l = if allD l = true then .ok (vsa 0 l) else Lib.parseUintB 64 [] := by
  rw [Lib.parseUintB, if_neg h0]
  exact parseM _ (by omega) l 0 0 (by simp) (by omega)
end M

/-- The library's error is laid. -/
def ErrW (w : World) : Prop := ∃ tp p, w.var? Tryz.prog "strconv.ErrSyntax" = some #[.iface tp p]
theorem ErrW.up {w w' : World} (h : ErrW w) (hu : Up w w') : ErrW w' := by
  obtain ⟨tp, p, h⟩ := h
  refine ⟨tp, p, ?_⟩
  unfold World.var? at *
  cases hg : Tryz.prog.globalNamed "strconv.ErrSyntax" with
  | none => simp [hg] at h
  | some g =>
    simp only [hg, Option.bind_some] at h ⊢
    have hlt : g < w.heap.size := by
      rcases Nat.lt_or_ge g w.heap.size with h' | h'
      · exact h'
      · rw [Array.getElem?_eq_none h'] at h; simp at h
    rw [Below.block hu g hlt]
    exact h

/-- ParseUint of digits: their number. -/
def PuOk (u : Nat) (w : World) (e : Ending) (w' : World) : Prop := e = .returned (.tuple #[u64 u, .nilIface]) ∧ Up w w'
/-- ParseUint of other bytes: an error. -/
def PuNo (w : World) (e : Ending) (w' : World) : Prop := ∃ N, e = .returned (.tuple #[.int .u64 0, .iface 229 (.pointer (some ⟨N, 0, none⟩))]) ∧ Up w w'
theorem parseUint_ok (s : ByteArray) (l : List UInt8) (hl : s.data.toList = l) (h0 : l ≠ []) (h19 : l.length ≤ 19) (hd : M.allD l = true) (w : World) :
    Calls Tryz.prog 143 #[.string s, .int .i64 10, .int .i64 64] w (PuOk (M.vsa 0 l) w) := by
  have hsz : s.size = l.length := by rw [← hl]; exact (Array.length_toList).symm
  refine (Tryz.strconv_ParseUint_10_at64_ok s (by omega) (M.vsa 0 l) (by rw [hl, M.parseB l h0 h19, if_pos hd]) w).mono ?_
  rintro e w' ⟨he, hw⟩
  refine ⟨he, ?_⟩
  rcases hw with rfl | rfl
  · exact Up.refl _
  · exact Lib.bytesWorld_below w _ s
theorem parseUint_no (s : ByteArray) (l : List UInt8) (hl : s.data.toList = l) (h0 : l ≠ []) (h19 : l.length ≤ 19) (hd : M.allD l = false) (w : World) (hw : ErrW w) :
    Calls Tryz.prog 143 #[.string s, .int .i64 10, .int .i64 64] w (PuNo w) := by
  have hsz : s.size = l.length := by rw [← hl]; exact (Array.length_toList).symm
  obtain ⟨tp, p, hv⟩ := hw
  refine (Any.strconv_ParseUint_10_at64_syntax_var Tryz.laysPu14 s (by omega) (by rw [hl, M.parseB l h0 h19, if_neg (by rw [hd]; simp)]; rfl) tp p w hv).mono ?_
  rintro e w' ⟨N, he, _, _, hb⟩
  exact ⟨N, he, hb⟩

/-- What Parse comes to, of bytes that are no other number's. -/
def Parsed (l : List UInt8) (w : World) (e : Ending) (w' : World) : Prop := Opt 2001 (if M.allD l = true then M.vsa 0 l else 0) (M.allD l) w e w'

/-- What is so while a text is gone through by pieces: t is left, cs is behind. -/
def M.PsInv (l : List UInt8) (t : ByteArray) (cs : List UInt8) : Prop := l = cs ++ t.data.toList ∧ M.allD cs = true ∧ (cs = [] ∨ t.size % 19 = 0)
theorem M.PsInv.start {l : List UInt8} {s : ByteArray} (h : s.data.toList = l) : M.PsInv l s [] := ⟨by rw [h]; rfl, rfl, .inl rfl⟩
theorem M.PsInv.finish {l : List UInt8} {t : ByteArray} {cs : List UInt8} (h : M.PsInv l t cs) (h0 : t.size = 0) : M.allD l = true ∧ cs = l := by
  obtain ⟨h1, h2, _⟩ := h
  have : t.data.toList = [] := List.eq_nil_of_length_eq_zero (by rw [Array.length_toList]; exact h0)
  rw [this, List.append_nil] at h1
  exact ⟨by rw [h1]; exact h2, h1.symm⟩

theorem M.PsInv.no {l : List UInt8} {t : ByteArray} {cs : List UInt8} {z : Nat} (h : M.PsInv l t cs) (hd : M.allD (t.data.toList.take z) = false) : M.allD l = false := by
  rw [h.1, M.allD_append, ← List.take_append_drop z t.data.toList, M.allD_append, hd]
  simp
theorem M.PsInv.step {l : List UInt8} {t : ByteArray} {cs : List UInt8} {z : Nat} (h : M.PsInv l t cs) (hz : z = (t.size - 1) % 19 + 1) (h0 : 0 < t.size) (hd : M.allD (t.data.toList.take z) = true) :
    M.PsInv l (t.extract z t.size) (cs ++ t.data.toList.take z) ∧ M.vsa 0 (cs ++ t.data.toList.take z) = M.vsa 0 cs * 10000000000000000000 + M.vsa 0 (t.data.toList.take z) ∧ (t.extract z t.size).size = t.size - z := by
  obtain ⟨h1, h2, h3⟩ := h
  have hsz : (t.extract z t.size).size = t.size - z := by simp
  have hzl : z ≤ t.size := by omega
  refine ⟨⟨?_, ?_, .inr ?_⟩, ?_, hsz⟩
  · have e : (t.extract z t.size).data.toList = t.data.toList.drop z := by
      rw [Lib.extract_data]
      exact List.take_of_length_le (by rw [List.length_drop, Array.length_toList]; exact Nat.le_refl _)
    rw [e, List.append_assoc, List.take_append_drop]; exact h1
  · rw [M.allD_append, h2, hd]; rfl
  · rw [hsz]; omega
  · rw [M.vsa_append, M.vsa_acc]
    rcases h3 with h3 | h3
    · subst h3
      rw [M.vsa_nil, Nat.zero_mul, Nat.zero_mul]
    · have hl : (t.data.toList.take z).length = 19 := by
        rw [List.length_take, Array.length_toList]
        have : t.data.size = t.size := rfl
        omega
      rw [hl]

set_option maxHeartbeats 3200000 in
set_option maxRecDepth 100000 in
theorem parse_any (w : World) (s : ByteArray) (l : List UInt8) (hl : s.data.toList = l) (h0 : l ≠ []) (hlen : l.length ≤ 2000) (hz : l.headD 0 ≠ 48 ∨ l = [48]) (hEW : ErrW w) :
    Calls Tryz.prog 93 #[.string s] w (Parsed l w) := by
  have hsz : s.size = l.length := by rw [← hl]; exact (Array.length_toList).symm
  have hpos : 0 < s.size := by rw [hsz]; exact List.length_pos_iff.2 h0
  have hs2 : s.size ≤ 2000 := by omega
  have htl : s.toList = l := by rw [Lib.toList_data]; exact hl
  have hE : s.toList.isEmpty = false := by rw [htl]; cases l <;> simp_all
  have hT : ((((s[0]'hpos).toNat : Int) == 48) && !(s.toList == [48])) = false := by
    rcases hz with h | h
    · have : (s[0]'hpos) = l.headD 0 := by
        have h1 : (s[0]'hpos) = s.data.toList[0]'(show 0 < s.data.toList.length by rw [Array.length_toList]; exact hpos) := rfl
        rw [h1]
        cases l with
        | nil => exact absurd rfl h0
        | cons c r => simp [hl]
      have h2 : ((s[0]'hpos).toNat : Int) ≠ 48 := by
        rw [this]
        intro e
        apply h
        apply UInt8.toNat_inj.1
        have : (l.headD 0).toNat = 48 := by omega
        exact this
      simp [h2]
    · have e1 : (s.toList == [48]) = true := by rw [htl, h]; rfl
      rw [e1]; simp
  have HL := Lib.hid hl
  have HTL := Lib.hid htl
  have hxx : ∃ b1 b2, (((s[0]'hpos).toNat : Int) == 48) = b1 ∧ (s.toList == [48]) = b2 := ⟨_, _, rfl, rfl⟩
  obtain ⟨b1, b2, hb1, hb2⟩ := hxx
  rw [hb1, hb2] at hT
  have HSZ := Lib.hid hsz
  have HNE := Lib.hid h0
  clear hz htl hl hlen hsz h0
  have hd2 : decide ((2000 : Int) < (s.size : Int)) = false := by simp; omega
  go_enter Tryz.func93, Tryz.ntmps93
  cases b1 <;> cases b2 <;> simp at hT
  all_goals
    go_wp2_with fail
  all_goals
    go_loopg [0, 4] s.size (fun g st v wr => ∃ (t : ByteArray) (cs : List UInt8), st = .string t ∧ t.size ≤ g ∧ t.size ≤ 2000 ∧ Up w wr ∧ Nt wr w.heap.size cs.length v (M.vsa 0 cs) ∧ M.PsInv l t cs)
    case atStart => exact ⟨s, [], rfl, Nat.le_refl _, hs2, Up.refl _, Nt.nil _ _ _, M.PsInv.start HL.out⟩
    case round =>
      obtain ⟨t, cs, rfl, htg, ht2, hu, hv, HP⟩ := hrel
      by_cases ht0 : t.size = 0
      · go_wp2_with fail
        go_ret2
        obtain ⟨p1, p2⟩ := HP.finish ht0
        subst p2
        have hlc : cs.length ≤ 2001 := by have := HSZ.out; omega
        refine ⟨u4, ?_, ?_, hu⟩
        · rw [p1]; rfl
        · rw [if_pos p1]; exact hv.more hlc
      · obtain ⟨z, hz, hz1, hz19, hzt⟩ : ∃ z : Nat, ((t.size : Int) - 1) % 19 + 1 = (z : Int) ∧ 1 ≤ z ∧ z ≤ 19 ∧ z ≤ t.size := ⟨(t.size - 1) % 19 + 1, by omega, by omega, by omega, by omega⟩
        have hpos2 : 0 < t.size := by omega
        have hzz : z = (t.size - 1) % 19 + 1 := by omega
        obtain ⟨pl, hpl⟩ : ∃ pl, t.data.toList.take z = pl := ⟨_, rfl⟩
        obtain ⟨P, hPe⟩ : ∃ P, t.extract 0 z = P := ⟨_, rfl⟩
        have hPl : P.data.toList = pl := by rw [← hPe, Lib.extract_data, List.drop_zero, Nat.sub_zero, hpl]
        have htl : t.data.toList.length = t.size := Array.length_toList
        have hpll : pl.length = z := by rw [← hpl, List.length_take, htl]; omega
        have hpl0 : pl ≠ [] := by intro e; rw [e] at hpll; simp at hpll; omega
        have hcl : cs.length + t.size ≤ 2000 := by
          have := congrArg List.length HP.1
          rw [List.length_append, htl] at this
          have := HSZ.out
          omega
        rcases hd : M.allD pl with _ | _
        · have hno := HP.no (by rw [hpl]; exact hd)
          have PW := Lib.hid (parseUint_no P pl hPl hpl0 (by omega) hd wr (hEW.up hu))
          have HNO := Lib.hid hno
          have HPE := Lib.hid hPe
          clear hno hd hpl hPl hpl0 hPe hzz htl hpll hv HP
          go_wp2_with (go_at_call 143; rw [HPE.out]; refine PW.out.mono ?_; rintro _ w2 ⟨N, rfl, hu2⟩)
          go_ret2
          refine ⟨.slice none 0 0, ?_, ?_, hu.trans hu2⟩
          · rw [HNO.out]; rfl
          · rw [if_neg (by rw [HNO.out]; simp)]; exact Nt.nil _ _ _
        · obtain ⟨s1, s2, s3⟩ := HP.step hzz hpos2 (by rw [hpl]; exact hd)
          rw [hpl] at s1 s2
          have PW := Lib.hid (parseUint_ok P pl hPl hpl0 (by omega) hd wr)
          have hub : M.vsa 0 pl < 18446744073709551616 := by
            have h1 := M.vsa_lt pl hd
            have h2 : 10 ^ pl.length ≤ 10 ^ 19 := Nat.pow_le_pow_right (by omega) (by omega)
            omega
          have hfit : Hid (M.vsa 0 (cs ++ pl) < 18446744073709551616 ^ (cs ++ pl).length) := by
            have h1 := M.vsa_lt (cs ++ pl) (by rw [M.allD_append, HP.2.1, hd]; rfl)
            have h2 : 10 ^ (cs ++ pl).length ≤ 18446744073709551616 ^ (cs ++ pl).length := Nat.pow_le_pow_left (by omega) _
            exact Nat.lt_of_lt_of_le h1 h2
          generalize M.vsa 0 pl = u at *
          have S1 := Lib.hid s1
          have S2 := Lib.hid s2
          have S3 := Lib.hid s3
          have HUB := Lib.hid hub
          have HPE := Lib.hid hPe
          have hp10 : (10000000000000000000 : Nat) < 18446744073709551616 := by omega
          clear s1 s2 s3 hub hd hpl hPl hpl0 hPe hzz htl hpll HP
          go_wp2_with (go_at_call 143; rw [HPE.out]; refine PW.out.mono ?_; rintro _ w2 ⟨rfl, hu2⟩)
          have OW := of_any w2 10000000000000000000 hp10
          simp only [u64, Int.cast_ofNat_Int] at OW
          refine OW.mono ?_
          rintro _ w3 ⟨v3, rfl, h3, hu3⟩
          have hv3 := (hv.up hu2).up hu3
          clear OW hv
          go_wp2_with fail
          refine (mul_any w3 _ _ _ _ u4 v3 _ _ hv3.nw h3.nw (by omega) (by omega)).mono ?_
          rintro _ w4 ⟨v4, rfl, h4, hu4⟩
          clear h3 hv3
          go_wp2_with fail
          refine (of_any w4 u HUB.out).mono ?_
          rintro _ w5 ⟨v5, rfl, h5, hu5⟩
          have h4b := h4.up hu5
          clear h4
          go_wp2_with fail
          refine (add_any w5 _ _ (cs.length + 1) v4 v5 _ _ h4b.nw (h5.nw.more (by omega)) (by omega)).mono ?_
          rintro _ w6 ⟨v6, rfl, h6, hu6⟩
          have hu26 : Up wr w6 := hu2.trans (hu3.trans (hu4.trans (hu5.trans hu6)))
          have h6b : Nt w6 w.heap.size (cs ++ pl).length v6 (M.vsa 0 (cs ++ pl)) := by
            rw [← S2.out] at h6
            exact (h6.fit hfit.out).lower (Nat.le_trans hu.size (Nat.le_trans hu2.size (Nat.le_trans hu3.size (Nat.le_trans hu4.size hu5.size))))
          clear h6 h5 h4b hu2 hu3 hu4 hu5 hu6
          go_wp2_with fail
          go_roundg (t.size - z)
          case measure => omega
          case rel => exact ⟨t.extract z t.size, cs ++ pl, rfl, by rw [S3.out]; exact Nat.le_refl _, by rw [S3.out]; omega, hu.trans hu26, h6b, S1.out⟩

set_option maxHeartbeats 1600000 in
set_option maxRecDepth 100000 in
/-- Parse of bytes that are empty, too many, or begin with a nought ahead. -/
theorem parse_bad (w : World) (s : ByteArray) (l : List UInt8) (hl : s.data.toList = l) (hb : l = [] ∨ 2000 < l.length ∨ (l.headD 0 = 48 ∧ l ≠ [48])) :
    Calls Tryz.prog 93 #[.string s] w (Opt 2001 0 false w) := by
  have hsz : s.size = l.length := by rw [← hl]; exact (Array.length_toList).symm
  have htl : s.toList = l := by rw [Lib.toList_data]; exact hl
  by_cases h1 : s.size = 0
  · have he : l = [] := List.eq_nil_of_length_eq_zero (by omega)
    have hE : s.toList.isEmpty = true := by rw [htl, he]; rfl
    have hN : s.toList = [] := by rw [htl, he]
    clear hl hsz htl he hb
    go_enter Tryz.func93, Tryz.ntmps93
    go_wp2_with fail
    go_ret2
    exact ⟨_, rfl, Nt.nil _ _ _, Up.refl _⟩
  · have hpos : 0 < s.size := by omega
    have hne : l ≠ [] := by intro e; rw [e] at hsz; exact h1 hsz
    have hE : s.toList.isEmpty = false := by rw [htl]; cases l <;> simp_all
    by_cases h2 : 2000 < s.size
    · have hd2 : decide ((2000 : Int) < (s.size : Int)) = true := by simp; omega
      clear hl hsz htl hb hne h1
      go_enter Tryz.func93, Tryz.ntmps93
      go_wp2_with fail
      go_ret2
      exact ⟨_, rfl, Nt.nil _ _ _, Up.refl _⟩
    · have hd2 : decide ((2000 : Int) < (s.size : Int)) = false := by simp; omega
      have hb3 : l.headD 0 = 48 ∧ l ≠ [48] := by
        rcases hb with h | h | h
        · exact absurd h hne
        · omega
        · exact h
      have hb1 : (((s[0]'hpos).toNat : Int) == 48) = true := by
        have h1 : (s[0]'hpos) = s.data.toList[0]'(show 0 < s.data.toList.length by rw [Array.length_toList]; exact hpos) := rfl
        have h2 : (s[0]'hpos) = l.headD 0 := by
          rw [h1]
          cases l with
          | nil => exact absurd rfl hne
          | cons c r => simp [hl]
        rw [h2, hb3.1]
        rfl
      have hb2 : (s.toList == [48]) = false := by rw [htl]; simpa using hb3.2
      clear hl hsz htl hb hne h1 hb3
      go_enter Tryz.func93, Tryz.ntmps93
      go_wp2_with fail
      go_ret2
      exact ⟨_, rfl, Nt.nil _ _ _, Up.refl _⟩
end Go.Proofs.YtbbjlcgfaigmdaaGreatDoor
