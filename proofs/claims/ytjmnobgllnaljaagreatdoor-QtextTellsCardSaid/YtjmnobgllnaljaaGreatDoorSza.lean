/-
  The reference of layer 9.
-/
import Derived.Test.YtjmnobgllnaljaaGreatDoorSq
import Derived.Test.YtjmnobgllnaljaaGreatDoorSva
import Derived.Test.YtjmnobgllnaljaaGreatDoorNumb
import Derived.Deep.CutBlock
import Derived.Deep.DeepCutAuto
/-
  The reference of layer 9, in numbers: a power that is cut does not matter. No program is named here.
-/
namespace Go.Proofs.YtjmnobgllnaljaaGreatDoor
open Go

namespace M
theorem nx_pow (s c : Nat) (h : nx s c = 8) : 48 ≤ c ∧ c ≤ 57 := by
  by_cases hc : 48 ≤ c ∧ c ≤ 57
  · exact hc
  · exfalso
    have e : nx s c ≠ 8 := by
      unfold nx
      simp only [hc, false_and, if_false]
      (repeat' split) <;> omega
    exact e h
theorem nx_dig2 (s c : Nat) (h : nx s c = 2 ∨ nx s c = 5) : 48 ≤ c ∧ c ≤ 57 := by
  by_cases hc : 48 ≤ c ∧ c ≤ 57
  · exact hc
  · exfalso
    have e : nx s c ≠ 2 ∧ nx s c ≠ 5 := by
      unfold nx
      simp only [hc, false_and, if_false]
      constructor <;> (repeat' split) <;> omega
    rcases h with h | h
    · exact e.1 h
    · exact e.2 h
/-- The power, cut. -/
def pwc (x : Sc) : Nat := min (vsa 0 x.pw) 1099511627776
theorem pwc_step (x : Sc) (c : UInt8) (h : nx x.st c.toNat = 8) : min (10 * (pwc x : Int) + (c.toNat : Int) - 48) 1099511627776 = (pwc (stp x c) : Int) ∧ 0 ≤ 10 * (pwc x : Int) + (c.toNat : Int) - 48 ∧ 10 * (pwc x : Int) + (c.toNat : Int) - 48 ≤ 20000000000000 := by
  have hc := nx_pow _ _ h
  have e : (stp x c).pw = x.pw ++ [c] := by simp [stp, h]
  unfold pwc
  rw [e, vsa_snoc]
  generalize vsa 0 x.pw = V
  generalize c.toNat = d at hc
  omega
theorem pwc_stay (x : Sc) (c : UInt8) (h : nx x.st c.toNat ≠ 8) : pwc (stp x c) = pwc x := by
  unfold pwc
  simp [stp, h]
/-- What has been read, in i bytes. -/
structure Bds (x : Sc) (i : Nat) : Prop where
  ds : x.ds.length ≤ i
  bh : x.bh ≤ x.ds.length
  al : allD x.ds = true
  st : x.st ≤ 32
  lv : lv x.st = true
theorem Bds.start : Bds sc0 0 := ⟨Nat.le_refl _, Nat.le_refl _, rfl, by decide, rfl⟩
theorem Bds.step {x : Sc} {i : Nat} (h : Bds x i) (c : UInt8) (hn : nx x.st c.toNat ≠ 99) : Bds (stp x c) (i + 1) := by
  have h1 := h.ds
  have h2 := h.bh
  have h3 := h.al
  have hl : (stp x c).ds.length = if nx x.st c.toNat = 2 ∨ nx x.st c.toNat = 5 then x.ds.length + 1 else x.ds.length := by
    unfold stp
    simp only
    split <;> simp
  have hb : (stp x c).bh = if nx x.st c.toNat = 5 then x.bh + 1 else x.bh := rfl
  refine ⟨?_, ?_, ?_, ?_, nx_lv _ _ hn⟩
  · rw [hl]; split <;> omega
  · rw [hl, hb]; split <;> split <;> omega
  · show allD (if nx x.st c.toNat = 2 ∨ nx x.st c.toNat = 5 then x.ds ++ [c] else x.ds) = true
    split
    · rename_i hd
      have hc := nx_dig2 _ _ hd
      rw [allD_snoc, h3]
      exact (isD_iff c).2 hc
    · exact h3
  · show nx x.st c.toNat ≤ 32
    rcases nx_cases x.st c.toNat _ rfl with k | ⟨k, _⟩ | k | k | k | k | k | k | k | k | k | k | k | k | k | k | k | k
    · exact absurd k hn
    all_goals (rw [k]; omega)
/-- The power as the reference has it, less what stands behind the point. -/
def kcut (x : Sc) : Int := (if x.dn = true then -(pwc x : Int) else (pwc x : Int)) - x.bh
theorem num_cut (x : Sc) (i : Nat) (hb : Bds x i) (hi : i ≤ 3000) : num x.ds (pwr x - x.bh) = num x.ds (kcut x) := by
  have h1 := hb.ds
  have h2 := hb.bh
  apply num_far
  unfold kcut pwr pwc
  cases x.dn
  · simp only [Bool.false_eq_true, if_false]
    omega
  · simp only [if_true]
    omega
theorem kcut_rng (x : Sc) (i : Nat) (hb : Bds x i) (hi : i ≤ 3000) : -1099511630776 ≤ kcut x ∧ kcut x ≤ 1099511627776 := by
  have h1 := hb.ds
  have h2 := hb.bh
  unfold kcut pwc
  cases x.dn
  · simp only [Bool.false_eq_true, if_false]
    omega
  · simp only [if_true]
    omega
theorem wh_states (s : Nat) (h : wh s = true) : s = 2 ∨ s = 3 ∨ s = 5 ∨ s = 8 ∨ s = 12 ∨ s = 22 ∨ s = 32 := by
  simp [wh] at h
  omega
end M
end Go.Proofs.YtjmnobgllnaljaaGreatDoor
/-
  The reference of layer 9: next, whole: their contracts.
-/
namespace Go.Proofs.YtjmnobgllnaljaaGreatDoor
open Go.RowKit Go.Shelf
set_option linter.unusedVariables false

theorem M.lv_states (s : Nat) (h : M.lv s = true) : s = 0 ∨ s = 1 ∨ s = 2 ∨ s = 3 ∨ s = 4 ∨ s = 5 ∨ s = 6 ∨ s = 7 ∨ s = 8 ∨ s = 10 ∨ s = 11 ∨ s = 12 ∨ s = 20 ∨ s = 21 ∨ s = 22 ∨ s = 30 ∨ s = 31 ∨ s = 32 := by
  simp [M.lv] at h
  omega
theorem byte_is (c k : Nat) : Hid ((((c : Int) == (k : Int)) = true → c = k) ∧ (((c : Int) == (k : Int)) = false → c ≠ k)) := by
  constructor
  · intro h
    rw [beq_iff_eq] at h
    omega
  · intro h
    rw [beq_eq_false_iff_ne] at h
    omega
set_option maxHeartbeats 16000000 in
set_option maxRecDepth 100000 in
theorem rnext_any (w : World) (s : Nat) (hs : M.lv s = true) (c : Nat) (hc : c < 256) (n : Nat) (hn : Hid (M.nx s c = n)) :
    Calls Tryz.prog 54 #[.int .i64 (s : Int), .int .u8 (c : Int)] w (Same (.int .i64 (n : Int)) w) := by
  have Q45 : Hid ((((c : Int) == 45) = true → c = 45) ∧ (((c : Int) == 45) = false → c ≠ 45)) := byte_is c 45
  have Q105 : Hid ((((c : Int) == 105) = true → c = 105) ∧ (((c : Int) == 105) = false → c ≠ 105)) := byte_is c 105
  have Q110 : Hid ((((c : Int) == 110) = true → c = 110) ∧ (((c : Int) == 110) = false → c ≠ 110)) := byte_is c 110
  have Q78 : Hid ((((c : Int) == 78) = true → c = 78) ∧ (((c : Int) == 78) = false → c ≠ 78)) := byte_is c 78
  have Q46 : Hid ((((c : Int) == 46) = true → c = 46) ∧ (((c : Int) == 46) = false → c ≠ 46)) := byte_is c 46
  have Q101 : Hid ((((c : Int) == 101) = true → c = 101) ∧ (((c : Int) == 101) = false → c ≠ 101)) := byte_is c 101
  have Q69 : Hid ((((c : Int) == 69) = true → c = 69) ∧ (((c : Int) == 69) = false → c ≠ 69)) := byte_is c 69
  have Q43 : Hid ((((c : Int) == 43) = true → c = 43) ∧ (((c : Int) == 43) = false → c ≠ 43)) := byte_is c 43
  have Q102 : Hid ((((c : Int) == 102) = true → c = 102) ∧ (((c : Int) == 102) = false → c ≠ 102)) := byte_is c 102
  have Q97 : Hid ((((c : Int) == 97) = true → c = 97) ∧ (((c : Int) == 97) = false → c ≠ 97)) := byte_is c 97
  have Q82 : Hid ((((c : Int) == 82) = true → c = 82) ∧ (((c : Int) == 82) = false → c ≠ 82)) := byte_is c 82
  have P1 : Hid (((((c : Int) == 101) = true ∨ ((c : Int) == 69) = true) → (c = 101 ∨ c = 69)) ∧ ((((c : Int) == 101) = false ∧ ((c : Int) == 69) = false) → ¬ (c = 101 ∨ c = 69))) := by
    constructor
    · intro h
      simp only [beq_iff_eq] at h
      omega
    · intro h
      simp only [beq_eq_false_iff_ne, ne_eq] at h
      omega
  have P2 : Hid (((((c : Int) == 43) = true ∨ ((c : Int) == 45) = true) → (c = 43 ∨ c = 45)) ∧ ((((c : Int) == 43) = false ∧ ((c : Int) == 45) = false) → ¬ (c = 43 ∨ c = 45))) := by
    constructor
    · intro h
      simp only [beq_iff_eq] at h
      omega
    · intro h
      simp only [beq_eq_false_iff_ne, ne_eq] at h
      omega
  rcases M.lv_states s hs with rfl | rfl | rfl | rfl | rfl | rfl | rfl | rfl | rfl | rfl | rfl | rfl | rfl | rfl | rfl | rfl | rfl | rfl
  all_goals
    clear hs
    go_enter Tryz.func54, Tryz.ntmps54
    go_wp2_with fail
    all_goals
      go_ret
      refine ⟨?_, rfl⟩
      rw [← hn.out]
      clear hn
      refine congrArg (fun k : Int => Ending.returned (Value.int .i64 k)) ?_
      unfold M.nx
      try first | have rd : (48 ≤ c ∧ c ≤ 57) = True := eq_true (by omega) | have rd : (48 ≤ c ∧ c ≤ 57) = False := eq_false (by omega)
      try simp only [rd]
      try first | have p1 := eq_true (P1.out.1 (by assumption)) | have p1 := eq_false (P1.out.2 (by assumption)) | have p1 : (c = 101 ∨ c = 69) = True := eq_true (by omega)
      try simp only [p1]
      try first | have p2 := eq_true (P2.out.1 (by assumption)) | have p2 := eq_false (P2.out.2 (by assumption)) | have p2 : (c = 43 ∨ c = 45) = True := eq_true (by omega)
      try simp only [p2]
      try first | have r45 := eq_true (Q45.out.1 (by assumption)) | have r45 := eq_false (Q45.out.2 (by assumption))
      try simp only [r45]
      try first | have r105 := eq_true (Q105.out.1 (by assumption)) | have r105 := eq_false (Q105.out.2 (by assumption))
      try simp only [r105]
      try first | have r110 := eq_true (Q110.out.1 (by assumption)) | have r110 := eq_false (Q110.out.2 (by assumption))
      try simp only [r110]
      try first | have r78 := eq_true (Q78.out.1 (by assumption)) | have r78 := eq_false (Q78.out.2 (by assumption))
      try simp only [r78]
      try first | have r46 := eq_true (Q46.out.1 (by assumption)) | have r46 := eq_false (Q46.out.2 (by assumption))
      try simp only [r46]
      try first | have r101 := eq_true (Q101.out.1 (by assumption)) | have r101 := eq_false (Q101.out.2 (by assumption))
      try simp only [r101]
      try first | have r69 := eq_true (Q69.out.1 (by assumption)) | have r69 := eq_false (Q69.out.2 (by assumption))
      try simp only [r69]
      try first | have r43 := eq_true (Q43.out.1 (by assumption)) | have r43 := eq_false (Q43.out.2 (by assumption))
      try simp only [r43]
      try first | have r102 := eq_true (Q102.out.1 (by assumption)) | have r102 := eq_false (Q102.out.2 (by assumption))
      try simp only [r102]
      try first | have r97 := eq_true (Q97.out.1 (by assumption)) | have r97 := eq_false (Q97.out.2 (by assumption))
      try simp only [r97]
      try first | have r82 := eq_true (Q82.out.1 (by assumption)) | have r82 := eq_false (Q82.out.2 (by assumption))
      try simp only [r82]
      all_goals first | rfl | simp
set_option maxHeartbeats 16000000 in
set_option maxRecDepth 100000 in
theorem rwhole_any (w : World) (s : Nat) (hs : M.lv s = true) (b : Bool) (hb : Hid (M.wh s = b)) :
    Calls Tryz.prog 55 #[.int .i64 (s : Int)] w (Same (.bool b) w) := by
  have hbb := hb.out
  subst hbb
  clear hb
  rcases M.lv_states s hs with rfl | rfl | rfl | rfl | rfl | rfl | rfl | rfl | rfl | rfl | rfl | rfl | rfl | rfl | rfl | rfl | rfl | rfl
  all_goals
    clear hs
    go_enter Tryz.func55, Tryz.ntmps55
    go_wp2_with fail
    go_ret
    exact ⟨rfl, rfl⟩
end Go.Proofs.YtjmnobgllnaljaaGreatDoor
/-
  The reference of layer 9: of: its contract.
-/
namespace Go.Proofs.YtjmnobgllnaljaaGreatDoor
open Go.RowKit Go.Shelf
set_option linter.unusedVariables false

/-- Texts joined. -/
theorem cat9 (a b : ByteArray) (la lb : List UInt8) (K : Nat) (ha : Hid (a.data.toList = la)) (hb : Hid (b.data.toList = lb)) (hk : a.size + b.size ≤ K) : ∃ c, a ++ b = c ∧ Hid (c.data.toList = la ++ lb) ∧ c.size ≤ K := by
  refine ⟨a ++ b, rfl, ?_, ?_⟩
  · show _ = _
    rw [ByteArray.data_append, Array.toList_append, ha.out, hb.out]
  · rw [ByteArray.size_append]; exact hk
/-- How long a text is. -/
def strLen (v : Value) : Nat := match v with | .string s => s.size | _ => 0
theorem str_size {s : ByteArray} {l : List UInt8} (h : Hid (s.data.toList = l)) : s.size = l.length := by
  rw [← h.out]
  exact (Array.length_toList).symm
theorem str_get {s : ByteArray} {l : List UInt8} (h : s.data.toList = l) (k : Nat) (hk : k < s.size) (hl : k < l.length) : s[k] = l[k] := by
  subst h
  rfl
/-- The first byte, and the text without it; the last, and the text without that. -/
theorem str_first (s : ByteArray) (c : UInt8) (r : List UInt8) (h : s.data.toList = c :: r) :
    ∃ (x : Int) (hp : 0 < s.size), x = (c.toNat : Int) ∧ ((s[0]'hp).toNat : Int) = x ∧ Hid ((s.extract 1 s.size).data.toList = r) ∧ (s.extract 1 s.size).size < s.size := by
  have hz : s.size = r.length + 1 := by
    have : s.size = s.data.toList.length := (Array.length_toList).symm
    rw [this, h]
    rfl
  have e : (s.extract 1 s.size).data.toList = (s.data.toList.drop 1).take (s.size - 1) := by simp
  refine ⟨_, by omega, rfl, ?_, ?_, ?_⟩
  · rw [str_get h 0 (by omega) (by simp)]
    rfl
  · show _ = _
    rw [e, h, hz]
    simp
  · simp
    omega
theorem str_last (s : ByteArray) (c : UInt8) (r : List UInt8) (h : s.data.toList = r ++ [c]) :
    ∃ (x : Int) (hp : s.size - 1 < s.size), x = (c.toNat : Int) ∧ ((s[s.size - 1]'hp).toNat : Int) = x ∧ Hid ((s.extract 0 (s.size - 1)).data.toList = r) ∧ (s.extract 0 (s.size - 1)).size + 1 = s.size ∧ 0 < s.size := by
  have hz : s.size = r.length + 1 := by
    have : s.size = s.data.toList.length := (Array.length_toList).symm
    rw [this, h]
    simp
  have e : (s.extract 0 (s.size - 1)).data.toList = s.data.toList.take (s.size - 1) := by
    rw [ByteArray.data_extract, Array.toList_extract]
    simp [List.extract]
  refine ⟨_, by omega, rfl, ?_, ?_, ?_, by omega⟩
  · rw [str_get h (s.size - 1) (by omega) (by simp; omega)]
    have e2 : s.size - 1 = r.length := by omega
    simp only [e2]
    simp
  · show _ = _
    rw [e, h, hz]
    simp
  · simp
    omega
theorem M.tz_snoc48 (l : List UInt8) : M.tz (l ++ [48]) = M.tz l := by
  have := M.tz_noughts 1 l
  simpa using this
theorem M.tz_snoc (l : List UInt8) (c : UInt8) (h : c ≠ 48) : M.tz (l ++ [c]) = l ++ [c] := by
  unfold M.tz
  rw [List.reverse_append]
  show (M.lz (c :: l.reverse)).reverse = _
  rw [M.lz_cons, if_neg h]
  simp
theorem u8_is48 (c : UInt8) (x : Int) (h : x = (c.toNat : Int)) : (c = 48 ∧ (x == 48) = true) ∨ (c ≠ 48 ∧ (x == 48) = false) := by
  by_cases h48 : c = 48
  · left; subst h48; subst h; exact ⟨rfl, rfl⟩
  · right
    refine ⟨h48, ?_⟩
    rw [beq_eq_false_iff_ne]
    intro e
    apply h48
    apply UInt8.toNat_inj.1
    show c.toNat = 48
    omega

set_option maxHeartbeats 16000000 in
set_option maxRecDepth 100000 in
theorem rof_any (w : World) (ng : Bool) (S : ByteArray) (L : List UInt8) (hS : Hid (S.data.toList = L)) (hL : L.length ≤ 3000) (hd : M.allD L = true) (k : Int) (hk : -2000000000000 ≤ k ∧ k ≤ 2000000000000) (m : M.Nm) (hm : Hid (M.num L k = m)) :
    Calls Tryz.prog 56 #[itv 1 ng (.slice none 0 0) 0 0 false, .string S, .int .i64 k] w (Ofi ⟨1, ng, m⟩ w) := by
  have HD := Lib.hid hd
  have U := Up.refl w
  clear hd
  go_enter Tryz.func56, Tryz.ntmps56
  go_upto_block 0 with fail
  obtain ⟨V1, hV1⟩ : ∃ V1, (w.alloc (.cells #[.int .i64 1, .bool ng, .slice none 0 0, .int .i64 0, .int .i64 0, .bool false] 54)).alloc (.cells #[.int .i64 0, .bool false, .slice none 0 0, .int .i64 0, .int .i64 0, .bool false] 54) = V1 := ⟨_, rfl⟩
  have hsz : (w.alloc (.cells #[.int .i64 1, .bool ng, .slice none 0 0, .int .i64 0, .int .i64 0, .bool false] 54)).heap.size = w.heap.size + 1 := Array.size_push _
  have X : Ob V1 w.heap.size 54 #[.int .i64 1, .bool ng, .slice none 0 0, .int .i64 0, .int .i64 0, .bool false] := by rw [← hV1]; exact (Ob.mk_ w _ _).up ((Up.refl _).alloc _)
  have R : Ob V1 (w.heap.size + 1) 54 #[.int .i64 0, .bool false, .slice none 0 0, .int .i64 0, .int .i64 0, .bool false] := by rw [← hV1, ← hsz]; exact Ob.mk_ _ _ _
  replace U : Up w V1 := by rw [← hV1]; exact (U.alloc _).alloc _
  rw [hV1]
  clear hV1 hsz
  go_cut [1] from 9 to 18 (fun sv wx => ∃ T : ByteArray, sv = .string T ∧ Hid (T.data.toList = M.lz L) ∧ wx = V1)
  case first =>
    go_wp2_with fail
    go_loop [1] (fun sv => ∃ (T : ByteArray) (l : List UInt8), sv = .string T ∧ Hid (T.data.toList = l) ∧ Hid (M.lz l = M.lz L) ∧ T.size ≤ 3000) (fun sv => strLen sv)
    case atStart => exact ⟨S, L, rfl, hS, rfl, by rw [str_size hS]; exact hL⟩
    case round =>
      obtain ⟨T, l, rfl, HT, HL, hT⟩ := hrel
      cases l with
      | nil =>
        have hz : T.size = 0 := by rw [str_size HT]; rfl
        have d1 : decide ((T.size : Int) > 0) = false := decide_eq_false (by omega)
        have d2 : decide (0 < T.size) = false := decide_eq_false (by omega)
        clear hz
        go_wp2_with fail
        go_meet
        exact ⟨T, rfl, by show _ = _; rw [← HL.out]; exact HT.out, rfl⟩
      | cons c r =>
        obtain ⟨x, hp, hx, hix, HT2, hT2⟩ := str_first T c r HT.out
        have d1 : decide ((T.size : Int) > 0) = true := decide_eq_true (by omega)
        have d2 : decide (0 < T.size) = true := decide_eq_true hp
        rcases u8_is48 c x hx with ⟨rfl, h48⟩ | ⟨hc, h48⟩
        · have HL2 : Hid (M.lz r = M.lz L) := by show _ = _; rw [← HL.out, M.lz_cons, if_pos rfl]
          have hT4 : (T.extract 1 T.size).size ≤ 3000 := by omega
          have HT3 := Lib.hid hT2
          replace hT4 := Lib.hid hT4
          clear hx HT HL hT2
          go_wp2_with fail
          go_round
          case rel => exact ⟨_, r, rfl, HT2, HL2, hT4.out⟩
          case measure => exact HT3.out
        · have HF : Hid (T.data.toList = M.lz L) := by show _ = _; rw [HT.out, ← HL.out, M.lz_cons, if_neg hc]
          clear hx HT HL hT2 HT2
          go_wp2_with fail
          go_meet
          exact ⟨T, rfl, HF, rfl⟩
  obtain ⟨T, rfl, HT, rfl⟩ := hcut
  obtain ⟨LL, hLL⟩ : ∃ LL, M.lz L = LL := ⟨_, rfl⟩
  have hLLn : LL.length ≤ 3000 := by rw [← hLL]; exact Nat.le_trans (M.lz_len L) hL
  have HDL := Lib.hid (show M.allD LL = true by rw [← hLL]; exact M.lz_allD HD.out)
  have HHD := Lib.hid (show LL = [] ∨ LL.headD 0 ≠ 48 by rw [← hLL]; exact M.lz_head L)
  have HM : Hid (M.nm (M.tz LL) (k + LL.length) = m) := by show _ = _; rw [← hLL]; exact hm.out
  rw [hLL] at HT
  obtain ⟨t, ht⟩ : ∃ t : Int, k + LL.length = t := ⟨_, rfl⟩
  have htb : -2000000000000 ≤ t ∧ t ≤ 2000000003000 := by omega
  rw [ht] at HM
  have HTT := Lib.hid ht
  clear hLL hm hS HD hL ht
  have hTs : T.size ≤ 3000 := by rw [str_size HT]; exact hLLn
  go_upto_block 2 with fail
  go_cut [1, 2] from 19 to 36 (fun sv kv wx => ∃ (T : ByteArray) (k : Int), sv = .string T ∧ kv = .int .i64 k ∧ Hid (T.data.toList = M.tz LL) ∧ Hid (k + (T.size : Int) = t) ∧ -2000000000000 ≤ k ∧ k ≤ 2000000003000 ∧ T.size ≤ 3000 ∧ wx = wc)
  case first =>
    go_wp2_with fail
    go_loop [1, 2] (fun sv kv => ∃ (T : ByteArray) (l : List UInt8) (k : Int), sv = .string T ∧ kv = .int .i64 k ∧ Hid (T.data.toList = l) ∧ Hid (M.tz l = M.tz LL) ∧ Hid (k + (T.size : Int) = t) ∧ T.size ≤ 3000 ∧ -2000000000000 ≤ k) (fun sv _ => strLen sv)
    case atStart => exact ⟨T, LL, k, rfl, rfl, HT, rfl, by show _ = _; rw [str_size HT]; exact HTT.out, hTs, by omega⟩
    case round =>
      clear HT hTs
      obtain ⟨T, l, k, rfl, rfl, HT, HL, HK, hT, hk1⟩ := hrel
      have hk2 : k ≤ 2000000003000 := by have := HK.out; omega
      rcases List.eq_nil_or_concat l with rfl | ⟨r, c, rfl⟩
      · have hz : T.size = 0 := by rw [str_size HT]; rfl
        have d1 : decide ((T.size : Int) > 0) = false := decide_eq_false (by omega)
        have d2 : decide (0 < T.size) = false := decide_eq_false (by omega)
        clear hz
        go_wp2_with fail
        go_meet
        exact ⟨T, k, rfl, rfl, by show _ = _; rw [← HL.out]; exact HT.out, HK, hk1, hk2, hT, rfl⟩
      · rw [List.concat_eq_append] at HT HL
        obtain ⟨x, hq, hx, hix, HT2, hT2, hp⟩ := str_last T c r HT.out
        have d1 : decide ((T.size : Int) > 0) = true := decide_eq_true (by omega)
        have d2 : decide (0 < T.size) = true := decide_eq_true hp
        have b1 : 0 ≤ (T.size : Int) - 1 ∧ (T.size : Int) - 1 < T.size := by omega
        have b2 : ((T.size : Int) - 1).toNat = T.size - 1 := by omega
        rcases u8_is48 c x hx with ⟨rfl, h48⟩ | ⟨hc, h48⟩
        · have HL2 : Hid (M.tz r = M.tz LL) := by show _ = _; rw [← HL.out, M.tz_snoc48]
          have hT3 := Lib.hid (show (T.extract 0 (T.size - 1)).size < T.size by omega)
          have hT4 := Lib.hid (show (T.extract 0 (T.size - 1)).size ≤ 3000 by omega)
          have HK2 : Hid (k + 1 + ((T.extract 0 (T.size - 1)).size : Int) = t) := by show _ = _; rw [← HK.out]; omega
          clear hx HT HL hT2 HK
          go_wp2_with fail
          go_round
          case rel => exact ⟨_, r, k + 1, rfl, rfl, HT2, HL2, HK2, hT4.out, by omega⟩
          case measure => exact hT3.out
        · have HF : Hid (T.data.toList = M.tz LL) := by show _ = _; rw [HT.out, ← HL.out, M.tz_snoc r c hc]
          clear hx HT HL hT2 HT2
          go_wp2_with fail
          go_meet
          exact ⟨T, k, rfl, rfl, HF, HK, hk1, hk2, hT, rfl⟩
  clear HT hTs hk
  obtain ⟨T, k, rfl, rfl, HT, HK, hk1, hk2, hT, rfl⟩ := hcut
  obtain ⟨D, hD⟩ : ∃ D, M.tz LL = D := ⟨_, rfl⟩
  rw [hD] at HT HM
  have hTD : T.size = D.length := str_size HT
  have HDD := Lib.hid (show M.allD D = true by rw [← hD]; exact M.tz_allD HDL.out)
  have HDH := Lib.hid (show D = [] ∨ D.headD 0 ≠ 48 by
    rcases M.tz_head LL HHD.out with h | h
    · left; rw [← hD]; exact h.1
    · right; rw [← hD]; exact h.2)
  clear hD HDL HHD HTT htb
  have ht : k + (T.size : Int) = t := HK.out
  have gX : w.heap.size < wc.heap.size := X.lt
  rcases Nat.eq_zero_or_pos T.size with h0 | h0
  · have hD0 : D = [] := List.eq_nil_of_length_eq_zero (by omega)
    have hT0 : T = ⟨#[]⟩ := by
      apply ByteArray.ext
      have := HT.out
      rw [hD0] at this
      exact Array.toList_inj.1 this
    have HM2 : Hid ((⟨0, 0, 0, false⟩ : M.Nm) = m) := by show _ = _; rw [← HM.out, hD0]; rfl
    subst hT0
    clear HM HT HK ht h0 hTD HDD HDH hD0 hT hk1 hk2
    obtain ⟨x0, x1, x2, x3, x4, x5⟩ := X.six
    go_wp2_with (refine store_ob2 rfl 54 (.tmp 6) (.tmp 39) rfl _ #[.int .i64 0, .bool false, .slice none 0 0, .int .i64 0, .int .i64 0, .bool false] #[.int .i64 1, .bool ng, .slice none 0 0, .int .i64 0, .int .i64 0, .bool false] rfl rfl 6 (by kernel_rfl) rfl rfl (by simp [Value.oneCell']) w U (by omega) 54 R ?_; intro V9 Z9 U9 ho)
    obtain ⟨z0, z1, z2, z3, z4, z5⟩ := Z9.six
    refine bodyPost_ret (v := itv 1 ng (.slice none 0 0) 0 0 false) (by simp [results, Tryz.results56, go_sem, z0, z1, z2, z3, z4, z5]) rfl ?_
    have hm2 := HM2.out
    subst hm2
    exact ⟨_, rfl, Nt.nil _ _ _, U9⟩
  · have hD0 : D ≠ [] := fun e => by
      have h9 := congrArg List.length e
      rw [List.length_nil] at h9
      omega
    have htl : T.toList = D := by rw [Lib.toList_data]; exact HT.out
    have hTne1 : T.toList.isEmpty = false := by rw [htl]; cases D <;> simp_all
    have hTne2 : (T.toList == []) = false := by rw [htl]; cases D <;> simp_all
    have hTne3 : ¬ T.toList = [] := by rw [htl]; exact hD0
    clear htl
    have hws : IntKind.i64.wrap ((T.size : Int) + k) = (T.size : Int) + k := IntWalk.i64_in _ (by omega)
    by_cases h1 : 1000 < t
    · have HM2 : Hid ((⟨0, 0, 1, false⟩ : M.Nm) = m) := by show _ = _; rw [← HM.out, M.nm, if_neg hD0, if_pos h1]
      have e1 : decide ((T.size : Int) + k > 1000) = true := decide_eq_true (by omega)
      have e1' : decide (1000 < (T.size : Int) + k) = true := decide_eq_true (by omega)
      clear HM HT HK ht hTD HDD HDH hD0 h1
      obtain ⟨x0, x1, x2, x3, x4, x5⟩ := X.six
      obtain ⟨f0, f1, f2, f3, f4, f5⟩ := X.fsix
      go_upto_region 10 with fail
      obtain ⟨Vp, hVp⟩ : ∃ Vp, wc.setCell ⟨w.heap.size, 4, none⟩ (.int .i64 1) = Vp := ⟨_, rfl⟩
      have oVp : ∀ b', b' ≠ w.heap.size → Vp.heap[b']? = wc.heap[b']? := by rw [← hVp]; exact fun b' hne => Below.heap_setCell _ _ _ b' hne
      replace U : Up w Vp := by rw [← hVp]; exact U.setCell (p := ⟨w.heap.size, 4, none⟩) (Nat.le_refl _) _
      replace X : Ob Vp w.heap.size 54 #[.int .i64 1, .bool ng, .slice none 0 0, .int .i64 0, .int .i64 1, .bool false] := by rw [← hVp]; exact X.put 4 (.int .i64 1)
      replace R := R.oth oVp (by omega)
      rw [hVp]
      clear hVp oVp x0 x1 x2 x3 x4 x5 f0 f1 f2 f3 f4 f5
      obtain ⟨x0, x1, x2, x3, x4, x5⟩ := X.six
      go_wp2_with (refine store_ob2 rfl 54 (.tmp 6) (.tmp 46) rfl _ #[.int .i64 0, .bool false, .slice none 0 0, .int .i64 0, .int .i64 0, .bool false] #[.int .i64 1, .bool ng, .slice none 0 0, .int .i64 0, .int .i64 1, .bool false] rfl rfl 6 (by kernel_rfl) rfl rfl (by simp [Value.oneCell']) w U (by omega) 54 R ?_; intro V9 Z9 U9 ho)
      obtain ⟨z0, z1, z2, z3, z4, z5⟩ := Z9.six
      refine bodyPost_ret (v := itv 1 ng (.slice none 0 0) 0 1 false) (by simp [results, Tryz.results56, go_sem, z0, z1, z2, z3, z4, z5]) rfl ?_
      have hm2 := HM2.out
      subst hm2
      exact ⟨_, rfl, Nt.nil _ _ _, U9⟩
    by_cases h2 : t ≤ -1000
    · have HM2 : Hid ((⟨0, 0, -1, false⟩ : M.Nm) = m) := by show _ = _; rw [← HM.out, M.nm, if_neg hD0, if_neg h1, if_pos h2]
      have e1 : decide ((T.size : Int) + k > 1000) = false := decide_eq_false (by omega)
      have e1' : decide (1000 < (T.size : Int) + k) = false := decide_eq_false (by omega)
      have e2 : decide ((T.size : Int) + k ≤ -1000) = true := decide_eq_true (by omega)
      have e2' : decide ((T.size : Int) + k ≤ -1000) = true := decide_eq_true (by omega)
      clear HM HT HK ht hTD HDD HDH hD0 h1 h2
      obtain ⟨x0, x1, x2, x3, x4, x5⟩ := X.six
      obtain ⟨f0, f1, f2, f3, f4, f5⟩ := X.fsix
      go_upto_region 13 with fail
      obtain ⟨Vp, hVp⟩ : ∃ Vp, wc.setCell ⟨w.heap.size, 4, none⟩ (.int .i64 (-1)) = Vp := ⟨_, rfl⟩
      have oVp : ∀ b', b' ≠ w.heap.size → Vp.heap[b']? = wc.heap[b']? := by rw [← hVp]; exact fun b' hne => Below.heap_setCell _ _ _ b' hne
      replace U : Up w Vp := by rw [← hVp]; exact U.setCell (p := ⟨w.heap.size, 4, none⟩) (Nat.le_refl _) _
      replace X : Ob Vp w.heap.size 54 #[.int .i64 1, .bool ng, .slice none 0 0, .int .i64 0, .int .i64 (-1), .bool false] := by rw [← hVp]; exact X.put 4 (.int .i64 (-1))
      replace R := R.oth oVp (by omega)
      rw [hVp]
      clear hVp oVp x0 x1 x2 x3 x4 x5 f0 f1 f2 f3 f4 f5
      obtain ⟨x0, x1, x2, x3, x4, x5⟩ := X.six
      go_wp2_with (refine store_ob2 rfl 54 (.tmp 6) (.tmp 53) rfl _ #[.int .i64 0, .bool false, .slice none 0 0, .int .i64 0, .int .i64 0, .bool false] #[.int .i64 1, .bool ng, .slice none 0 0, .int .i64 0, .int .i64 (-1), .bool false] rfl rfl 6 (by kernel_rfl) rfl rfl (by simp [Value.oneCell']) w U (by omega) 54 R ?_; intro V9 Z9 U9 ho)
      obtain ⟨z0, z1, z2, z3, z4, z5⟩ := Z9.six
      refine bodyPost_ret (v := itv 1 ng (.slice none 0 0) 0 (-1) false) (by simp [results, Tryz.results56, go_sem, z0, z1, z2, z3, z4, z5]) rfl ?_
      have hm2 := HM2.out
      subst hm2
      exact ⟨_, rfl, Nt.nil _ _ _, U9⟩
    by_cases h3 : 1990 < D.length
    · have hTs2 : T.size = D.length := hTD
      have e1 : decide ((T.size : Int) + k > 1000) = false := decide_eq_false (by omega)
      have e1' : decide (1000 < (T.size : Int) + k) = false := decide_eq_false (by omega)
      have e2 : decide ((T.size : Int) + k ≤ -1000) = false := decide_eq_false (by omega)
      have e2' : decide ((T.size : Int) + k ≤ -1000) = false := decide_eq_false (by omega)
      have e3 : decide ((T.size : Int) > 1990) = true := decide_eq_true (by omega)
      have e3' : decide (1990 < T.size) = true := decide_eq_true (by omega)
      obtain ⟨T2, hT2, HT2, zT2⟩ := cat9 (T.extract 0 1990) ⟨#[49]⟩ (D.take 1990) [49] 2000 (by
        show _ = _
        have e : (T.extract 0 1990).data.toList = T.data.toList.take 1990 := by
          rw [ByteArray.data_extract, Array.toList_extract]
          simp [List.extract]
        rw [e, HT.out]) rfl (by
        have : (⟨#[49]⟩ : ByteArray).size = 1 := rfl
        simp
        omega)
      have hl2 : (D.take 1990 ++ [49]).length = 1991 := by rw [List.length_append, List.length_take, List.length_singleton]; omega
      have HLN := Lib.hid hl2
      have HAL := Lib.hid (show M.allD (D.take 1990 ++ [49]) = true by
        rw [M.allD_append, Bool.and_eq_true]
        refine ⟨?_, rfl⟩
        have := HDD.out
        rw [← List.take_append_drop 1990 D] at this
        exact M.allD_left this)
      have HHH : Hid ((D.take 1990 ++ [(49 : UInt8)]).headD 0 ≠ 48) := (by
        show (D.take 1990 ++ [(49 : UInt8)]).headD 0 ≠ 48
        rcases HDH.out with h | h
        · exact absurd h hD0
        · cases D with
          | nil => exact absurd rfl hD0
          | cons c r => exact h)
      have HM2 : Hid ((⟨M.vsa 0 (D.take 1990 ++ [49]), k + (T.size : Int) - 1991, 0, true⟩ : M.Nm) = m) := by show _ = _; rw [← HM.out, M.nm, if_neg hD0, if_neg h1, if_neg h2, if_pos h3, ht]
      have hb9 : T.size ≤ 3000 := hT
      have c1 : (1990 : Int) ≤ T.size := by omega
      have HNE := Lib.hid (show D.take 1990 ++ [49] ≠ [] by simp)
      clear HM HT HK ht hTD HDD HDH hD0 h1 h2 h3 hTs2 hl2
      obtain ⟨x0, x1, x2, x3, x4, x5⟩ := X.six
      obtain ⟨f0, f1, f2, f3, f4, f5⟩ := X.fsix
      go_upto_region 16 with fail
      obtain ⟨Vp, hVp⟩ : ∃ Vp, wc.setCell ⟨w.heap.size, 5, none⟩ (.bool true) = Vp := ⟨_, rfl⟩
      have oVp : ∀ b', b' ≠ w.heap.size → Vp.heap[b']? = wc.heap[b']? := by rw [← hVp]; exact fun b' hne => Below.heap_setCell _ _ _ b' hne
      replace U : Up w Vp := by rw [← hVp]; exact U.setCell (p := ⟨w.heap.size, 5, none⟩) (Nat.le_refl _) _
      replace X : Ob Vp w.heap.size 54 #[.int .i64 1, .bool ng, .slice none 0 0, .int .i64 0, .int .i64 0, .bool true] := by rw [← hVp]; exact X.put 5 (.bool true)
      replace R := R.oth oVp (by omega)
      rw [hVp]
      clear hVp oVp x0 x1 x2 x3 x4 x5 f0 f1 f2 f3 f4 f5
      have CNU := Lib.hid (number1_any Vp T2 _ HT2.out HNE.out (by have := HLN.out; omega) (.inl HHH.out))
      go_upto_region 19 with (go_at_call 24; refine CNU.out.mono ?_; rintro _ Vn ⟨vn, rfl, hn, un⟩)
      have NH := hn HAL.out
      replace U := U.trans un
      replace X := X.up un
      replace R := R.up un
      obtain ⟨An, nn, cn, xn, rfl, hn1, hn2, hn3, hn4, hn5⟩ := NH
      have CW := Lib.hid (words_of Vn _ _ _ _ ⟨An, nn, cn, xn, rfl, hn1, hn2, hn3, hn4, hn5⟩ (by have := HLN.out; omega))
      have un' := Lib.hid un
      clear hn un hn1 hn2 hn3 hn4 hn5 CNU
      obtain ⟨x0, x1, x2, x3, x4, x5⟩ := X.six
      obtain ⟨f0, f1, f2, f3, f4, f5⟩ := X.fsix
      go_upto_region 20 with (go_at_call 25; refine CW.out.mono ?_; rintro _ Vw ⟨vw, rfl, hw, uw⟩; have y2 := (Below.cell (p := ⟨w.heap.size, 2, none⟩) uw X.lt).trans x2; have z2 := (Below.frozen (p := ⟨w.heap.size, 2, none⟩) uw X.lt).trans f2; obtain ⟨Aw, nw, cw, xw, rfl, hw1, hw2, hw3, hw4⟩ := hw)
      have NW : Nt Vw Vn.heap.size 2001 (.slice Aw nw cw) (M.vsa 0 (D.take 1990 ++ [49])) := ⟨Aw, nw, cw, xw, rfl, hw1, hw2, by have := HLN.out; omega, hw4⟩
      have gn : w.heap.size < Vn.heap.size := X.lt
      have gr : w.heap.size + 1 < Vn.heap.size := R.lt
      replace U := U.trans uw
      replace X := X.up uw
      replace R := R.up uw
      clear hw1 hw2 hw3 hw4 y2 z2 x0 x1 x2 x3 x4 x5 f0 f1 f2 f3 f4 f5 uw CW
      obtain ⟨Vd, hVd⟩ : ∃ Vd, Vw.setCell ⟨w.heap.size, 2, none⟩ (.slice Aw nw cw) = Vd := ⟨_, rfl⟩
      have oVd : ∀ b', b' ≠ w.heap.size → Vd.heap[b']? = Vw.heap[b']? := by rw [← hVd]; exact fun b' hne => Below.heap_setCell _ _ _ b' hne
      replace U : Up w Vd := by rw [← hVd]; exact U.setCell (p := ⟨w.heap.size, 2, none⟩) (Nat.le_refl _) _
      replace X : Ob Vd w.heap.size 54 #[.int .i64 1, .bool ng, .slice Aw nw cw, .int .i64 0, .int .i64 0, .bool true] := by rw [← hVd]; exact X.put 2 (.slice Aw nw cw)
      replace R := R.oth oVd (by omega)
      replace NW := NW.other oVd gn
      rw [hVd]
      clear hVd oVd
      obtain ⟨x0, x1, x2, x3, x4, x5⟩ := X.six
      obtain ⟨f0, f1, f2, f3, f4, f5⟩ := X.fsix
      go_upto_region 21 with fail
      obtain ⟨Vk, hVk⟩ : ∃ Vk, Vd.setCell ⟨w.heap.size, 3, none⟩ (.int .i64 (k + (T.size : Int) - 1991)) = Vk := ⟨_, rfl⟩
      have oVk : ∀ b', b' ≠ w.heap.size → Vk.heap[b']? = Vd.heap[b']? := by rw [← hVk]; exact fun b' hne => Below.heap_setCell _ _ _ b' hne
      replace U : Up w Vk := by rw [← hVk]; exact U.setCell (p := ⟨w.heap.size, 3, none⟩) (Nat.le_refl _) _
      replace X : Ob Vk w.heap.size 54 #[.int .i64 1, .bool ng, .slice Aw nw cw, .int .i64 (k + (T.size : Int) - 1991), .int .i64 0, .bool true] := by rw [← hVk]; exact X.put 3 (.int .i64 (k + (T.size : Int) - 1991))
      replace R := R.oth oVk (by omega)
      replace NW := NW.other oVk gn
      rw [hVk]
      clear hVk oVk x0 x1 x2 x3 x4 x5 f0 f1 f2 f3 f4 f5
      obtain ⟨x0, x1, x2, x3, x4, x5⟩ := X.six
      go_wp2_with (refine store_ob2 rfl 54 (.tmp 6) (.tmp 76) rfl _ #[.int .i64 0, .bool false, .slice none 0 0, .int .i64 0, .int .i64 0, .bool false] #[.int .i64 1, .bool ng, .slice Aw nw cw, .int .i64 (k + (T.size : Int) - 1991), .int .i64 0, .bool true] rfl rfl 6 (by kernel_rfl) rfl rfl (by simp [Value.oneCell']) w U (by omega) 54 R ?_; intro V9 Z9 U9 ho)
      obtain ⟨z0, z1, z2, z3, z4, z5⟩ := Z9.six
      refine bodyPost_ret (v := itv 1 ng (.slice Aw nw cw) (k + (T.size : Int) - 1991) 0 true) (by simp [results, Tryz.results56, go_sem, z0, z1, z2, z3, z4, z5]) rfl ?_
      have hm2 := HM2.out
      subst hm2
      exact ⟨_, rfl, (NW.other ho (by omega)).lower (by omega), U9⟩
    · have hl2 : D.length ≤ 1990 := by omega
      have e1 : decide ((T.size : Int) + k > 1000) = false := decide_eq_false (by omega)
      have e1' : decide (1000 < (T.size : Int) + k) = false := decide_eq_false (by omega)
      have e2 : decide ((T.size : Int) + k ≤ -1000) = false := decide_eq_false (by omega)
      have e2' : decide ((T.size : Int) + k ≤ -1000) = false := decide_eq_false (by omega)
      have e3 : decide ((T.size : Int) > 1990) = false := decide_eq_false (by omega)
      have e3' : decide (1990 < T.size) = false := decide_eq_false (by omega)
      have HLN := Lib.hid hl2
      have HM2 : Hid ((⟨M.vsa 0 D, k, 0, false⟩ : M.Nm) = m) := by
        show _ = _
        rw [← HM.out, M.nm, if_neg hD0, if_neg h1, if_neg h2, if_neg h3, ← ht, hTD]
        congr 1
        omega
      have HAL := HDD
      have CNU := Lib.hid (number1_any wc T D HT.out hD0 (by omega) (.inl (by rcases HDH.out with h | h; exact absurd h hD0; exact h)))
      clear HM HT HK ht hTD HDD HDH hD0 h1 h2 h3 hl2
      go_upto_region 19 with (go_at_call 24; refine CNU.out.mono ?_; rintro _ Vn ⟨vn, rfl, hn, un⟩)
      have NH := hn HAL.out
      replace U := U.trans un
      replace X := X.up un
      replace R := R.up un
      obtain ⟨An, nn, cn, xn, rfl, hn1, hn2, hn3, hn4, hn5⟩ := NH
      have CW := Lib.hid (words_of Vn _ _ _ _ ⟨An, nn, cn, xn, rfl, hn1, hn2, hn3, hn4, hn5⟩ (by have := HLN.out; omega))
      have un' := Lib.hid un
      clear hn un hn1 hn2 hn3 hn4 hn5 CNU
      obtain ⟨x0, x1, x2, x3, x4, x5⟩ := X.six
      obtain ⟨f0, f1, f2, f3, f4, f5⟩ := X.fsix
      go_upto_region 20 with (go_at_call 25; refine CW.out.mono ?_; rintro _ Vw ⟨vw, rfl, hw, uw⟩; have y2 := (Below.cell (p := ⟨w.heap.size, 2, none⟩) uw X.lt).trans x2; have z2 := (Below.frozen (p := ⟨w.heap.size, 2, none⟩) uw X.lt).trans f2; obtain ⟨Aw, nw, cw, xw, rfl, hw1, hw2, hw3, hw4⟩ := hw)
      have NW : Nt Vw Vn.heap.size 2001 (.slice Aw nw cw) (M.vsa 0 D) := ⟨Aw, nw, cw, xw, rfl, hw1, hw2, by have := HLN.out; omega, hw4⟩
      have gn : w.heap.size < Vn.heap.size := X.lt
      have gr : w.heap.size + 1 < Vn.heap.size := R.lt
      replace U := U.trans uw
      replace X := X.up uw
      replace R := R.up uw
      clear hw1 hw2 hw3 hw4 y2 z2 x0 x1 x2 x3 x4 x5 f0 f1 f2 f3 f4 f5 uw CW
      obtain ⟨Vd, hVd⟩ : ∃ Vd, Vw.setCell ⟨w.heap.size, 2, none⟩ (.slice Aw nw cw) = Vd := ⟨_, rfl⟩
      have oVd : ∀ b', b' ≠ w.heap.size → Vd.heap[b']? = Vw.heap[b']? := by rw [← hVd]; exact fun b' hne => Below.heap_setCell _ _ _ b' hne
      replace U : Up w Vd := by rw [← hVd]; exact U.setCell (p := ⟨w.heap.size, 2, none⟩) (Nat.le_refl _) _
      replace X : Ob Vd w.heap.size 54 #[.int .i64 1, .bool ng, .slice Aw nw cw, .int .i64 0, .int .i64 0, .bool false] := by rw [← hVd]; exact X.put 2 (.slice Aw nw cw)
      replace R := R.oth oVd (by omega)
      replace NW := NW.other oVd gn
      rw [hVd]
      clear hVd oVd
      obtain ⟨x0, x1, x2, x3, x4, x5⟩ := X.six
      obtain ⟨f0, f1, f2, f3, f4, f5⟩ := X.fsix
      go_upto_region 21 with fail
      obtain ⟨Vk, hVk⟩ : ∃ Vk, Vd.setCell ⟨w.heap.size, 3, none⟩ (.int .i64 k) = Vk := ⟨_, rfl⟩
      have oVk : ∀ b', b' ≠ w.heap.size → Vk.heap[b']? = Vd.heap[b']? := by rw [← hVk]; exact fun b' hne => Below.heap_setCell _ _ _ b' hne
      replace U : Up w Vk := by rw [← hVk]; exact U.setCell (p := ⟨w.heap.size, 3, none⟩) (Nat.le_refl _) _
      replace X : Ob Vk w.heap.size 54 #[.int .i64 1, .bool ng, .slice Aw nw cw, .int .i64 k, .int .i64 0, .bool false] := by rw [← hVk]; exact X.put 3 (.int .i64 k)
      replace R := R.oth oVk (by omega)
      replace NW := NW.other oVk gn
      rw [hVk]
      clear hVk oVk x0 x1 x2 x3 x4 x5 f0 f1 f2 f3 f4 f5
      obtain ⟨x0, x1, x2, x3, x4, x5⟩ := X.six
      go_wp2_with (refine store_ob2 rfl 54 (.tmp 6) (.tmp 76) rfl _ #[.int .i64 0, .bool false, .slice none 0 0, .int .i64 0, .int .i64 0, .bool false] #[.int .i64 1, .bool ng, .slice Aw nw cw, .int .i64 k, .int .i64 0, .bool false] rfl rfl 6 (by kernel_rfl) rfl rfl (by simp [Value.oneCell']) w U (by omega) 54 R ?_; intro V9 Z9 U9 ho)
      obtain ⟨z0, z1, z2, z3, z4, z5⟩ := Z9.six
      refine bodyPost_ret (v := itv 1 ng (.slice Aw nw cw) k 0 false) (by simp [results, Tryz.results56, go_sem, z0, z1, z2, z3, z4, z5]) rfl ?_
      have hm2 := HM2.out
      subst hm2
      exact ⟨_, rfl, (NW.other ho (by omega)).lower (by omega), U9⟩
end Go.Proofs.YtjmnobgllnaljaaGreatDoor
/-
  The reference of layer 9: Scan: its contract.
-/
namespace Go.Proofs.YtjmnobgllnaljaaGreatDoor
open Go.RowKit Go.Shelf
set_option linter.unusedVariables false

/-- One byte of a text. -/
theorem str_one {s : ByteArray} {l : List UInt8} (h : s.data.toList = l) (i : Nat) (hi : i < s.size) : Hid ((s.extract i (i + 1)).data.toList = [l.getD i 0]) ∧ (s.extract i (i + 1)).size ≤ 1 := by
  have hl : i < l.length := by rw [← h, Array.length_toList]; exact hi
  constructor
  · show _ = _
    have e : (s.extract i (i + 1)).data.toList = (s.data.toList.drop i).take 1 := by
      rw [ByteArray.data_extract, Array.toList_extract]
      simp [List.extract]
    rw [e, h, M.drop_at hl]
    rfl
  · simp
    omega
/-- What the reference's Scan answers. -/
def Rsc (l : List UInt8) (w : World) (e : Ending) (w' : World) : Prop := ∃ r i er, M.rs l = (r, i, er) ∧ Scn r i er w e w'

set_option maxHeartbeats 16000000 in
set_option maxRecDepth 100000 in
theorem rscan_any (w : World) (S : ByteArray) (l : List UInt8) (hS : Hid (S.data.toList = l)) (hl : l.length ≤ 3000) :
    Calls Tryz.prog 31 #[.string S] w (Rsc l w) := by
  have hSz : S.size = l.length := str_size hS
  have hS3 : S.size ≤ 3000 := by omega
  have HSZ := Lib.hid hSz
  have hget : ∀ (i : Nat) (h : i < S.size), S[i] = l.getD i 0 := by
    intro i h
    rw [str_get hS.out i h (by omega), List.getD_eq_getElem?_getD, List.getElem?_eq_getElem (by omega)]
    rfl
  have HGET := Lib.hid hget
  clear hSz hget hl
  have U := Up.refl w
  go_enter Tryz.func31, Tryz.ntmps31
  go_upto_region 2 with fail
  obtain ⟨V1, hV1⟩ : ∃ V1, w.alloc (.cells #[.int .i64 0, .bool false, .slice none 0 0, .int .i64 0, .int .i64 0, .bool false] 54) = V1 := ⟨_, rfl⟩
  have R : Ob V1 w.heap.size 54 #[.int .i64 0, .bool false, .slice none 0 0, .int .i64 0, .int .i64 0, .bool false] := by rw [← hV1]; exact Ob.mk_ _ _ _
  replace U : Up w V1 := by rw [← hV1]; exact U.alloc _
  rw [hV1]
  clear hV1
  go_upto_block 0 with (refine store_ob rfl 54 (.tmp 6) (.tmp 12) rfl _ #[.int .i64 0, .bool false, .slice none 0 0, .int .i64 0, .int .i64 0, .bool false] #[.int .i64 0, .bool false, .slice none 0 0, .int .i64 0, .int .i64 0, .bool false] rfl rfl 6 (by kernel_rfl) rfl rfl (by simp [Value.oneCell']) V1 ((Up.refl _).alloc _) (Nat.le_refl _) 54 (Ob.mk_ _ _ _) ?_; intro V2 X q2)
  have gl : w.heap.size < V1.heap.size := R.lt
  obtain ⟨g, hg⟩ : ∃ g, V1.heap.size = g := ⟨_, rfl⟩
  rw [hg] at X gl ⊢
  replace R := R.up q2
  replace U := U.trans q2
  clear hg q2
  go_wp2_with fail
  go_loopw [5, 7, 8, 9, 10, 11] (fun sv dv ev bv lv iv wr => ∃ (i : Nat) (x : M.Sc) (D : ByteArray), i ≤ S.size ∧ sv = .int .i64 (x.st : Int) ∧ dv = .string D ∧ ev = .int .i64 (M.pwc x : Int) ∧ bv = .int .i64 (x.bh : Int) ∧ lv = .bool x.dn ∧ iv = .int .i64 (i : Int) ∧ Hid (D.data.toList = x.ds) ∧ Hid (M.Rdn l i x) ∧ Hid (M.Bds x i) ∧ Ob wr g 54 #[.int .i64 0, .bool x.neg, .slice none 0 0, .int .i64 0, .int .i64 0, .bool false] ∧ Ob wr w.heap.size 54 #[.int .i64 0, .bool false, .slice none 0 0, .int .i64 0, .int .i64 0, .bool false] ∧ Up w wr) (fun _ _ _ _ _ iv _ => S.size - (intOf iv).toNat)
  case atStart => exact ⟨0, M.sc0, _, Nat.zero_le _, rfl, rfl, rfl, rfl, rfl, rfl, rfl, M.Rdn.start l, M.Bds.start, X, R, U⟩
  case round =>
    clear X R U
    obtain ⟨i, x, D, hi, rfl, rfl, rfl, rfl, rfl, rfl, HD, HR, HB, X, R, U⟩ := hrel
    obtain ⟨st, hst⟩ : ∃ st, x.st = st := ⟨_, rfl⟩
    obtain ⟨ng, hng⟩ : ∃ ng, x.neg = ng := ⟨_, rfl⟩
    obtain ⟨bh, hbh⟩ : ∃ bh, x.bh = bh := ⟨_, rfl⟩
    obtain ⟨dn, hdn⟩ : ∃ dn, x.dn = dn := ⟨_, rfl⟩
    obtain ⟨pp, hpp⟩ : ∃ pp, M.pwc x = pp := ⟨_, rfl⟩
    have hDs : D.size ≤ 3000 := by rw [str_size HD]; exact Nat.le_trans HB.out.ds (by omega)
    have hbb : bh ≤ 3000 := by rw [← hbh]; exact Nat.le_trans HB.out.bh (Nat.le_trans HB.out.ds (by omega))
    have hpb : pp ≤ 1099511627776 := by rw [← hpp]; exact Nat.min_le_right _ _
    have hlv : M.lv st = true := by rw [← hst]; exact HB.out.lv
    have hs32 : st ≤ 32 := by rw [← hst]; exact HB.out.st
    rw [hst, hbh, hdn, hpp]
    rw [hng] at X
    have Hst := Lib.hid hst
    have Hng := Lib.hid hng
    have Hbh := Lib.hid hbh
    have Hdn := Lib.hid hdn
    have Hpp := Lib.hid hpp
    have Hlv := Lib.hid hlv
    clear hst hng hbh hdn hpp hlv
    have gl2 : g < wr.heap.size := X.lt
    by_cases hlt : i < S.size
    · have d1 : decide ((i : Int) < (S.size : Int)) = true := decide_eq_true (by omega)
      have d2 : decide (i < S.size) = true := decide_eq_true hlt
      obtain ⟨c, hc⟩ : ∃ c, l.getD i 0 = c := ⟨_, rfl⟩
      obtain ⟨C, hC⟩ : ∃ C : Nat, c.toNat = C := ⟨_, rfl⟩
      have hC2 : C < 256 := by rw [← hC]; exact c.toNat_lt
      have hix : ((S[i]).toNat : Int) = (C : Int) := by rw [HGET.out i hlt, hc, hC]
      obtain ⟨ns, hns⟩ : ∃ ns, M.nx st C = ns := ⟨_, rfl⟩
      have HNX := Lib.hid (show M.nx x.st c.toNat = ns by rw [Hst.out, hC]; exact hns)
      have CN := Lib.hid (rnext_any wr st Hlv.out C hC2 ns (Lib.hid hns))
      have HC := Lib.hid hc
      have HCC := Lib.hid hC
      clear hc hC hns
      have hns2 : ns = 99 ∨ ns = 1 ∨ ns = 2 ∨ ns = 5 ∨ ns = 7 ∨ ns = 8 ∨ (ns ≠ 99 ∧ ns ≠ 1 ∧ ns ≠ 2 ∧ ns ≠ 5 ∧ ns ≠ 7 ∧ ns ≠ 8) := by omega
      rcases hns2 with rfl | rfl | rfl | rfl | rfl | rfl | ⟨n1, n2, n3, n4, n5, n6⟩
      · have CN1 : Hid (Calls Tryz.prog 54 #[.int .i64 (st : Int), .int .u8 (C : Int)] wr (Same (.int .i64 99) wr)) := CN.out
        clear CN
        have HRS := Lib.hid (M.rs_error (HR.out.stop (by have := HSZ.out; omega) (by rw [HC.out]; exact HNX.out)))
        clear HR HB HD HC HNX
        go_wp2_with (first | (go_at_call 54; refine CN1.out.mono ?_; rintro _ _ ⟨rfl, rfl⟩) | (refine store_ob2 rfl 54 (.tmp 2) (.tmp 27) rfl _ #[.int .i64 0, .bool false, .slice none 0 0, .int .i64 0, .int .i64 0, .bool false] #[.int .i64 0, .bool false, .slice none 0 0, .int .i64 0, .int .i64 0, .bool false] rfl rfl 6 (by kernel_rfl) rfl rfl (by simp [Value.oneCell']) w U (Nat.le_refl _) 54 R ?_; intro V9 Z9 U9 ho))
        obtain ⟨z0, z1, z2, z3, z4, z5⟩ := Z9.six
        refine bodyPost_ret (v := .tuple #[itv 0 false (.slice none 0 0) 0 0 false, .int .i64 (i : Int), .int .i64 2]) (by simp [results, Tryz.results31, go_sem, z0, z1, z2, z3, z4, z5]) rfl ?_
        exact ⟨_, _, _, HRS.out, _, rfl, Nt.nil _ _ _, U9⟩
      · have CN1 : Hid (Calls Tryz.prog 54 #[.int .i64 (st : Int), .int .u8 (C : Int)] wr (Same (.int .i64 1) wr)) := CN.out
        clear CN
        have hne : M.nx x.st c.toNat ≠ 99 := by rw [HNX.out]; omega
        have RD : Hid (M.Rdn l (i + 1) (M.stp x c)) := by have := HR.out.step (by have := HSZ.out; omega) (by rw [HC.out]; exact hne); rw [HC.out] at this; exact this
        have BD : Hid (M.Bds (M.stp x c) (i + 1)) := HB.out.step c hne
        clear hne
        have E1 : Hid (Value.int .i64 1 = .int .i64 ((M.stp x c).st : Int)) := by show _ = _; rw [show (M.stp x c).st = M.nx x.st c.toNat from rfl, HNX.out]; rfl
        have E2 : Hid (Value.int .i64 (pp : Int) = .int .i64 (M.pwc (M.stp x c) : Int)) := by show _ = _; rw [M.pwc_stay x c (by rw [HNX.out]; omega), Hpp.out]
        have E3 : Hid (Value.int .i64 (bh : Int) = .int .i64 ((M.stp x c).bh : Int)) := by show _ = _; rw [show (M.stp x c).bh = if M.nx x.st c.toNat = 5 then x.bh + 1 else x.bh from rfl, HNX.out, Hbh.out]; rw [if_neg (by omega)]
        have E4 : Hid (Value.bool dn = .bool (M.stp x c).dn) := by show _ = _; rw [show (M.stp x c).dn = if M.nx x.st c.toNat = 7 then c.toNat == 45 else x.dn from rfl, HNX.out]; rw [if_neg (by omega), Hdn.out]
        have E5 : Hid ((M.stp x c).neg = true) := by show _ = _; rw [show (M.stp x c).neg = if M.nx x.st c.toNat = 1 then true else x.neg from rfl, HNX.out]; rfl
        have E6 : Hid ((M.stp x c).ds = x.ds) := by show _ = _; rw [show (M.stp x c).ds = if M.nx x.st c.toNat = 2 ∨ M.nx x.st c.toNat = 5 then x.ds ++ [c] else x.ds from rfl, HNX.out]; rw [if_neg (by omega)]
        have HD2 : Hid (D.data.toList = (M.stp x c).ds) := by show _ = _; rw [E6.out]; exact HD.out
        clear HR HB HNX HC HCC Hst Hng Hbh Hdn Hpp Hlv
        obtain ⟨x0, x1, x2, x3, x4, x5⟩ := X.six
        obtain ⟨f0, f1, f2, f3, f4, f5⟩ := X.fsix
        go_wp2_with (go_at_call 54; refine CN1.out.mono ?_; rintro _ _ ⟨rfl, rfl⟩)
        have oV : ∀ b', b' ≠ g → (wr.setCell ⟨g, 1, none⟩ (.bool true)).heap[b']? = wr.heap[b']? := fun b' hne => Below.heap_setCell _ _ _ b' hne
        have X2 : Ob (wr.setCell ⟨g, 1, none⟩ (.bool true)) g 54 #[.int .i64 0, .bool (M.stp x c).neg, .slice none 0 0, .int .i64 0, .int .i64 0, .bool false] := by rw [E5.out]; exact X.put 1 (.bool true)
        have R2 := R.oth oV (by omega)
        have U2 : Up w (wr.setCell ⟨g, 1, none⟩ (.bool true)) := U.setCell (p := ⟨g, 1, none⟩) (Nat.le_of_lt gl) _
        go_roundw
        case rel => exact ⟨i + 1, M.stp x c, D, by omega, E1.out, rfl, E2.out, E3.out, E4.out, by go_num, HD2, RD, BD, X2, R2, U2⟩
        case measure => simp [intOf]; omega
      · have CN1 : Hid (Calls Tryz.prog 54 #[.int .i64 (st : Int), .int .u8 (C : Int)] wr (Same (.int .i64 2) wr)) := CN.out
        clear CN
        have hne : M.nx x.st c.toNat ≠ 99 := by rw [HNX.out]; omega
        have RD : Hid (M.Rdn l (i + 1) (M.stp x c)) := by have := HR.out.step (by have := HSZ.out; omega) (by rw [HC.out]; exact hne); rw [HC.out] at this; exact this
        have BD : Hid (M.Bds (M.stp x c) (i + 1)) := HB.out.step c hne
        clear hne
        have E1 : Hid (Value.int .i64 2 = .int .i64 ((M.stp x c).st : Int)) := by show _ = _; rw [show (M.stp x c).st = M.nx x.st c.toNat from rfl, HNX.out]; rfl
        have E2 : Hid (Value.int .i64 (pp : Int) = .int .i64 (M.pwc (M.stp x c) : Int)) := by show _ = _; rw [M.pwc_stay x c (by rw [HNX.out]; omega), Hpp.out]
        have E3 : Hid (Value.int .i64 (bh : Int) = .int .i64 ((M.stp x c).bh : Int)) := by show _ = _; rw [show (M.stp x c).bh = if M.nx x.st c.toNat = 5 then x.bh + 1 else x.bh from rfl, HNX.out, Hbh.out]; rw [if_neg (by omega)]
        have E4 : Hid (Value.bool dn = .bool (M.stp x c).dn) := by show _ = _; rw [show (M.stp x c).dn = if M.nx x.st c.toNat = 7 then c.toNat == 45 else x.dn from rfl, HNX.out]; rw [if_neg (by omega), Hdn.out]
        have E5 : Hid ((M.stp x c).neg = ng) := by show _ = _; rw [show (M.stp x c).neg = if M.nx x.st c.toNat = 1 then true else x.neg from rfl, HNX.out]; rw [if_neg (by omega), Hng.out]
        have E6 : Hid ((M.stp x c).ds = x.ds ++ [c]) := by show _ = _; rw [show (M.stp x c).ds = if M.nx x.st c.toNat = 2 ∨ M.nx x.st c.toNat = 5 then x.ds ++ [c] else x.ds from rfl, HNX.out]; rfl
        obtain ⟨o1, o2⟩ := str_one hS.out i hlt
        obtain ⟨D2, hD2, HD2', zD2⟩ := cat9 D (S.extract i (i + 1)) _ _ 3001 HD o1 (by omega)
        have HD2 : Hid (D2.data.toList = (M.stp x c).ds) := by show _ = _; rw [E6.out, HD2'.out, HC.out]
        have X2 : Ob wr g 54 #[.int .i64 0, .bool (M.stp x c).neg, .slice none 0 0, .int .i64 0, .int .i64 0, .bool false] := by rw [E5.out]; exact X
        clear HD2' o1
        clear HR HB HNX HC HCC Hst Hng Hbh Hdn Hpp Hlv
        go_wp2_with (go_at_call 54; refine CN1.out.mono ?_; rintro _ _ ⟨rfl, rfl⟩)
        go_roundw
        case rel => exact ⟨i + 1, M.stp x c, _, by omega, E1.out, rfl, E2.out, E3.out, E4.out, by go_num, HD2, RD, BD, X2, R, U⟩
        case measure => simp [intOf]; omega
      · have CN1 : Hid (Calls Tryz.prog 54 #[.int .i64 (st : Int), .int .u8 (C : Int)] wr (Same (.int .i64 5) wr)) := CN.out
        clear CN
        have hne : M.nx x.st c.toNat ≠ 99 := by rw [HNX.out]; omega
        have RD : Hid (M.Rdn l (i + 1) (M.stp x c)) := by have := HR.out.step (by have := HSZ.out; omega) (by rw [HC.out]; exact hne); rw [HC.out] at this; exact this
        have BD : Hid (M.Bds (M.stp x c) (i + 1)) := HB.out.step c hne
        clear hne
        have E1 : Hid (Value.int .i64 5 = .int .i64 ((M.stp x c).st : Int)) := by show _ = _; rw [show (M.stp x c).st = M.nx x.st c.toNat from rfl, HNX.out]; rfl
        have E2 : Hid (Value.int .i64 (pp : Int) = .int .i64 (M.pwc (M.stp x c) : Int)) := by show _ = _; rw [M.pwc_stay x c (by rw [HNX.out]; omega), Hpp.out]
        have E3 : Hid (Value.int .i64 ((bh : Int) + 1) = .int .i64 ((M.stp x c).bh : Int)) := by show _ = _; rw [show (M.stp x c).bh = if M.nx x.st c.toNat = 5 then x.bh + 1 else x.bh from rfl, HNX.out, Hbh.out]; rfl
        have E4 : Hid (Value.bool dn = .bool (M.stp x c).dn) := by show _ = _; rw [show (M.stp x c).dn = if M.nx x.st c.toNat = 7 then c.toNat == 45 else x.dn from rfl, HNX.out]; rw [if_neg (by omega), Hdn.out]
        have E5 : Hid ((M.stp x c).neg = ng) := by show _ = _; rw [show (M.stp x c).neg = if M.nx x.st c.toNat = 1 then true else x.neg from rfl, HNX.out]; rw [if_neg (by omega), Hng.out]
        have E6 : Hid ((M.stp x c).ds = x.ds ++ [c]) := by show _ = _; rw [show (M.stp x c).ds = if M.nx x.st c.toNat = 2 ∨ M.nx x.st c.toNat = 5 then x.ds ++ [c] else x.ds from rfl, HNX.out]; rfl
        obtain ⟨o1, o2⟩ := str_one hS.out i hlt
        obtain ⟨D2, hD2, HD2', zD2⟩ := cat9 D (S.extract i (i + 1)) _ _ 3001 HD o1 (by omega)
        have HD2 : Hid (D2.data.toList = (M.stp x c).ds) := by show _ = _; rw [E6.out, HD2'.out, HC.out]
        have X2 : Ob wr g 54 #[.int .i64 0, .bool (M.stp x c).neg, .slice none 0 0, .int .i64 0, .int .i64 0, .bool false] := by rw [E5.out]; exact X
        clear HD2' o1
        clear HR HB HNX HC HCC Hst Hng Hbh Hdn Hpp Hlv
        go_wp2_with (go_at_call 54; refine CN1.out.mono ?_; rintro _ _ ⟨rfl, rfl⟩)
        go_roundw
        case rel => exact ⟨i + 1, M.stp x c, _, by omega, E1.out, rfl, E2.out, E3.out, E4.out, by go_num, HD2, RD, BD, X2, R, U⟩
        case measure => simp [intOf]; omega
      · have CN1 : Hid (Calls Tryz.prog 54 #[.int .i64 (st : Int), .int .u8 (C : Int)] wr (Same (.int .i64 7) wr)) := CN.out
        clear CN
        have hne : M.nx x.st c.toNat ≠ 99 := by rw [HNX.out]; omega
        have RD : Hid (M.Rdn l (i + 1) (M.stp x c)) := by have := HR.out.step (by have := HSZ.out; omega) (by rw [HC.out]; exact hne); rw [HC.out] at this; exact this
        have BD : Hid (M.Bds (M.stp x c) (i + 1)) := HB.out.step c hne
        clear hne
        have E1 : Hid (Value.int .i64 7 = .int .i64 ((M.stp x c).st : Int)) := by show _ = _; rw [show (M.stp x c).st = M.nx x.st c.toNat from rfl, HNX.out]; rfl
        have E2 : Hid (Value.int .i64 (pp : Int) = .int .i64 (M.pwc (M.stp x c) : Int)) := by show _ = _; rw [M.pwc_stay x c (by rw [HNX.out]; omega), Hpp.out]
        have E3 : Hid (Value.int .i64 (bh : Int) = .int .i64 ((M.stp x c).bh : Int)) := by show _ = _; rw [show (M.stp x c).bh = if M.nx x.st c.toNat = 5 then x.bh + 1 else x.bh from rfl, HNX.out, Hbh.out]; rw [if_neg (by omega)]
        have E4 : Hid (Value.bool ((C : Int) == 45) = .bool (M.stp x c).dn) := by show _ = _; rw [show (M.stp x c).dn = if M.nx x.st c.toNat = 7 then c.toNat == 45 else x.dn from rfl, HNX.out]; rw [if_pos rfl, HCC.out]; congr 1; rw [Bool.eq_iff_iff, beq_iff_eq, beq_iff_eq]; omega
        have E5 : Hid ((M.stp x c).neg = ng) := by show _ = _; rw [show (M.stp x c).neg = if M.nx x.st c.toNat = 1 then true else x.neg from rfl, HNX.out]; rw [if_neg (by omega), Hng.out]
        have E6 : Hid ((M.stp x c).ds = x.ds) := by show _ = _; rw [show (M.stp x c).ds = if M.nx x.st c.toNat = 2 ∨ M.nx x.st c.toNat = 5 then x.ds ++ [c] else x.ds from rfl, HNX.out]; rw [if_neg (by omega)]
        have HD2 : Hid (D.data.toList = (M.stp x c).ds) := by show _ = _; rw [E6.out]; exact HD.out
        have X2 : Ob wr g 54 #[.int .i64 0, .bool (M.stp x c).neg, .slice none 0 0, .int .i64 0, .int .i64 0, .bool false] := by rw [E5.out]; exact X
        clear HR HB HNX HC HCC Hst Hng Hbh Hdn Hpp Hlv
        go_wp2_with (go_at_call 54; refine CN1.out.mono ?_; rintro _ _ ⟨rfl, rfl⟩)
        go_roundw
        case rel => exact ⟨i + 1, M.stp x c, D, by omega, E1.out, rfl, E2.out, E3.out, E4.out, by go_num, HD2, RD, BD, X2, R, U⟩
        case measure => simp [intOf]; omega
      · have CN1 : Hid (Calls Tryz.prog 54 #[.int .i64 (st : Int), .int .u8 (C : Int)] wr (Same (.int .i64 8) wr)) := CN.out
        clear CN
        have hne : M.nx x.st c.toNat ≠ 99 := by rw [HNX.out]; omega
        have RD : Hid (M.Rdn l (i + 1) (M.stp x c)) := by have := HR.out.step (by have := HSZ.out; omega) (by rw [HC.out]; exact hne); rw [HC.out] at this; exact this
        have BD : Hid (M.Bds (M.stp x c) (i + 1)) := HB.out.step c hne
        clear hne
        obtain ⟨m1, m2, m3⟩ := M.pwc_step x c HNX.out
        rw [Hpp.out, HCC.out] at m1 m2 m3
        obtain ⟨p2, hp2⟩ : ∃ p2, M.pwc (M.stp x c) = p2 := ⟨_, rfl⟩
        rw [hp2] at m1
        have E1 : Hid (Value.int .i64 8 = .int .i64 ((M.stp x c).st : Int)) := by show _ = _; rw [show (M.stp x c).st = M.nx x.st c.toNat from rfl, HNX.out]; rfl
        have E2 : Hid (Value.int .i64 (p2 : Int) = .int .i64 (M.pwc (M.stp x c) : Int)) := by show _ = _; rw [hp2]
        have E3 : Hid (Value.int .i64 (bh : Int) = .int .i64 ((M.stp x c).bh : Int)) := by show _ = _; rw [show (M.stp x c).bh = if M.nx x.st c.toNat = 5 then x.bh + 1 else x.bh from rfl, HNX.out, Hbh.out]; rw [if_neg (by omega)]
        have E4 : Hid (Value.bool dn = .bool (M.stp x c).dn) := by show _ = _; rw [show (M.stp x c).dn = if M.nx x.st c.toNat = 7 then c.toNat == 45 else x.dn from rfl, HNX.out]; rw [if_neg (by omega), Hdn.out]
        have E5 : Hid ((M.stp x c).neg = ng) := by show _ = _; rw [show (M.stp x c).neg = if M.nx x.st c.toNat = 1 then true else x.neg from rfl, HNX.out]; rw [if_neg (by omega), Hng.out]
        have E6 : Hid ((M.stp x c).ds = x.ds) := by show _ = _; rw [show (M.stp x c).ds = if M.nx x.st c.toNat = 2 ∨ M.nx x.st c.toNat = 5 then x.ds ++ [c] else x.ds from rfl, HNX.out]; rw [if_neg (by omega)]
        have HD2 : Hid (D.data.toList = (M.stp x c).ds) := by show _ = _; rw [E6.out]; exact HD.out
        have X2 : Ob wr g 54 #[.int .i64 0, .bool (M.stp x c).neg, .slice none 0 0, .int .i64 0, .int .i64 0, .bool false] := by rw [E5.out]; exact X
        clear hp2
        clear HR HB HNX HC HCC Hst Hng Hbh Hdn Hpp Hlv
        go_wp2_with (go_at_call 54; refine CN1.out.mono ?_; rintro _ _ ⟨rfl, rfl⟩)
        go_roundw
        case rel => exact ⟨i + 1, M.stp x c, D, by omega, E1.out, rfl, E2.out, E3.out, E4.out, by go_num, HD2, RD, BD, X2, R, U⟩
        case measure => simp [intOf]; omega
      · have CN1 := CN
        clear CN
        have b1 : ((ns : Int) == 99) = false := by rw [beq_eq_false_iff_ne]; omega
        have b2 : ((ns : Int) == 1) = false := by rw [beq_eq_false_iff_ne]; omega
        have b3 : ((ns : Int) == 2) = false := by rw [beq_eq_false_iff_ne]; omega
        have b4 : ((ns : Int) == 5) = false := by rw [beq_eq_false_iff_ne]; omega
        have b5 : ((ns : Int) == 7) = false := by rw [beq_eq_false_iff_ne]; omega
        have b6 : ((ns : Int) == 8) = false := by rw [beq_eq_false_iff_ne]; omega
        have hne : M.nx x.st c.toNat ≠ 99 := by rw [HNX.out]; omega
        have RD : Hid (M.Rdn l (i + 1) (M.stp x c)) := by have := HR.out.step (by have := HSZ.out; omega) (by rw [HC.out]; exact hne); rw [HC.out] at this; exact this
        have BD : Hid (M.Bds (M.stp x c) (i + 1)) := HB.out.step c hne
        clear hne
        have E1 : Hid (Value.int .i64 (ns : Int) = .int .i64 ((M.stp x c).st : Int)) := by show _ = _; rw [show (M.stp x c).st = M.nx x.st c.toNat from rfl, HNX.out]
        have E2 : Hid (Value.int .i64 (pp : Int) = .int .i64 (M.pwc (M.stp x c) : Int)) := by show _ = _; rw [M.pwc_stay x c (by rw [HNX.out]; omega), Hpp.out]
        have E3 : Hid (Value.int .i64 (bh : Int) = .int .i64 ((M.stp x c).bh : Int)) := by show _ = _; rw [show (M.stp x c).bh = if M.nx x.st c.toNat = 5 then x.bh + 1 else x.bh from rfl, HNX.out, Hbh.out]; rw [if_neg (by omega)]
        have E4 : Hid (Value.bool dn = .bool (M.stp x c).dn) := by show _ = _; rw [show (M.stp x c).dn = if M.nx x.st c.toNat = 7 then c.toNat == 45 else x.dn from rfl, HNX.out]; rw [if_neg (by omega), Hdn.out]
        have E5 : Hid ((M.stp x c).neg = ng) := by show _ = _; rw [show (M.stp x c).neg = if M.nx x.st c.toNat = 1 then true else x.neg from rfl, HNX.out]; rw [if_neg (by omega), Hng.out]
        have E6 : Hid ((M.stp x c).ds = x.ds) := by show _ = _; rw [show (M.stp x c).ds = if M.nx x.st c.toNat = 2 ∨ M.nx x.st c.toNat = 5 then x.ds ++ [c] else x.ds from rfl, HNX.out]; rw [if_neg (by omega)]
        have HD2 : Hid (D.data.toList = (M.stp x c).ds) := by show _ = _; rw [E6.out]; exact HD.out
        have X2 : Ob wr g 54 #[.int .i64 0, .bool (M.stp x c).neg, .slice none 0 0, .int .i64 0, .int .i64 0, .bool false] := by rw [E5.out]; exact X
        clear HR HB HNX HC HCC Hst Hng Hbh Hdn Hpp Hlv
        clear n1 n2 n3 n4 n5 n6
        go_wp2_with (go_at_call 54; refine CN1.out.mono ?_; rintro _ _ ⟨rfl, rfl⟩)
        go_roundw
        case rel => exact ⟨i + 1, M.stp x c, D, by omega, E1.out, rfl, E2.out, E3.out, E4.out, by go_num, HD2, RD, BD, X2, R, U⟩
        case measure => simp [intOf]; omega
    · obtain rfl : i = S.size := by omega
      have d1 : decide ((S.size : Int) < (S.size : Int)) = false := decide_eq_false (by omega)
      obtain ⟨b, hb⟩ : ∃ b, M.wh st = b := ⟨_, rfl⟩
      have CW := Lib.hid (rwhole_any wr st Hlv.out b (Lib.hid hb))
      have HW := Lib.hid (show M.wh x.st = b by rw [Hst.out]; exact hb)
      clear hb hlt hi
      cases b
      · have HRS := Lib.hid (M.rs_error (HR.out.short HSZ.out HW.out))
        clear HR HB HD HW
        go_wp2_with (first | (go_at_call 55; refine CW.out.mono ?_; rintro _ _ ⟨rfl, rfl⟩) | (refine store_ob2 rfl 54 (.tmp 2) (.tmp 72) rfl _ #[.int .i64 0, .bool false, .slice none 0 0, .int .i64 0, .int .i64 0, .bool false] #[.int .i64 0, .bool false, .slice none 0 0, .int .i64 0, .int .i64 0, .bool false] rfl rfl 6 (by kernel_rfl) rfl rfl (by simp [Value.oneCell']) w U (Nat.le_refl _) 54 R ?_; intro V9 Z9 U9 ho))
        obtain ⟨z0, z1, z2, z3, z4, z5⟩ := Z9.six
        refine bodyPost_ret (v := .tuple #[itv 0 false (.slice none 0 0) 0 0 false, .int .i64 (S.size : Int), .int .i64 2]) (by simp [results, Tryz.results31, go_sem, z0, z1, z2, z3, z4, z5]) rfl ?_
        exact ⟨_, _, _, HRS.out, _, rfl, Nt.nil _ _ _, U9⟩
      · have HRS := Lib.hid (M.rs_ok (HR.out.fin HSZ.out HW.out))
        clear HR HW
        by_cases h10 : 10 ≤ st
        · have t1 : decide ((st : Int) ≥ 10) = true := decide_eq_true (by omega)
          have t2 : decide (10 ≤ st) = true := decide_eq_true h10
          obtain ⟨q, hq⟩ : ∃ q, st / 10 = q := ⟨_, rfl⟩
          have q1 : (st : Int) / 10 = (q : Int) := by omega
          have q2 : (st : Int).tdiv 10 = (q : Int) := by rw [Int.tdiv_eq_ediv_of_nonneg (by omega)]; exact q1
          have q3 : q ≤ 3 := by omega
          have HIT : Hid (M.itm x = ⟨q + 1, ng, ⟨0, 0, 0, false⟩⟩) := by show _ = _; rw [M.itm, Hst.out, if_pos h10, hq, Hng.out]
          clear hq HB HD h10
          obtain ⟨x0, x1, x2, x3, x4, x5⟩ := X.six
          obtain ⟨f0, f1, f2, f3, f4, f5⟩ := X.fsix
          go_upto_region 29 with (go_at_call 55; refine CW.out.mono ?_; rintro _ _ ⟨rfl, rfl⟩)
          obtain ⟨Vp, hVp⟩ : ∃ Vp, wr.setCell ⟨g, 0, none⟩ (.int .i64 ((q : Int) + 1)) = Vp := ⟨_, rfl⟩
          have oVp : ∀ b', b' ≠ g → Vp.heap[b']? = wr.heap[b']? := by rw [← hVp]; exact fun b' hne => Below.heap_setCell _ _ _ b' hne
          replace U : Up w Vp := by rw [← hVp]; exact U.setCell (p := ⟨g, 0, none⟩) (Nat.le_of_lt gl) _
          replace X : Ob Vp g 54 #[.int .i64 ((q : Int) + 1), .bool ng, .slice none 0 0, .int .i64 0, .int .i64 0, .bool false] := by rw [← hVp]; exact X.put 0 (.int .i64 ((q : Int) + 1))
          replace R := R.oth oVp (by omega)
          rw [hVp]
          clear hVp oVp x0 x1 x2 x3 x4 x5 f0 f1 f2 f3 f4 f5
          obtain ⟨x0, x1, x2, x3, x4, x5⟩ := X.six
          go_wp2_with (refine store_ob2 rfl 54 (.tmp 2) (.tmp 81) rfl _ #[.int .i64 0, .bool false, .slice none 0 0, .int .i64 0, .int .i64 0, .bool false] #[.int .i64 ((q : Int) + 1), .bool ng, .slice none 0 0, .int .i64 0, .int .i64 0, .bool false] rfl rfl 6 (by kernel_rfl) rfl rfl (by simp [Value.oneCell']) w U (Nat.le_refl _) 54 R ?_; intro V9 Z9 U9 ho)
          obtain ⟨z0, z1, z2, z3, z4, z5⟩ := Z9.six
          refine bodyPost_ret (v := .tuple #[itv ((q : Int) + 1) ng (.slice none 0 0) 0 0 false, .int .i64 0, .int .i64 0]) (by simp [results, Tryz.results31, go_sem, z0, z1, z2, z3, z4, z5]) rfl ?_
          refine ⟨_, _, _, HRS.out, .slice none 0 0, ?_, ?_, U9⟩
          · rw [HIT.out]; rfl
          · rw [HIT.out]; exact Nt.nil _ _ _
        · have t1 : decide ((st : Int) ≥ 10) = false := decide_eq_false (by omega)
          have t2 : decide (10 ≤ st) = false := decide_eq_false h10
          obtain ⟨K, hK⟩ : ∃ K : Int, M.kcut x = K := ⟨_, rfl⟩
          have hKr := M.kcut_rng x _ HB.out hS3
          rw [hK] at hKr
          have hKe : K = (if dn = true then -(pp : Int) else (pp : Int)) - (bh : Int) := by rw [← hK, M.kcut, Hdn.out, Hpp.out, Hbh.out]
          have HIT : Hid (M.itm x = ⟨1, ng, M.num x.ds K⟩) := by show _ = _; rw [M.itm, Hst.out, if_neg h10, Hng.out, M.num_cut x _ HB.out hS3, hK]
          have hLd : x.ds.length ≤ 3000 := Nat.le_trans HB.out.ds hS3
          have CO := Lib.hid (fun V => rof_any V ng D x.ds HD hLd HB.out.al K (by omega) _ (Lib.hid rfl))
          clear hK HB HD hLd h10
          obtain ⟨x0, x1, x2, x3, x4, x5⟩ := X.six
          obtain ⟨f0, f1, f2, f3, f4, f5⟩ := X.fsix
          go_upto_region 31 with (go_at_call 55; refine CW.out.mono ?_; rintro _ _ ⟨rfl, rfl⟩)
          obtain ⟨Vp, hVp⟩ : ∃ Vp, wr.setCell ⟨g, 0, none⟩ (.int .i64 1) = Vp := ⟨_, rfl⟩
          have oVp : ∀ b', b' ≠ g → Vp.heap[b']? = wr.heap[b']? := by rw [← hVp]; exact fun b' hne => Below.heap_setCell _ _ _ b' hne
          replace U : Up w Vp := by rw [← hVp]; exact U.setCell (p := ⟨g, 0, none⟩) (Nat.le_of_lt gl) _
          replace X : Ob Vp g 54 #[.int .i64 1, .bool ng, .slice none 0 0, .int .i64 0, .int .i64 0, .bool false] := by rw [← hVp]; exact X.put 0 (.int .i64 1)
          replace R := R.oth oVp (by omega)
          rw [hVp]
          have gw : w.heap.size < Vp.heap.size := R.lt
          clear hVp oVp x0 x1 x2 x3 x4 x5 f0 f1 f2 f3 f4 f5
          obtain ⟨x0, x1, x2, x3, x4, x5⟩ := X.six
          obtain ⟨mm, hmm⟩ : ∃ mm, M.num x.ds K = mm := ⟨_, rfl⟩
          rw [hmm] at CO HIT
          clear hmm
          obtain ⟨kk, hkk⟩ : ∃ kk, mm.k = kk := ⟨_, rfl⟩
          obtain ⟨bg, hbg⟩ : ∃ bg, mm.big = bg := ⟨_, rfl⟩
          obtain ⟨ct, hct⟩ : ∃ ct, mm.cut = ct := ⟨_, rfl⟩
          have Hkk := Lib.hid hkk
          have Hbg := Lib.hid hbg
          have Hct := Lib.hid hct
          clear hkk hbg hct
          cases dn
          · have hKe2 : (pp : Int) - (bh : Int) = K := by rw [hKe]; simp
            clear hKe
            go_wp2_with (first
              | (go_at_call 56; refine (CO.out _).mono ?_; rintro _ V8 ⟨v8, rfl, ⟨A8, n8, c8, xs8, rfl, N8⟩, u8⟩; have R8 := R.up u8; have U8 := U.trans u8; have N9 : Nt V8 Vp.heap.size 2001 (.slice A8 n8 c8) mm.d := ⟨_, _, _, _, rfl, N8⟩; clear N8; rw [Hkk.out, Hbg.out, Hct.out])
              | (refine store_ob2 rfl 54 (.tmp 2) (.tmp 91) rfl _ #[.int .i64 0, .bool false, .slice none 0 0, .int .i64 0, .int .i64 0, .bool false] #[.int .i64 1, .bool ng, .slice A8 n8 c8, .int .i64 kk, .int .i64 bg, .bool ct] rfl rfl 6 (by kernel_rfl) rfl rfl (by simp [Value.oneCell']) w U8 (Nat.le_refl _) 54 R8 ?_; intro V9 Z9 U9 ho))
            obtain ⟨z0, z1, z2, z3, z4, z5⟩ := Z9.six
            refine bodyPost_ret (v := .tuple #[itv 1 ng (.slice A8 n8 c8) kk bg ct, .int .i64 0, .int .i64 0]) (by simp [results, Tryz.results31, go_sem, z0, z1, z2, z3, z4, z5]) rfl ?_
            refine ⟨_, _, _, HRS.out, .slice A8 n8 c8, ?_, ?_, U9⟩
            · rw [HIT.out, ← Hkk.out, ← Hbg.out, ← Hct.out]; rfl
            · rw [HIT.out]; exact (N9.other ho gw).lower (by omega)
          · have hKe2 : -(pp : Int) - (bh : Int) = K := by rw [hKe]; simp
            clear hKe
            go_wp2_with (first
              | (go_at_call 56; refine (CO.out _).mono ?_; rintro _ V8 ⟨v8, rfl, ⟨A8, n8, c8, xs8, rfl, N8⟩, u8⟩; have R8 := R.up u8; have U8 := U.trans u8; have N9 : Nt V8 Vp.heap.size 2001 (.slice A8 n8 c8) mm.d := ⟨_, _, _, _, rfl, N8⟩; clear N8; rw [Hkk.out, Hbg.out, Hct.out])
              | (refine store_ob2 rfl 54 (.tmp 2) (.tmp 91) rfl _ #[.int .i64 0, .bool false, .slice none 0 0, .int .i64 0, .int .i64 0, .bool false] #[.int .i64 1, .bool ng, .slice A8 n8 c8, .int .i64 kk, .int .i64 bg, .bool ct] rfl rfl 6 (by kernel_rfl) rfl rfl (by simp [Value.oneCell']) w U8 (Nat.le_refl _) 54 R8 ?_; intro V9 Z9 U9 ho))
            obtain ⟨z0, z1, z2, z3, z4, z5⟩ := Z9.six
            refine bodyPost_ret (v := .tuple #[itv 1 ng (.slice A8 n8 c8) kk bg ct, .int .i64 0, .int .i64 0]) (by simp [results, Tryz.results31, go_sem, z0, z1, z2, z3, z4, z5]) rfl ?_
            refine ⟨_, _, _, HRS.out, .slice A8 n8 c8, ?_, ?_, U9⟩
            · rw [HIT.out, ← Hkk.out, ← Hbg.out, ← Hct.out]; rfl
            · rw [HIT.out]; exact (N9.other ho gw).lower (by omega)
end Go.Proofs.YtjmnobgllnaljaaGreatDoor
/-
  The walk of ScanTells: true, and nothing that was there has turned.
-/
namespace Go.Proofs.YtjmnobgllnaljaaGreatDoor
open Go.RowKit Go.Shelf
set_option linter.unusedVariables false

theorem conv_any {w : World} {A : Option Addr} {n c : Nat} {l : List UInt8} (h : Sb w A n c l) (S : ByteArray) (hS : Hid ((⟨l.toArray⟩ : ByteArray) = S)) :
    (convert 67 9 (.slice A n c)).run Tryz.prog w = .ok (.string S) w := by
  rcases Nat.eq_zero_or_pos n with h0 | h0
  · subst h0
    have hl : l = [] := List.eq_nil_of_length_eq_zero h.num
    rw [← hS.out, hl]
    cases A with
    | none =>
      rw [run_convert_bytes_string w 67 9 5 none 0 c Tryz.underlying67 Tryz.underlying5 Tryz.underlying9]
      simp [Conv.bytesToString]
      rfl
    | some ad => exact run_convert_bytes_back w 67 9 5 ad c [] Tryz.underlying67 Tryz.underlying5 Tryz.underlying9 (fun j hj => by simp at hj)
  · exact conv_sb h h0 S hS
theorem rscan_val (w : World) (S : ByteArray) (l : List UInt8) (hS : Hid (S.data.toList = l)) (hl : l.length ≤ 3000) (r : M.It) (i : Nat) (er : Int) (hr : Hid (M.rs l = (r, i, er)))
    (K : Int) (ng : Bool) (d : Nat) (k bg : Int) (ct : Bool) (I : Int) (e1 : (r.kind : Int) = K) (e2 : r.neg = ng) (e3 : r.n = ⟨d, k, bg, ct⟩) (e4 : (i : Int) = I) : Calls Tryz.prog 31 #[.string S] w (Scv K ng d k bg ct I er w) := by
  refine (rscan_any w S l hS hl).mono ?_
  rintro e w' ⟨r', i', er', hr', v, rfl, ⟨A, n, c, xs, rfl, h1, h2, h3, h4⟩, u⟩
  rw [hr.out] at hr'
  injection hr' with q1 q2
  injection q2 with q2 q3
  subst q1; subst q2; subst q3
  exact ⟨A, n, c, xs, by rw [e1, e2, e3, e4], h1, by rw [h2, e3], h3, h4, u⟩

end Go.Proofs.YtjmnobgllnaljaaGreatDoor
