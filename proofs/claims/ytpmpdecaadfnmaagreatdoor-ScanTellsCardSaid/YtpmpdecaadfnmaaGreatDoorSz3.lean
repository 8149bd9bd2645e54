/-
  The reference of layer 9: of: its contract.
-/
import Derived.Test.YtpmpdecaadfnmaaGreatDoorSz1
import Derived.Test.YtpmpdecaadfnmaaGreatDoorSr
import Derived.Test.YtpmpdecaadfnmaaGreatDoorNumb
import Derived.Deep.CutBlock
import Derived.Deep.DeepCutAuto
namespace Go.Proofs.YtpmpdecaadfnmaaGreatDoor
open Go.RowKit Go.Shelf
set_option linter.unusedVariables false

/-- Texts joined. -/
theorem cat9 (a b : ByteArray) (la lb : List UInt8) (K : Nat) (ha : Hid (a.data.toList = la)) (hb : Hid (b.data.toList = lb)) (hk : a.size + b.size ≤ K) : ∃ c, a ++ b = c ∧ Hid (c.data.toList = la ++ lb) ∧ c.size ≤ K := by
  refine ⟨a ++ b, rfl, ?_, ?_⟩
  · show _ = _
    rw [ByteArray.data_append, Array.toList_append, ha.out, hb.out]
  · rw [ByteArray.size_append]; exact hk
/-- How long a text is. -/
def strLen (v : Value) : Nat := match v with | .string s => s.size | _ => 0
theorem str_size {s : ByteArray} {l : List UInt8} (h : Hid (s.data.toList = l)) : s.size = l.length := by
  rw [← h.out]
  exact (Array.length_toList).symm
theorem str_get {s : ByteArray} {l : List UInt8} (h : s.data.toList = l) (k : Nat) (hk : k < s.size) (hl : k < l.length) : s[k] = l[k] := by
  subst h
  rfl
/-- The first byte, and the text without it; the last, and the text without that. -/
theorem str_first (s : ByteArray) (c : UInt8) (r : List UInt8) (h : s.data.toList = c :: r) :
    ∃ (x : Int) (hp : 0 < s.size), x = (c.toNat : Int) ∧ ((s[0]'hp).toNat : Int) = x ∧ Hid ((s.extract 1 s.size).data.toList = r) ∧ (s.extract 1 s.size).size < s.size := by
  have hz : s.size = r.length + 1 := by
    have : s.size = s.data.toList.length := (Array.length_toList).symm
    rw [this, h]
    rfl
  have e : (s.extract 1 s.size).data.toList = (s.data.toList.drop 1).take (s.size - 1) := by simp
  refine ⟨_, by omega, rfl, ?_, ?_, ?_⟩
  · rw [str_get h 0 (by omega) (by simp)]
    rfl
  · show _ = _
    rw [e, h, hz]
    simp
  · simp
    omega
theorem str_last (s : ByteArray) (c : UInt8) (r : List UInt8) (h : s.data.toList = r ++ [c]) :
    ∃ (x : Int) (hp : s.size - 1 < s.size), x = (c.toNat : Int) ∧ ((s[s.size - 1]'hp).toNat : Int) = x ∧ Hid ((s.extract 0 (s.size - 1)).data.toList = r) ∧ (s.extract 0 (s.size - 1)).size + 1 = s.size ∧ 0 < s.size := by
  have hz : s.size = r.length + 1 := by
    have : s.size = s.data.toList.length := (Array.length_toList).symm
    rw [this, h]
    simp
  have e : (s.extract 0 (s.size - 1)).data.toList = s.data.toList.take (s.size - 1) := by
    rw [ByteArray.data_extract, Array.toList_extract]
    simp [List.extract]
  refine ⟨_, by omega, rfl, ?_, ?_, ?_, by omega⟩
  · rw [str_get h (s.size - 1) (by omega) (by simp; omega)]
    have e2 : s.size - 1 = r.length := by omega
    simp only [e2]
    simp
  · show _ = _
    rw [e, h, hz]
    simp
  · simp
    omega
theorem M.tz_snoc48 (l : List UInt8) : M.tz (l ++ [48]) = M.tz l := by
  have := M.tz_noughts 1 l
  simpa using this
theorem M.tz_snoc (l : List UInt8) (c : UInt8) (h : c ≠ 48) : M.tz (l ++ [c]) = l ++ [c] := by
  unfold M.tz
  rw [List.reverse_append]
  show (M.lz (c :: l.reverse)).reverse = _
  rw [M.lz_cons, if_neg h]
  simp
theorem u8_is48 (c : UInt8) (x : Int) (h : x = (c.toNat : Int)) : (c = 48 ∧ (x == 48) = true) ∨ (c ≠ 48 ∧ (x == 48) = false) := by
  by_cases h48 : c = 48
  · left; subst h48; subst h; exact ⟨rfl, rfl⟩
  · right
    refine ⟨h48, ?_⟩
    rw [beq_eq_false_iff_ne]
    intro e
    apply h48
    apply UInt8.toNat_inj.1
    show c.toNat = 48
    omega

set_option maxHeartbeats 16000000 in
set_option maxRecDepth 100000 in
theorem rof_any (w : World) (ng : Bool) (S : ByteArray) (L : List UInt8) (hS : Hid (S.data.toList = L)) (hL : L.length ≤ 3000) (hd : M.allD L = true) (k : Int) (hk : -2000000000000 ≤ k ∧ k ≤ 2000000000000) (m : M.Nm) (hm : Hid (M.num L k = m)) :
    Calls Tryz.prog 14 #[itv 1 ng (.slice none 0 0) 0 0 false, .string S, .int .i64 k] w (Ofi ⟨1, ng, m⟩ w) := by
  have HD := Lib.hid hd
  have U := Up.refl w
  clear hd
  go_enter Tryz.func14, Tryz.ntmps14
  go_upto_block 0 with fail
  obtain ⟨V1, hV1⟩ : ∃ V1, (w.alloc (.cells #[.int .i64 1, .bool ng, .slice none 0 0, .int .i64 0, .int .i64 0, .bool false] 31)).alloc (.cells #[.int .i64 0, .bool false, .slice none 0 0, .int .i64 0, .int .i64 0, .bool false] 31) = V1 := ⟨_, rfl⟩
  have hsz : (w.alloc (.cells #[.int .i64 1, .bool ng, .slice none 0 0, .int .i64 0, .int .i64 0, .bool false] 31)).heap.size = w.heap.size + 1 := Array.size_push _
  have X : Ob V1 w.heap.size 31 #[.int .i64 1, .bool ng, .slice none 0 0, .int .i64 0, .int .i64 0, .bool false] := by rw [← hV1]; exact (Ob.mk_ w _ _).up ((Up.refl _).alloc _)
  have R : Ob V1 (w.heap.size + 1) 31 #[.int .i64 0, .bool false, .slice none 0 0, .int .i64 0, .int .i64 0, .bool false] := by rw [← hV1, ← hsz]; exact Ob.mk_ _ _ _
  replace U : Up w V1 := by rw [← hV1]; exact (U.alloc _).alloc _
  rw [hV1]
  clear hV1 hsz
  go_cut [1] from 9 to 18 (fun sv wx => ∃ T : ByteArray, sv = .string T ∧ Hid (T.data.toList = M.lz L) ∧ wx = V1)
  case first =>
    go_wp2_with fail
    go_loop [1] (fun sv => ∃ (T : ByteArray) (l : List UInt8), sv = .string T ∧ Hid (T.data.toList = l) ∧ Hid (M.lz l = M.lz L) ∧ T.size ≤ 3000) (fun sv => strLen sv)
    case atStart => exact ⟨S, L, rfl, hS, rfl, by rw [str_size hS]; exact hL⟩
    case round =>
      obtain ⟨T, l, rfl, HT, HL, hT⟩ := hrel
      cases l with
      | nil =>
        have hz : T.size = 0 := by rw [str_size HT]; rfl
        have d1 : decide ((T.size : Int) > 0) = false := decide_eq_false (by omega)
        have d2 : decide (0 < T.size) = false := decide_eq_false (by omega)
        clear hz
        go_wp2_with fail
        go_meet
        exact ⟨T, rfl, by show _ = _; rw [← HL.out]; exact HT.out, rfl⟩
      | cons c r =>
        obtain ⟨x, hp, hx, hix, HT2, hT2⟩ := str_first T c r HT.out
        have d1 : decide ((T.size : Int) > 0) = true := decide_eq_true (by omega)
        have d2 : decide (0 < T.size) = true := decide_eq_true hp
        rcases u8_is48 c x hx with ⟨rfl, h48⟩ | ⟨hc, h48⟩
        · have HL2 : Hid (M.lz r = M.lz L) := by show _ = _; rw [← HL.out, M.lz_cons, if_pos rfl]
          have hT4 : (T.extract 1 T.size).size ≤ 3000 := by omega
          have HT3 := Lib.hid hT2
          replace hT4 := Lib.hid hT4
          clear hx HT HL hT2
          go_wp2_with fail
          go_round
          case rel => exact ⟨_, r, rfl, HT2, HL2, hT4.out⟩
          case measure => exact HT3.out
        · have HF : Hid (T.data.toList = M.lz L) := by show _ = _; rw [HT.out, ← HL.out, M.lz_cons, if_neg hc]
          clear hx HT HL hT2 HT2
          go_wp2_with fail
          go_meet
          exact ⟨T, rfl, HF, rfl⟩
  obtain ⟨T, rfl, HT, rfl⟩ := hcut
  obtain ⟨LL, hLL⟩ : ∃ LL, M.lz L = LL := ⟨_, rfl⟩
  have hLLn : LL.length ≤ 3000 := by rw [← hLL]; exact Nat.le_trans (M.lz_len L) hL
  have HDL := Lib.hid (show M.allD LL = true by rw [← hLL]; exact M.lz_allD HD.out)
  have HHD := Lib.hid (show LL = [] ∨ LL.headD 0 ≠ 48 by rw [← hLL]; exact M.lz_head L)
  have HM : Hid (M.nm (M.tz LL) (k + LL.length) = m) := by show _ = _; rw [← hLL]; exact hm.out
  rw [hLL] at HT
  obtain ⟨t, ht⟩ : ∃ t : Int, k + LL.length = t := ⟨_, rfl⟩
  have htb : -2000000000000 ≤ t ∧ t ≤ 2000000003000 := by omega
  rw [ht] at HM
  have HTT := Lib.hid ht
  clear hLL hm hS HD hL ht
  have hTs : T.size ≤ 3000 := by rw [str_size HT]; exact hLLn
  go_upto_block 2 with fail
  go_cut [1, 2] from 19 to 36 (fun sv kv wx => ∃ (T : ByteArray) (k : Int), sv = .string T ∧ kv = .int .i64 k ∧ Hid (T.data.toList = M.tz LL) ∧ Hid (k + (T.size : Int) = t) ∧ -2000000000000 ≤ k ∧ k ≤ 2000000003000 ∧ T.size ≤ 3000 ∧ wx = wc)
  case first =>
    go_wp2_with fail
    go_loop [1, 2] (fun sv kv => ∃ (T : ByteArray) (l : List UInt8) (k : Int), sv = .string T ∧ kv = .int .i64 k ∧ Hid (T.data.toList = l) ∧ Hid (M.tz l = M.tz LL) ∧ Hid (k + (T.size : Int) = t) ∧ T.size ≤ 3000 ∧ -2000000000000 ≤ k) (fun sv _ => strLen sv)
    case atStart => exact ⟨T, LL, k, rfl, rfl, HT, rfl, by show _ = _; rw [str_size HT]; exact HTT.out, hTs, by omega⟩
    case round =>
      clear HT hTs
      obtain ⟨T, l, k, rfl, rfl, HT, HL, HK, hT, hk1⟩ := hrel
      have hk2 : k ≤ 2000000003000 := by have := HK.out; omega
      rcases List.eq_nil_or_concat l with rfl | ⟨r, c, rfl⟩
      · have hz : T.size = 0 := by rw [str_size HT]; rfl
        have d1 : decide ((T.size : Int) > 0) = false := decide_eq_false (by omega)
        have d2 : decide (0 < T.size) = false := decide_eq_false (by omega)
        clear hz
        go_wp2_with fail
        go_meet
        exact ⟨T, k, rfl, rfl, by show _ = _; rw [← HL.out]; exact HT.out, HK, hk1, hk2, hT, rfl⟩
      · rw [List.concat_eq_append] at HT HL
        obtain ⟨x, hq, hx, hix, HT2, hT2, hp⟩ := str_last T c r HT.out
        have d1 : decide ((T.size : Int) > 0) = true := decide_eq_true (by omega)
        have d2 : decide (0 < T.size) = true := decide_eq_true hp
        have b1 : 0 ≤ (T.size : Int) - 1 ∧ (T.size : Int) - 1 < T.size := by omega
        have b2 : ((T.size : Int) - 1).toNat = T.size - 1 := by omega
        rcases u8_is48 c x hx with ⟨rfl, h48⟩ | ⟨hc, h48⟩
        · have HL2 : Hid (M.tz r = M.tz LL) := by show _ = _; rw [← HL.out, M.tz_snoc48]
          have hT3 := Lib.hid (show (T.extract 0 (T.size - 1)).size < T.size by omega)
          have hT4 := Lib.hid (show (T.extract 0 (T.size - 1)).size ≤ 3000 by omega)
          have HK2 : Hid (k + 1 + ((T.extract 0 (T.size - 1)).size : Int) = t) := by show _ = _; rw [← HK.out]; omega
          clear hx HT HL hT2 HK
          go_wp2_with fail
          go_round
          case rel => exact ⟨_, r, k + 1, rfl, rfl, HT2, HL2, HK2, hT4.out, by omega⟩
          case measure => exact hT3.out
        · have HF : Hid (T.data.toList = M.tz LL) := by show _ = _; rw [HT.out, ← HL.out, M.tz_snoc r c hc]
          clear hx HT HL hT2 HT2
          go_wp2_with fail
          go_meet
          exact ⟨T, k, rfl, rfl, HF, HK, hk1, hk2, hT, rfl⟩
  clear HT hTs hk
  obtain ⟨T, k, rfl, rfl, HT, HK, hk1, hk2, hT, rfl⟩ := hcut
  obtain ⟨D, hD⟩ : ∃ D, M.tz LL = D := ⟨_, rfl⟩
  rw [hD] at HT HM
  have hTD : T.size = D.length := str_size HT
  have HDD := Lib.hid (show M.allD D = true by rw [← hD]; exact M.tz_allD HDL.out)
  have HDH := Lib.hid (show D = [] ∨ D.headD 0 ≠ 48 by
    rcases M.tz_head LL HHD.out with h | h
    · left; rw [← hD]; exact h.1
    · right; rw [← hD]; exact h.2)
  clear hD HDL HHD HTT htb
  have ht : k + (T.size : Int) = t := HK.out
  have gX : w.heap.size < wc.heap.size := X.lt
  rcases Nat.eq_zero_or_pos T.size with h0 | h0
  · have hD0 : D = [] := List.eq_nil_of_length_eq_zero (by omega)
    have hT0 : T = ⟨#[]⟩ := by
      apply ByteArray.ext
      have := HT.out
      rw [hD0] at this
      exact Array.toList_inj.1 this
    have HM2 : Hid ((⟨0, 0, 0, false⟩ : M.Nm) = m) := by show _ = _; rw [← HM.out, hD0]; rfl
    subst hT0
    clear HM HT HK ht h0 hTD HDD HDH hD0 hT hk1 hk2
    obtain ⟨x0, x1, x2, x3, x4, x5⟩ := X.six
    go_wp2_with (refine store_ob2 rfl 31 (.tmp 6) (.tmp 39) rfl _ #[.int .i64 0, .bool false, .slice none 0 0, .int .i64 0, .int .i64 0, .bool false] #[.int .i64 1, .bool ng, .slice none 0 0, .int .i64 0, .int .i64 0, .bool false] rfl rfl 6 (by kernel_rfl) rfl rfl (by simp [Value.oneCell']) w U (by omega) 31 R ?_; intro V9 Z9 U9 ho)
    obtain ⟨z0, z1, z2, z3, z4, z5⟩ := Z9.six
    refine bodyPost_ret (v := itv 1 ng (.slice none 0 0) 0 0 false) (by simp [results, Tryz.results14, go_sem, z0, z1, z2, z3, z4, z5]) rfl ?_
    have hm2 := HM2.out
    subst hm2
    exact ⟨_, rfl, Nt.nil _ _ _, U9⟩
  · have hD0 : D ≠ [] := fun e => by
      have h9 := congrArg List.length e
      rw [List.length_nil] at h9
      omega
    have htl : T.toList = D := by rw [Lib.toList_data]; exact HT.out
    have hTne1 : T.toList.isEmpty = false := by rw [htl]; cases D <;> simp_all
    have hTne2 : (T.toList == []) = false := by rw [htl]; cases D <;> simp_all
    have hTne3 : ¬ T.toList = [] := by rw [htl]; exact hD0
    clear htl
    have hws : IntKind.i64.wrap ((T.size : Int) + k) = (T.size : Int) + k := IntWalk.i64_in _ (by omega)
    by_cases h1 : 1000 < t
    · have HM2 : Hid ((⟨0, 0, 1, false⟩ : M.Nm) = m) := by show _ = _; rw [← HM.out, M.nm, if_neg hD0, if_pos h1]
      have e1 : decide ((T.size : Int) + k > 1000) = true := decide_eq_true (by omega)
      have e1' : decide (1000 < (T.size : Int) + k) = true := decide_eq_true (by omega)
      clear HM HT HK ht hTD HDD HDH hD0 h1
      obtain ⟨x0, x1, x2, x3, x4, x5⟩ := X.six
      obtain ⟨f0, f1, f2, f3, f4, f5⟩ := X.fsix
      go_upto_region 10 with fail
      obtain ⟨Vp, hVp⟩ : ∃ Vp, wc.setCell ⟨w.heap.size, 4, none⟩ (.int .i64 1) = Vp := ⟨_, rfl⟩
      have oVp : ∀ b', b' ≠ w.heap.size → Vp.heap[b']? = wc.heap[b']? := by rw [← hVp]; exact fun b' hne => Below.heap_setCell _ _ _ b' hne
      replace U : Up w Vp := by rw [← hVp]; exact U.setCell (p := ⟨w.heap.size, 4, none⟩) (Nat.le_refl _) _
      replace X : Ob Vp w.heap.size 31 #[.int .i64 1, .bool ng, .slice none 0 0, .int .i64 0, .int .i64 1, .bool false] := by rw [← hVp]; exact X.put 4 (.int .i64 1)
      replace R := R.oth oVp (by omega)
      rw [hVp]
      clear hVp oVp x0 x1 x2 x3 x4 x5 f0 f1 f2 f3 f4 f5
      obtain ⟨x0, x1, x2, x3, x4, x5⟩ := X.six
      go_wp2_with (refine store_ob2 rfl 31 (.tmp 6) (.tmp 46) rfl _ #[.int .i64 0, .bool false, .slice none 0 0, .int .i64 0, .int .i64 0, .bool false] #[.int .i64 1, .bool ng, .slice none 0 0, .int .i64 0, .int .i64 1, .bool false] rfl rfl 6 (by kernel_rfl) rfl rfl (by simp [Value.oneCell']) w U (by omega) 31 R ?_; intro V9 Z9 U9 ho)
      obtain ⟨z0, z1, z2, z3, z4, z5⟩ := Z9.six
      refine bodyPost_ret (v := itv 1 ng (.slice none 0 0) 0 1 false) (by simp [results, Tryz.results14, go_sem, z0, z1, z2, z3, z4, z5]) rfl ?_
      have hm2 := HM2.out
      subst hm2
      exact ⟨_, rfl, Nt.nil _ _ _, U9⟩
    by_cases h2 : t ≤ -1000
    · have HM2 : Hid ((⟨0, 0, -1, false⟩ : M.Nm) = m) := by show _ = _; rw [← HM.out, M.nm, if_neg hD0, if_neg h1, if_pos h2]
      have e1 : decide ((T.size : Int) + k > 1000) = false := decide_eq_false (by omega)
      have e1' : decide (1000 < (T.size : Int) + k) = false := decide_eq_false (by omega)
      have e2 : decide ((T.size : Int) + k ≤ -1000) = true := decide_eq_true (by omega)
      have e2' : decide ((T.size : Int) + k ≤ -1000) = true := decide_eq_true (by omega)
      clear HM HT HK ht hTD HDD HDH hD0 h1 h2
      obtain ⟨x0, x1, x2, x3, x4, x5⟩ := X.six
      obtain ⟨f0, f1, f2, f3, f4, f5⟩ := X.fsix
      go_upto_region 13 with fail
      obtain ⟨Vp, hVp⟩ : ∃ Vp, wc.setCell ⟨w.heap.size, 4, none⟩ (.int .i64 (-1)) = Vp := ⟨_, rfl⟩
      have oVp : ∀ b', b' ≠ w.heap.size → Vp.heap[b']? = wc.heap[b']? := by rw [← hVp]; exact fun b' hne => Below.heap_setCell _ _ _ b' hne
      replace U : Up w Vp := by rw [← hVp]; exact U.setCell (p := ⟨w.heap.size, 4, none⟩) (Nat.le_refl _) _
      replace X : Ob Vp w.heap.size 31 #[.int .i64 1, .bool ng, .slice none 0 0, .int .i64 0, .int .i64 (-1), .bool false] := by rw [← hVp]; exact X.put 4 (.int .i64 (-1))
      replace R := R.oth oVp (by omega)
      rw [hVp]
      clear hVp oVp x0 x1 x2 x3 x4 x5 f0 f1 f2 f3 f4 f5
      obtain ⟨x0, x1, x2, x3, x4, x5⟩ := X.six
      go_wp2_with (refine store_ob2 rfl 31 (.tmp 6) (.tmp 53) rfl _ #[.int .i64 0, .bool false, .slice none 0 0, .int .i64 0, .int .i64 0, .bool false] #[.int .i64 1, .bool ng, .slice none 0 0, .int .i64 0, .int .i64 (-1), .bool false] rfl rfl 6 (by kernel_rfl) rfl rfl (by simp [Value.oneCell']) w U (by omega) 31 R ?_; intro V9 Z9 U9 ho)
      obtain ⟨z0, z1, z2, z3, z4, z5⟩ := Z9.six
      refine bodyPost_ret (v := itv 1 ng (.slice none 0 0) 0 (-1) false) (by simp [results, Tryz.results14, go_sem, z0, z1, z2, z3, z4, z5]) rfl ?_
      have hm2 := HM2.out
      subst hm2
      exact ⟨_, rfl, Nt.nil _ _ _, U9⟩
    by_cases h3 : 1990 < D.length
    · have hTs2 : T.size = D.length := hTD
      have e1 : decide ((T.size : Int) + k > 1000) = false := decide_eq_false (by omega)
      have e1' : decide (1000 < (T.size : Int) + k) = false := decide_eq_false (by omega)
      have e2 : decide ((T.size : Int) + k ≤ -1000) = false := decide_eq_false (by omega)
      have e2' : decide ((T.size : Int) + k ≤ -1000) = false := decide_eq_false (by omega)
      have e3 : decide ((T.size : Int) > 1990) = true := decide_eq_true (by omega)
      have e3' : decide (1990 < T.size) = true := decide_eq_true (by omega)
      obtain ⟨T2, hT2, HT2, zT2⟩ := cat9 (T.extract 0 1990) ⟨#[49]⟩ (D.take 1990) [49] 2000 (by
        show _ = _
        have e : (T.extract 0 1990).data.toList = T.data.toList.take 1990 := by
          rw [ByteArray.data_extract, Array.toList_extract]
          simp [List.extract]
        rw [e, HT.out]) rfl (by
        have : (⟨#[49]⟩ : ByteArray).size = 1 := rfl
        simp
        omega)
      have hl2 : (D.take 1990 ++ [49]).length = 1991 := by rw [List.length_append, List.length_take, List.length_singleton]; omega
      have HLN := Lib.hid hl2
      have HAL := Lib.hid (show M.allD (D.take 1990 ++ [49]) = true by
        rw [M.allD_append, Bool.and_eq_true]
        refine ⟨?_, rfl⟩
        have := HDD.out
        rw [← List.take_append_drop 1990 D] at this
        exact M.allD_left this)
      have HHH : Hid ((D.take 1990 ++ [(49 : UInt8)]).headD 0 ≠ 48) := (by
        show (D.take 1990 ++ [(49 : UInt8)]).headD 0 ≠ 48
        rcases HDH.out with h | h
        · exact absurd h hD0
        · cases D with
          | nil => exact absurd rfl hD0
          | cons c r => exact h)
      have HM2 : Hid ((⟨M.vsa 0 (D.take 1990 ++ [49]), k + (T.size : Int) - 1991, 0, true⟩ : M.Nm) = m) := by show _ = _; rw [← HM.out, M.nm, if_neg hD0, if_neg h1, if_neg h2, if_pos h3, ht]
      have hb9 : T.size ≤ 3000 := hT
      have c1 : (1990 : Int) ≤ T.size := by omega
      have HNE := Lib.hid (show D.take 1990 ++ [49] ≠ [] by simp)
      clear HM HT HK ht hTD HDD HDH hD0 h1 h2 h3 hTs2 hl2
      obtain ⟨x0, x1, x2, x3, x4, x5⟩ := X.six
      obtain ⟨f0, f1, f2, f3, f4, f5⟩ := X.fsix
      go_upto_region 16 with fail
      obtain ⟨Vp, hVp⟩ : ∃ Vp, wc.setCell ⟨w.heap.size, 5, none⟩ (.bool true) = Vp := ⟨_, rfl⟩
      have oVp : ∀ b', b' ≠ w.heap.size → Vp.heap[b']? = wc.heap[b']? := by rw [← hVp]; exact fun b' hne => Below.heap_setCell _ _ _ b' hne
      replace U : Up w Vp := by rw [← hVp]; exact U.setCell (p := ⟨w.heap.size, 5, none⟩) (Nat.le_refl _) _
      replace X : Ob Vp w.heap.size 31 #[.int .i64 1, .bool ng, .slice none 0 0, .int .i64 0, .int .i64 0, .bool true] := by rw [← hVp]; exact X.put 5 (.bool true)
      replace R := R.oth oVp (by omega)
      rw [hVp]
      clear hVp oVp x0 x1 x2 x3 x4 x5 f0 f1 f2 f3 f4 f5
      have CNU := Lib.hid (number_any Vp T2 _ HT2.out HNE.out (by have := HLN.out; omega) (.inl HHH.out))
      go_upto_region 19 with (go_at_call 27; refine CNU.out.mono ?_; rintro _ Vn ⟨vn, rfl, hn, un⟩)
      have NH := hn HAL.out
      replace U := U.trans un
      replace X := X.up un
      replace R := R.up un
      obtain ⟨An, nn, cn, xn, rfl, hn1, hn2, hn3, hn4, hn5⟩ := NH
      have CW := Lib.hid (words_of Vn _ _ _ _ ⟨An, nn, cn, xn, rfl, hn1, hn2, hn3, hn4, hn5⟩ (by have := HLN.out; omega))
      have un' := Lib.hid un
      clear hn un hn1 hn2 hn3 hn4 hn5 CNU
      obtain ⟨x0, x1, x2, x3, x4, x5⟩ := X.six
      obtain ⟨f0, f1, f2, f3, f4, f5⟩ := X.fsix
      go_upto_region 20 with (go_at_call 28; refine CW.out.mono ?_; rintro _ Vw ⟨vw, rfl, hw, uw⟩; have y2 := (Below.cell (p := ⟨w.heap.size, 2, none⟩) uw X.lt).trans x2; have z2 := (Below.frozen (p := ⟨w.heap.size, 2, none⟩) uw X.lt).trans f2; obtain ⟨Aw, nw, cw, xw, rfl, hw1, hw2, hw3, hw4⟩ := hw)
      have NW : Nt Vw Vn.heap.size 2001 (.slice Aw nw cw) (M.vsa 0 (D.take 1990 ++ [49])) := ⟨Aw, nw, cw, xw, rfl, hw1, hw2, by have := HLN.out; omega, hw4⟩
      have gn : w.heap.size < Vn.heap.size := X.lt
      have gr : w.heap.size + 1 < Vn.heap.size := R.lt
      replace U := U.trans uw
      replace X := X.up uw
      replace R := R.up uw
      clear hw1 hw2 hw3 hw4 y2 z2 x0 x1 x2 x3 x4 x5 f0 f1 f2 f3 f4 f5 uw CW
      obtain ⟨Vd, hVd⟩ : ∃ Vd, Vw.setCell ⟨w.heap.size, 2, none⟩ (.slice Aw nw cw) = Vd := ⟨_, rfl⟩
      have oVd : ∀ b', b' ≠ w.heap.size → Vd.heap[b']? = Vw.heap[b']? := by rw [← hVd]; exact fun b' hne => Below.heap_setCell _ _ _ b' hne
      replace U : Up w Vd := by rw [← hVd]; exact U.setCell (p := ⟨w.heap.size, 2, none⟩) (Nat.le_refl _) _
      replace X : Ob Vd w.heap.size 31 #[.int .i64 1, .bool ng, .slice Aw nw cw, .int .i64 0, .int .i64 0, .bool true] := by rw [← hVd]; exact X.put 2 (.slice Aw nw cw)
      replace R := R.oth oVd (by omega)
      replace NW := NW.other oVd gn
      rw [hVd]
      clear hVd oVd
      obtain ⟨x0, x1, x2, x3, x4, x5⟩ := X.six
      obtain ⟨f0, f1, f2, f3, f4, f5⟩ := X.fsix
      go_upto_region 21 with fail
      obtain ⟨Vk, hVk⟩ : ∃ Vk, Vd.setCell ⟨w.heap.size, 3, none⟩ (.int .i64 (k + (T.size : Int) - 1991)) = Vk := ⟨_, rfl⟩
      have oVk : ∀ b', b' ≠ w.heap.size → Vk.heap[b']? = Vd.heap[b']? := by rw [← hVk]; exact fun b' hne => Below.heap_setCell _ _ _ b' hne
      replace U : Up w Vk := by rw [← hVk]; exact U.setCell (p := ⟨w.heap.size, 3, none⟩) (Nat.le_refl _) _
      replace X : Ob Vk w.heap.size 31 #[.int .i64 1, .bool ng, .slice Aw nw cw, .int .i64 (k + (T.size : Int) - 1991), .int .i64 0, .bool true] := by rw [← hVk]; exact X.put 3 (.int .i64 (k + (T.size : Int) - 1991))
      replace R := R.oth oVk (by omega)
      replace NW := NW.other oVk gn
      rw [hVk]
      clear hVk oVk x0 x1 x2 x3 x4 x5 f0 f1 f2 f3 f4 f5
      obtain ⟨x0, x1, x2, x3, x4, x5⟩ := X.six
      go_wp2_with (refine store_ob2 rfl 31 (.tmp 6) (.tmp 76) rfl _ #[.int .i64 0, .bool false, .slice none 0 0, .int .i64 0, .int .i64 0, .bool false] #[.int .i64 1, .bool ng, .slice Aw nw cw, .int .i64 (k + (T.size : Int) - 1991), .int .i64 0, .bool true] rfl rfl 6 (by kernel_rfl) rfl rfl (by simp [Value.oneCell']) w U (by omega) 31 R ?_; intro V9 Z9 U9 ho)
      obtain ⟨z0, z1, z2, z3, z4, z5⟩ := Z9.six
      refine bodyPost_ret (v := itv 1 ng (.slice Aw nw cw) (k + (T.size : Int) - 1991) 0 true) (by simp [results, Tryz.results14, go_sem, z0, z1, z2, z3, z4, z5]) rfl ?_
      have hm2 := HM2.out
      subst hm2
      exact ⟨_, rfl, (NW.other ho (by omega)).lower (by omega), U9⟩
    · have hl2 : D.length ≤ 1990 := by omega
      have e1 : decide ((T.size : Int) + k > 1000) = false := decide_eq_false (by omega)
      have e1' : decide (1000 < (T.size : Int) + k) = false := decide_eq_false (by omega)
      have e2 : decide ((T.size : Int) + k ≤ -1000) = false := decide_eq_false (by omega)
      have e2' : decide ((T.size : Int) + k ≤ -1000) = false := decide_eq_false (by omega)
      have e3 : decide ((T.size : Int) > 1990) = false := decide_eq_false (by omega)
      have e3' : decide (1990 < T.size) = false := decide_eq_false (by omega)
      have HLN := Lib.hid hl2
      have HM2 : Hid ((⟨M.vsa 0 D, k, 0, false⟩ : M.Nm) = m) := by
        show _ = _
        rw [← HM.out, M.nm, if_neg hD0, if_neg h1, if_neg h2, if_neg h3, ← ht, hTD]
        congr 1
        omega
      have HAL := HDD
      have CNU := Lib.hid (number_any wc T D HT.out hD0 (by omega) (.inl (by rcases HDH.out with h | h; exact absurd h hD0; exact h)))
      clear HM HT HK ht hTD HDD HDH hD0 h1 h2 h3 hl2
      go_upto_region 19 with (go_at_call 27; refine CNU.out.mono ?_; rintro _ Vn ⟨vn, rfl, hn, un⟩)
      have NH := hn HAL.out
      replace U := U.trans un
      replace X := X.up un
      replace R := R.up un
      obtain ⟨An, nn, cn, xn, rfl, hn1, hn2, hn3, hn4, hn5⟩ := NH
      have CW := Lib.hid (words_of Vn _ _ _ _ ⟨An, nn, cn, xn, rfl, hn1, hn2, hn3, hn4, hn5⟩ (by have := HLN.out; omega))
      have un' := Lib.hid un
      clear hn un hn1 hn2 hn3 hn4 hn5 CNU
      obtain ⟨x0, x1, x2, x3, x4, x5⟩ := X.six
      obtain ⟨f0, f1, f2, f3, f4, f5⟩ := X.fsix
      go_upto_region 20 with (go_at_call 28; refine CW.out.mono ?_; rintro _ Vw ⟨vw, rfl, hw, uw⟩; have y2 := (Below.cell (p := ⟨w.heap.size, 2, none⟩) uw X.lt).trans x2; have z2 := (Below.frozen (p := ⟨w.heap.size, 2, none⟩) uw X.lt).trans f2; obtain ⟨Aw, nw, cw, xw, rfl, hw1, hw2, hw3, hw4⟩ := hw)
      have NW : Nt Vw Vn.heap.size 2001 (.slice Aw nw cw) (M.vsa 0 D) := ⟨Aw, nw, cw, xw, rfl, hw1, hw2, by have := HLN.out; omega, hw4⟩
      have gn : w.heap.size < Vn.heap.size := X.lt
      have gr : w.heap.size + 1 < Vn.heap.size := R.lt
      replace U := U.trans uw
      replace X := X.up uw
      replace R := R.up uw
      clear hw1 hw2 hw3 hw4 y2 z2 x0 x1 x2 x3 x4 x5 f0 f1 f2 f3 f4 f5 uw CW
      obtain ⟨Vd, hVd⟩ : ∃ Vd, Vw.setCell ⟨w.heap.size, 2, none⟩ (.slice Aw nw cw) = Vd := ⟨_, rfl⟩
      have oVd : ∀ b', b' ≠ w.heap.size → Vd.heap[b']? = Vw.heap[b']? := by rw [← hVd]; exact fun b' hne => Below.heap_setCell _ _ _ b' hne
      replace U : Up w Vd := by rw [← hVd]; exact U.setCell (p := ⟨w.heap.size, 2, none⟩) (Nat.le_refl _) _
      replace X : Ob Vd w.heap.size 31 #[.int .i64 1, .bool ng, .slice Aw nw cw, .int .i64 0, .int .i64 0, .bool false] := by rw [← hVd]; exact X.put 2 (.slice Aw nw cw)
      replace R := R.oth oVd (by omega)
      replace NW := NW.other oVd gn
      rw [hVd]
      clear hVd oVd
      obtain ⟨x0, x1, x2, x3, x4, x5⟩ := X.six
      obtain ⟨f0, f1, f2, f3, f4, f5⟩ := X.fsix
      go_upto_region 21 with fail
      obtain ⟨Vk, hVk⟩ : ∃ Vk, Vd.setCell ⟨w.heap.size, 3, none⟩ (.int .i64 k) = Vk := ⟨_, rfl⟩
      have oVk : ∀ b', b' ≠ w.heap.size → Vk.heap[b']? = Vd.heap[b']? := by rw [← hVk]; exact fun b' hne => Below.heap_setCell _ _ _ b' hne
      replace U : Up w Vk := by rw [← hVk]; exact U.setCell (p := ⟨w.heap.size, 3, none⟩) (Nat.le_refl _) _
      replace X : Ob Vk w.heap.size 31 #[.int .i64 1, .bool ng, .slice Aw nw cw, .int .i64 k, .int .i64 0, .bool false] := by rw [← hVk]; exact X.put 3 (.int .i64 k)
      replace R := R.oth oVk (by omega)
      replace NW := NW.other oVk gn
      rw [hVk]
      clear hVk oVk x0 x1 x2 x3 x4 x5 f0 f1 f2 f3 f4 f5
      obtain ⟨x0, x1, x2, x3, x4, x5⟩ := X.six
      go_wp2_with (refine store_ob2 rfl 31 (.tmp 6) (.tmp 76) rfl _ #[.int .i64 0, .bool false, .slice none 0 0, .int .i64 0, .int .i64 0, .bool false] #[.int .i64 1, .bool ng, .slice Aw nw cw, .int .i64 k, .int .i64 0, .bool false] rfl rfl 6 (by kernel_rfl) rfl rfl (by simp [Value.oneCell']) w U (by omega) 31 R ?_; intro V9 Z9 U9 ho)
      obtain ⟨z0, z1, z2, z3, z4, z5⟩ := Z9.six
      refine bodyPost_ret (v := itv 1 ng (.slice Aw nw cw) k 0 false) (by simp [results, Tryz.results14, go_sem, z0, z1, z2, z3, z4, z5]) rfl ?_
      have hm2 := HM2.out
      subst hm2
      exact ⟨_, rfl, (NW.other ho (by omega)).lower (by omega), U9⟩
end Go.Proofs.YtpmpdecaadfnmaaGreatDoor
