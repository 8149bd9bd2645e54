import Derived.Test.YtcmlanfgafancaaGreatDoorQDEx3
import Derived.Test.YtcmlanfgafancaaGreatDoorQDHm
import Derived.Test.YtcmlanfgafancaaGreatDoorQDObm
import Derived.Lib.IndexBytes
import Derived.Lib.Join
import Derived.Lib.Walk
import Derived.Shelf.RegionOpenPlain
import Derived.OwnWalk
import Derived.BigQuiet
import Derived.Deep.RegionWith
set_option maxHeartbeats 32000000
set_option linter.unusedVariables false
set_option linter.unusedSimpArgs false
namespace Go.Proofs.YtcmlanfgafancaaGreatDoor
open Go.RowKit Go.Shelf
theorem M.cut_ix (l : List UInt8) (c : UInt8) : (Lib.indexByte l c = -1 ∧ Lib.cut l [c] = (l, [], false)) ∨ ∃ i : Nat, Lib.indexByte l c = i ∧ i + 1 ≤ l.length ∧ Lib.cut l [c] = (l.take i, l.drop (i + 1), true) := by
 rw [← Lib.index_one]
 have h := Lib.index_ge l [c]
 by_cases h0 : Lib.index l [c] = -1
 ·left
  refine ⟨h0, ?_⟩
  unfold Lib.cut
  rw [if_neg (by omega)]
 ·right
  obtain ⟨i, hi⟩ : ∃ i : Nat, Lib.index l [c] = i := ⟨(Lib.index l [c]).toNat, by omega⟩
  refine ⟨i, hi, ?_, ?_⟩
  ·rw [Lib.index_one] at hi
   have := (Lib.indexByte_some hi).1
   exact (List.getElem?_eq_some_iff.1 this).1
  ·unfold Lib.cut
   rw [hi, if_pos (by omega), Int.toNat_natCast]
   rfl
def Ctt (x y : List UInt8) (f : Bool) (w : World) (e : Ending) (w' : World) : Prop := ∃ a b, e = .returned (.tuple #[.string a, .string b, .bool f]) ∧ Tx a x ∧ Tx b y ∧ Up w w'
set_option maxRecDepth 100000 in
theorem lcut_any (w : World) (s : ByteArray) (c : UInt8) (l : List UInt8) (hs : Tx s l) (hl : l.length ≤ 100000) :
  Calls Tryz.prog 184 #[.string s, .string ⟨#[c]⟩] w (Ctt (Lib.cut l [c]).1 (Lib.cut l [c]).2.1 (Lib.cut l [c]).2.2 w) := by
 have hsz := hs.size
 have CI := Lib.hid (Tryz.stringslite_Index_one s c w)
 have e : s.data.toList = l := hs
 rw [e] at CI
 have HS := Lib.hid hs
 rcases M.cut_ix l c with ⟨h1, h2⟩ | ⟨i, h1, h3, h2⟩
 ·rw [h1] at CI
  have H2 := Lib.hid h2
  clear h1 h2 e hs
  go_enter Tryz.func184, Tryz.ntmps184
  go_wp2_with fail
  refine CI.out.mono ?_
  rintro _ w' ⟨rfl, rfl⟩
  go_wp2_with fail
  go_ret3
  rw [H2.out]
  exact ⟨_, _, rfl, HS.out, Tx.lit [], Up.refl _⟩
 ·rw [h1] at CI
  have H2 := Lib.hid h2
  obtain ⟨A, hA⟩ : ∃ A, s.extract 0 i = A := ⟨_, rfl⟩
  obtain ⟨B, hB⟩ : ∃ B, s.extract (i + 1) l.length = B := ⟨_, rfl⟩
  have tA : Hid (Tx A (l.take i)) := by
   have := hs.ext 0 i
   rw [hA] at this
   exact this
  have tB : Hid (Tx B (l.drop (i + 1))) := by
   have := hs.ext (i + 1) l.length
   rw [hB, List.take_of_length_le (by rw [List.length_drop]; omega)] at this
   exact this
  have c1 : (0 : Int) ≤ ↑i := by omega
  have c2 : (↑i : Int) ≤ ↑s.size := by omega
  have c3 : (0 : Int) ≤ ↑i + 1 := by omega
  have c4 : (↑i + 1 : Int) ≤ ↑s.size := by omega
  clear h1 h2 e hs h3
  go_enter Tryz.func184, Tryz.ntmps184
  go_wp2_with fail
  refine CI.out.mono ?_
  rintro _ w' ⟨rfl, rfl⟩
  go_wp2_with fail
  go_region
  all_goals
   go_wp2_with fail
   go_ret3
   rw [H2.out]
   exact ⟨_, _, rfl, tA.out, tB.out, by first | exact Up.refl _ | exact (Up.refl _).drewN _⟩
theorem cut_any (w : World) (s : ByteArray) (c : UInt8) (l x y : List UInt8) (f : Bool) (hs : Tx s l) (hl : l.length ≤ 100000) (h : Lib.cut l [c] = (x, y, f)) :
  Calls Tryz.prog 133 #[.string s, .string ⟨#[c]⟩] w (Ctt x y f w) := by
 have CC := Lib.hid (lcut_any w s c l hs hl)
 rw [h] at CC
 clear h hs
 go_enter Tryz.func133, Tryz.ntmps133
 go_wp2_with fail
 refine CC.out.mono ?_
 rintro _ w' ⟨a, b, rfl, h1, h2, u⟩
 go_wp2_with fail
 go_ret3
 exact ⟨a, b, rfl, h1, h2, u⟩
theorem M.join_flat (ls : List (List UInt8)) : Lib.join ls [] = ls.flatten := by
 cases ls with
 | nil => rfl
 | cons x r =>
  rw [Lib.join_cons]
  unfold Lib.joinTail
  simp
theorem join_any (w : World) (b n : Nat) (xs : List ByteArray) (l : List UInt8) (hn : xs.length = n) (hx : Hid ((xs.map (·.data.toList)).flatten = l)) (hc : Hid (∀ (j : Nat) x, xs[j]? = some x → w.cell? ⟨b, 0 + j, none⟩ = some (.string x))) (hb : b < w.heap.size) (hl : l.length ≤ 100000) (h4 : n ≤ 100) :
  Calls Tryz.prog 75 #[.slice (some ⟨b, 0, none⟩) n n] w (Tex l w) := by
 subst hn
 have CJ := Lib.hid (Tryz.strings_Join b 0 xs.length xs ⟨#[]⟩ w hc.out hb (by omega) (Nat.le_refl _) (by rw [show (⟨#[]⟩ : ByteArray).data.toList = [] from rfl, M.join_flat, hx.out]; omega))
 rw [show (⟨#[]⟩ : ByteArray).data.toList = [] from rfl, M.join_flat, hx.out] at CJ
 clear hx hc
 go_enter Tryz.func75, Tryz.ntmps75
 go_wp2_with fail
 refine CJ.out.mono ?_
 rintro _ w' ⟨rfl, u⟩
 go_wp2_with fail
 go_ret
 exact ⟨_, rfl, Tx.lit l, u⟩
theorem join2 (W : World) (b : Nat) (ty : TypeId) (x y : ByteArray) (lx ly : List UInt8) (h : Ob W b ty #[.string x, .string y]) (hx : Tx x lx) (hy : Tx y ly) (hl : lx.length + ly.length ≤ 100000) :
  Calls Tryz.prog 75 #[.slice (some ⟨b, 0, none⟩) 2 2] W (Tex (lx ++ ly) W) := by
 refine join_any W b 2 [x, y] _ rfl (show _ = _ from ?_) (show ∀ _ _, _ → _ from ?_) h.lt (by rw [List.length_append]; exact hl) (by omega)
 ·simp only [List.map_cons, List.map_nil, List.flatten_cons, List.flatten_nil, List.append_nil, show x.data.toList = lx from hx, show y.data.toList = ly from hy]
 ·intro j z hz
  rw [Nat.zero_add, h.get]
  rcases j with _ | _ | j
  ·cases hz; rfl
  ·cases hz; rfl
  ·exact absurd hz (by simp)
theorem join3 (W : World) (b : Nat) (ty : TypeId) (x y z : ByteArray) (lx ly lz : List UInt8) (h : Ob W b ty #[.string x, .string y, .string z]) (hx : Tx x lx) (hy : Tx y ly) (hz : Tx z lz) (hl : lx.length + ly.length + lz.length ≤ 100000) :
  Calls Tryz.prog 75 #[.slice (some ⟨b, 0, none⟩) 3 3] W (Tex (lx ++ (ly ++ lz)) W) := by
 refine join_any W b 3 [x, y, z] _ rfl (show _ = _ from ?_) (show ∀ _ _, _ → _ from ?_) h.lt (by rw [List.length_append, List.length_append]; omega) (by omega)
 ·simp only [List.map_cons, List.map_nil, List.flatten_cons, List.flatten_nil, List.append_nil, show x.data.toList = lx from hx, show y.data.toList = ly from hy, show z.data.toList = lz from hz]
 ·intro j v hv
  rw [Nat.zero_add, h.get]
  rcases j with _ | _ | _ | j
  ·cases hv; rfl
  ·cases hv; rfl
  ·cases hv; rfl
  ·exact absurd hv (by simp)
theorem join4 (W : World) (b : Nat) (ty : TypeId) (x y z u : ByteArray) (lx ly lz lu : List UInt8) (h : Ob W b ty #[.string x, .string y, .string z, .string u]) (hx : Tx x lx) (hy : Tx y ly) (hz : Tx z lz) (hu : Tx u lu) (hl : lx.length + ly.length + lz.length + lu.length ≤ 100000) :
  Calls Tryz.prog 75 #[.slice (some ⟨b, 0, none⟩) 4 4] W (Tex (lx ++ (ly ++ (lz ++ lu))) W) := by
 refine join_any W b 4 [x, y, z, u] _ rfl (show _ = _ from ?_) (show ∀ _ _, _ → _ from ?_) h.lt (by rw [List.length_append, List.length_append, List.length_append]; omega) (by omega)
 ·simp only [List.map_cons, List.map_nil, List.flatten_cons, List.flatten_nil, List.append_nil, show x.data.toList = lx from hx, show y.data.toList = ly from hy, show z.data.toList = lz from hz, show u.data.toList = lu from hu]
 ·intro j v hv
  rw [Nat.zero_add, h.get]
  rcases j with _ | _ | _ | _ | j
  ·cases hv; rfl
  ·cases hv; rfl
  ·cases hv; rfl
  ·cases hv; rfl
  ·exact absurd hv (by simp)
theorem M.rep_nought : ∀ n : Nat, Lib.repeatL [48] n = List.replicate n 48
 | 0 => rfl
 | n + 1 => by
  rw [List.replicate_succ, ← M.rep_nought n]
  rfl
theorem noughts_any (w : World) (n : Nat) (h : n ≤ 20000) : Calls Tryz.prog 141 #[.int .i64 (n : Int)] w (Tex (List.replicate n 48) w) := by
 have CR := Lib.hid (repeat_any ⟨#[48]⟩ n w (by omega) (by show 1 * n ≤ _; omega))
 rw [show (⟨#[48]⟩ : ByteArray).data.toList = [48] from rfl, M.rep_nought] at CR
 go_enter Tryz.func141, Tryz.ntmps141
 go_wp2_with fail
 refine CR.out.mono ?_
 rintro _ w' ⟨rfl, u⟩
 go_wp2_with fail
 go_ret
 exact ⟨_, rfl, Tx.lit _, u⟩
def Pnl (w : World) (e : Ending) (w' : World) : Prop := e = .panicked [{ v := .iface 24 (.int .i64 2), recovered := false }] ∧ Up w w'
theorem lmust_ok (w : World) : Calls Tryz.prog 73 #[.bool true] w (fun e w' => e = .returned (.tuple #[]) ∧ w = w') := by
 go_enter Tryz.func73, Tryz.ntmps73
 go_wp2_with fail
 go_end0
 exact ⟨rfl, rfl⟩
theorem lmust_bad (w : World) : Calls Tryz.prog 73 #[.bool false] w (Pnl w) := by
 go_enter Tryz.func73, Tryz.ntmps73
 go_wp2_with fail
 exact ⟨rfl, rfl, Up.refl w⟩
end Go.Proofs.YtcmlanfgafancaaGreatDoor
namespace Go.Proofs.YtcmlanfgafancaaGreatDoor
open Go.RowKit Go.Shelf
namespace M
theorem ten2000 : 10 ^ 2000 ≤ 2 ^ 6644 := Nat.le_of_ble_eq_true (by decide +kernel)
theorem dd_bits_of {a K G : Nat} (hKG : 10 ^ K ≤ 2 ^ G) (h : G < bits a) : K < (Lib.decDigits a).length := by
 rcases Nat.lt_or_ge K (Lib.decDigits a).length with h1 | h1
 ·exact h1
 ·exfalso
  have h0 : a ≠ 0 := by
   intro e
   rw [e, bits_zero] at h
   omega
  have h4 : G ≤ bits a - 1 := by omega
  have h2 := bits_le h0
  have h3 := dd_lt a
  have h5 : a < 10 ^ K := Nat.lt_of_lt_of_le h3 (Nat.pow_le_pow_right (Nat.succ_pos 9) h1)
  have h6 : 2 ^ G ≤ 2 ^ (bits a - 1) := Nat.pow_le_pow_right (Nat.succ_pos 1) h4
  exact absurd (Nat.lt_of_lt_of_le h5 (Nat.le_trans hKG (Nat.le_trans h6 h2))) (Nat.lt_irrefl _)
theorem dd_bits {a : Nat} (h : 6644 < bits a) : 2000 < (Lib.decDigits a).length := dd_bits_of ten2000 h
theorem dd_suf (a : Nat) : Lib.hasSuffix (Lib.decDigits a) [48] = decide (a % 10 = 0) := by
 unfold Lib.hasSuffix List.isSuffixOf
 have e := dd_end a
 have hp := decDigits_pos a
 obtain ⟨b, c, hbc⟩ : ∃ b c, Lib.decDigits a = b ++ [c] := by
  have hne : Lib.decDigits a ≠ [] := List.length_pos_iff.1 hp
  exact ⟨_, (Lib.decDigits a).getLast hne, (List.dropLast_concat_getLast hne).symm⟩
 rw [hbc] at e ⊢
 have hc : c.toNat = 48 + a % 10 := by
  rw [← e, List.length_append, List.length_singleton, Nat.add_sub_cancel, List.getD_eq_getElem?_getD, List.getElem?_concat_length]
  rfl
 rw [List.reverse_append]
 show List.isPrefixOf [48] (c :: b.reverse) = _
 have h48 : (48 : UInt8).toNat = 48 := rfl
 rw [Bool.eq_iff_iff, decide_eq_true_iff]
 constructor
 ·intro h
  have h2 : (48 : UInt8) = c := by simpa [List.isPrefixOf] using h
  rw [← h2] at hc
  omega
 ·intro h
  have h2 : (48 : UInt8) = c := UInt8.toNat_inj.1 (by rw [hc, h48]; omega)
  rw [← h2]
  simp [List.isPrefixOf]
end M
theorem bits_src (w : World) (A : Option Addr) (n c : Nat) (xs : List Nat) (h : Src w A n c xs) (hn : n ≤ 17592186044416) :
  Calls Tryz.prog 195 #[.slice A n c] w (Same (.int .i64 (M.bits (M.val xs))) w) := by
 obtain ⟨a, ha⟩ : ∃ a, M.val xs = a := ⟨_, rfl⟩
 have CT := Lib.hid (trim_src w A n c xs h (by omega))
 rw [ha] at CT ⊢
 clear h ha
 go_enter Tryz.func195, Tryz.ntmps195
 go_wp2_with fail
 refine CT.out.mono ?_
 rintro _ _ ⟨m, ys, rfl, rfl, hy, hny, hv, hmn⟩
 have HV : Hid (M.val ys = a) := hv
 clear hv CT
 rcases Nat.eq_zero_or_pos m with hm | hm
 ·subst hm
  have hz : M.bits a = 0 := by
   rw [← HV.out, List.eq_nil_of_length_eq_zero hy.num]; rfl
  have HZ := Lib.hid hz
  clear hz
  go_wp2_with fail
  go_ret
  exact ⟨ret_int (by rw [HZ.out]; rfl), rfl⟩
 ·obtain ⟨j, rfl⟩ : ∃ j, m = j + 1 := ⟨m - 1, by omega⟩
  obtain ⟨ad, rfl⟩ : ∃ ad, A = some ad := by
   rcases A with _ | ad
   ·have := hy.none_ rfl
    have := hy.len
    omega
   ·exact ⟨ad, rfl⟩
  have hc1 := hy.at_ ad rfl j (by omega)
  obtain ⟨x, hx⟩ : ∃ x, ys.getD j 0 = x := ⟨_, rfl⟩
  have hxb : x < 18446744073709551616 := by rw [← hx]; exact hy.wds.getD j
  have hfin : M.bits a = 64 * j + M.bits x := by rw [← HV.out, M.bits_val hy.wds hny hy.num, hx]
  have cw := len64_any x hxb
  rw [M.bitLen_eq x x (Nat.le_refl _) hxb] at cw
  have hbx : M.bits x ≤ 64 := by
   by_cases h0 : x = 0
   ·subst h0; decide
   ·have h1 := M.bits_le h0
    rcases Nat.lt_or_ge 64 (M.bits x) with h2 | h2
    ·have h3 : 2 ^ 64 ≤ 2 ^ (M.bits x - 1) := Nat.pow_le_pow_right (by omega) (by omega)
     omega
    ·exact h2
  rw [hx] at hc1
  generalize M.bits x = y at *
  have HF := Lib.hid hfin
  have CW := Lib.hid cw
  have hj : ((j + 1 : Nat) : Int) - 1 = (j : Int) := by omega
  clear hx hxb hfin cw hy HV hny
  go_wp2_with fail
  refine (CW.out _).mono ?_
  rintro _ _ ⟨rfl, rfl⟩
  go_wp2_with fail
  go_ret
  exact ⟨ret_int (by rw [HF.out]; omega), rfl⟩
theorem suf_any (S : ByteArray) (a : Nat) (hS : Tx S (Lib.decDigits a)) (hs : S.size ≤ 9223372036854775807) (t : Bool) (ht : Hid (decide (a % 10 = 0) = t)) (w : World) :
  Calls Tryz.prog 196 #[.string S, .string ⟨#[48]⟩] w (Same (.bool t) w) := by
 refine (Tryz.strings_HasSuffix S ⟨#[48]⟩ w hs).mono ?_
 rintro _ _ ⟨rfl, rfl⟩
 refine ⟨?_, rfl⟩
 rw [show S.data.toList = Lib.decDigits a from hS, show (⟨#[48]⟩ : ByteArray).data.toList = [48] from rfl, M.dd_suf, ht.out]
def M.fit (a : Nat) : Prop := (Lib.decDigits a).length ≤ 2000 ∧ a % 10 ≠ 0
instance (a : Nat) : Decidable (M.fit a) := by unfold M.fit; infer_instance

set_option maxRecDepth 100000 in
theorem are_any (w : World) (TW : TabW w) (A : Option Addr) (n c : Nat) (a : Nat) (h : Nw w 0 1000 (.slice A n c) a) (r : Bool) (hr : Hid (decide (M.fit a) = r)) :
  Calls Tryz.prog 138 #[.slice A n c] w (Boo r w) := by
 obtain ⟨z, hz⟩ : ∃ z : Nat, M.bits a = z := ⟨_, rfl⟩
 have CB := Lib.hid (bits_any w 0 1000 _ a h)
 rw [hz] at CB
 have hlt := h.lt
 have hroom := M.dd_room a 1000 hlt
 obtain ⟨S, HS0⟩ := tx_ex (Lib.decDigits a)
 have hsz := HS0.size
 have CT := Lib.hid (text_of w 0 1000 _ a h (by omega) TW S (Tx.uniq (Tx.lit _) HS0))
 have CS := Lib.hid (fun W => suf_any S a HS0 (by omega) (decide (a % 10 = 0)) rfl W)
 obtain ⟨q, hq⟩ : ∃ q, decide (a % 10 = 0) = q := ⟨_, rfl⟩
 rw [hq] at CS
 by_cases h1 : 6644 < z
 ·have HR : Hid (false = r) := by
   show _ = _
   rw [← hr.out, eq_comm, decide_eq_false_iff_not]
   intro h2
   have := M.dd_bits (a := a) (by omega)
   have := h2.1
   omega
  have d1 : decide ((z : Int) > 6644) = true := decide_eq_true (by omega)
  clear hr h hlt hroom HS0 hsz CT CS hq hz
  go_enter Tryz.func138, Tryz.ntmps138
  go_wp2_with fail
  refine CB.out.mono ?_
  rintro _ _ ⟨rfl, rfl⟩
  go_wp2_with fail
  go_ret
  exact ⟨ret_bool HR.out, Up.refl _⟩
 ·have d1 : decide ((z : Int) > 6644) = false := decide_eq_false (by omega)
  by_cases hL : S.size ≤ 2000
  ·have d4 : decide ((S.size : Int) ≤ 2000) = true := decide_eq_true (by omega)
   have HR : Hid ((!q) = r) := by
    show _ = _
    rw [← hr.out, ← hq, Bool.eq_iff_iff, decide_eq_true_iff]
    unfold M.fit
    simp only [Bool.not_eq_true', decide_eq_false_iff_not]
    constructor
    ·intro h2; exact ⟨by omega, h2⟩
    ·intro h2; exact h2.2
   clear hr h hlt hroom HS0 hsz hq hz
   go_enter Tryz.func138, Tryz.ntmps138
   go_wp2_with fail
   refine CB.out.mono ?_
   rintro _ _ ⟨rfl, rfl⟩
   go_wp2_with fail
   refine CT.out.mono ?_
   rintro _ w1 ⟨rfl, u1⟩
   go_wp2_with fail
   refine (CS.out _).mono ?_
   rintro _ _ ⟨rfl, rfl⟩
   go_wp2_with fail
   go_ret
   exact ⟨ret_bool HR.out, u1⟩
  ·have d4 : decide ((S.size : Int) ≤ 2000) = false := decide_eq_false (by omega)
   have HR : Hid (false = r) := by
    show _ = _
    rw [← hr.out, eq_comm, decide_eq_false_iff_not]
    intro h2
    have := h2.1
    omega
   clear hr h hlt hroom HS0 hsz hq hz
   go_enter Tryz.func138, Tryz.ntmps138
   go_wp2_with fail
   refine CB.out.mono ?_
   rintro _ _ ⟨rfl, rfl⟩
   go_wp2_with fail
   refine CT.out.mono ?_
   rintro _ w1 ⟨rfl, u1⟩
   go_wp2_with fail
   go_ret
   exact ⟨ret_bool HR.out, u1⟩
theorem are_dr (w : World) (TW : TabW w) (A : Option Addr) (n c : Nat) (xs : List Nat) (h : Dr w A n c xs) (hn : M.Nrm xs) (h0 : 0 < n) (r : Bool) (hr : Hid (decide (M.fit (M.val xs)) = r)) :
  Calls Tryz.prog 138 #[.slice A n c] w (Boo r w) := by
 by_cases h1 : n ≤ 1000
 ·exact are_any w TW A n c _ ⟨_, _, _, _, rfl, h.wd h1, rfl, h1⟩ r hr
 ·have hb : ∃ z : Nat, M.bits (M.val xs) = z ∧ 6644 < z := by
   obtain ⟨m, rfl⟩ : ∃ m, n = m + 1 := ⟨n - 1, by omega⟩
   refine ⟨_, rfl, ?_⟩
   rw [M.bits_val (h.src (by omega)).wds hn h.num]
   omega
  obtain ⟨z, hz, hz2⟩ := hb
  have CB := Lib.hid (bits_src w A n c xs (h.src (by omega)) h.mx)
  rw [hz] at CB
  have HR : Hid (false = r) := by
   show _ = _
   rw [← hr.out, eq_comm, decide_eq_false_iff_not]
   intro h2
   have := M.dd_bits (a := M.val xs) (by omega)
   have := h2.1
   omega
  have d1 : decide ((z : Int) > 6644) = true := decide_eq_true (by omega)
  clear hr h hz hn
  go_enter Tryz.func138, Tryz.ntmps138
  go_wp2_with fail
  refine CB.out.mono ?_
  rintro _ _ ⟨rfl, rfl⟩
  go_wp2_with fail
  go_ret
  exact ⟨ret_bool HR.out, Up.refl _⟩
set_option maxRecDepth 100000 in
theorem lright_any (w : World) (ng : Bool) (A : Option Addr) (n c : Nat) (xs : List Nat) (k : Int) (r : Bool) (TW : TabW w) (h : Dr w A n c xs) (hr : Hid (decide (M.rt xs k) = r)) :
  Calls Tryz.prog 74 #[dv ng (.slice A n c) k] w (Boo r w) := by
 have hu := (Up.refl w).alloc (.cells #[.bool ng, .slice A n c, .int .i64 k] 44)
 rcases Nat.eq_zero_or_pos n with h0 | h0
 ·subst h0
  have hx := h.nil
  subst hx
  have HR : Hid ((k == 0) = r) := by
   show _ = _
   rw [← hr.out, Bool.eq_iff_iff, decide_eq_true_iff, beq_iff_eq]
   constructor
   ·intro e; exact ⟨M.Nrm.nil, .inl ⟨rfl, e⟩⟩
   ·rintro ⟨_, h | h⟩
    ·exact h.2
    ·exact absurd rfl h.1
  clear hr h TW
  go_enter Tryz.func74, Tryz.ntmps74
  go_wp2_with fail
  go_ret
  exact ⟨ret_bool HR.out, hu⟩
 ·have hn0 : ((n : Int) == 0) = false := by rw [beq_eq_false_iff_ne]; omega
  have hnm := h.mx
  obtain ⟨ad, y, rfl, hc, hny⟩ := h.last h0
  have hc2 := cell_up hu hc
  have hne : y ≠ 0 → M.val xs ≠ 0 := by
   intro hy e
   have h1 := M.val_zero (hny.2 hy) e
   have h2 := h.num
   rw [h1] at h2
   simp at h2
   omega
  have hiff : M.rt xs k ↔ y ≠ 0 ∧ (-5000 ≤ k ∧ k ≤ 5000) ∧ M.fit (M.val xs) := by
   constructor
   ·rintro ⟨a1, h | h⟩
    ·exact absurd h.1 (hne (hny.1 a1))
    ·exact ⟨hny.1 a1, h.2.1, h.2.2.1, h.2.2.2⟩
   ·rintro ⟨a1, a2, a3⟩; exact ⟨hny.2 a1, .inr ⟨hne a1, a2, a3.1, a3.2⟩⟩
  by_cases hy : y = 0
  ·have HR : Hid (false = r) := by
    show _ = _
    rw [← hr.out, eq_comm, decide_eq_false_iff_not]
    intro h2
    exact (hiff.1 h2).1 hy
   subst hy
   clear hr h hc hny hiff hne TW
   by_cases k1 : -5000 ≤ k
   ·have d2 : decide (-5000 ≤ k) = true := decide_eq_true k1
    go_enter Tryz.func74, Tryz.ntmps74
    go_wp2_with fail
    all_goals go_ret
    all_goals exact ⟨ret_bool HR.out, hu⟩
   ·have d2 : decide (-5000 ≤ k) = false := decide_eq_false k1
    go_enter Tryz.func74, Tryz.ntmps74
    go_wp2_with fail
    go_ret
    exact ⟨ret_bool HR.out, hu⟩
  ·have hy0 : ((y : Int) != 0) = true := by rw [bne_iff_ne]; omega
   by_cases hk : -5000 ≤ k ∧ k ≤ 5000
   ·obtain ⟨k1, k2⟩ := hk
    have d2 : decide (-5000 ≤ k) = true := decide_eq_true k1
    have d3 : decide (k ≤ 5000) = true := decide_eq_true k2
    have HR : Hid (decide (M.fit (M.val xs)) = r) := by
     show _ = _
     rw [← hr.out, Bool.eq_iff_iff, decide_eq_true_iff, decide_eq_true_iff, hiff]
     exact ⟨fun x => ⟨hy, ⟨k1, k2⟩, x⟩, fun x => x.2.2⟩
    have CA := Lib.hid (are_dr _ (TW.up hu) _ n c xs (h.up hu) (hny.2 hy) h0 r HR)
    clear hr h hc hny hiff hne TW
    go_enter Tryz.func74, Tryz.ntmps74
    go_wp2_with fail
    refine CA.out.mono ?_
    rintro _ w1 ⟨rfl, u1⟩
    go_wp2_with fail
    go_ret
    exact ⟨rfl, hu.trans u1⟩
   ·have HR : Hid (false = r) := by
     show _ = _
     rw [← hr.out, eq_comm, decide_eq_false_iff_not]
     intro h2
     exact hk (hiff.1 h2).2.1
    clear hr h hc hny hiff hne TW
    by_cases k1 : -5000 ≤ k
    ·have d2 : decide (-5000 ≤ k) = true := decide_eq_true k1
     have d3 : decide (k ≤ 5000) = false := decide_eq_false (by omega)
     clear hk
     go_enter Tryz.func74, Tryz.ntmps74
     go_wp2_with fail
     go_ret
     exact ⟨ret_bool HR.out, hu⟩
    ·have d2 : decide (-5000 ≤ k) = false := decide_eq_false k1
     clear hk
     go_enter Tryz.func74, Tryz.ntmps74
     go_wp2_with fail
     go_ret
     exact ⟨ret_bool HR.out, hu⟩
end Go.Proofs.YtcmlanfgafancaaGreatDoor
namespace Go.Proofs.YtcmlanfgafancaaGreatDoor
open Go.RowKit Go.Shelf
theorem itoa_any (w : World) (z : Int) (hz : -1000000 ≤ z ∧ z ≤ 1000000) (TW : TabW w) : Calls Tryz.prog 204 #[.int .i64 z] w (Tex (M.ntx z) w) := by
 refine (Tryz.strconv_Itoa z (by omega) (by omega) w TW).mono ?_
 rintro _ _ ⟨rfl, k, os, rfl⟩
 exact ⟨_, rfl, by rw [M.itoa_ntx]; exact Tx.lit _, Lib.below_grow w.heap.size w (Nat.le_refl _) k os⟩
theorem M.ntx_len (z : Int) (hz : -1000000 ≤ z ∧ z ≤ 1000000) : (M.ntx z).length ≤ 8 := by
 unfold M.ntx M.sgt
 have := M.dd_len7 z.natAbs (by omega)
 rw [List.length_append]
 split <;> simp <;> omega
set_option maxRecDepth 100000 in
theorem lpow_many (w : World) (TW : TabW w) (S : ByteArray) (T : List UInt8) (hS : Tx S T) (h1 : 1 < T.length) (h2 : T.length ≤ 3000) (z : Int) (hz : -1000000 ≤ z ∧ z ≤ 1000000) :
  Calls Tryz.prog 142 #[.string S, .int .i64 z] w (Tex (T.take 1 ++ ((46 :: T.drop 1) ++ (101 :: M.ntx z))) w) := by
 have hsz := hS.size
 obtain ⟨A, hA⟩ : ∃ A, S.extract 0 1 = A := ⟨_, rfl⟩
 obtain ⟨B, hB⟩ : ∃ B, S.extract 1 T.length = B := ⟨_, rfl⟩
 have tA : Hid (Tx A (T.take 1)) := by
  have := hS.ext 0 1
  rw [hA] at this
  exact this
 have tB : Hid (Tx B (T.drop 1)) := by
  have := hS.ext 1 T.length
  rw [hB, List.take_of_length_le (by rw [List.length_drop]; exact Nat.le_refl _)] at this
  exact this
 have c1 : (1 : Int) ≤ ↑S.size := by omega
 have lB := tB.out.size
 rw [List.length_drop] at lB
 have bB : 0 < B.size := by omega
 have tl1 : (T.take 1).length = 1 := by rw [List.length_take]; omega
 have CJ : Hid (∀ W b, Ob W b 9 #[.string A, .string ⟨#[46]⟩] → Calls Tryz.prog 75 #[.slice (some ⟨b, 0, none⟩) 2 2] W (Tex (T.take 1 ++ [46]) W)) := fun W b ob => join2 W b _ _ _ _ _ ob tA.out (Tx.lit [46]) (by rw [tl1]; simp)
 have CI : Hid (∀ W, Up w W → Calls Tryz.prog 204 #[.int .i64 z] W (Tex (M.ntx z) W)) := fun W u => itoa_any W z hz (TW.up u)
 have hzl := M.ntx_len z hz
 have CK : Hid (∀ W b (X Z : ByteArray), Tx X (T.take 1 ++ [46]) → Tx Z (M.ntx z) → Ob W b 9 #[.string X, .string B, .string ⟨#[101]⟩, .string Z] → Calls Tryz.prog 75 #[.slice (some ⟨b, 0, none⟩) 4 4] W (Tex ((T.take 1 ++ [46]) ++ (T.drop 1 ++ ([101] ++ M.ntx z))) W)) :=
  fun W b X Z tX tZ ob => join4 W b _ _ _ _ _ _ _ _ _ ob tX tB.out (Tx.lit [101]) tZ (by simp only [List.length_append, tl1, List.length_singleton, List.length_drop]; omega)
 have e2 : B.toList.isEmpty = false := by
  rw [Lib.toList_data, show B.data.toList = T.drop 1 from tB.out]
  have : T.drop 1 ≠ [] := by
   intro e
   have := congrArg List.length e
   rw [List.length_drop, List.length_nil] at this
   omega
  cases h : T.drop 1 with
  | nil => exact absurd h this
  | cons _ _ => rfl
 have HF : Hid ((T.take 1 ++ [46]) ++ (T.drop 1 ++ ([101] ++ M.ntx z)) = T.take 1 ++ ((46 :: T.drop 1) ++ (101 :: M.ntx z))) := by show _ = _; simp
 clear hS tA h1 h2 lB tl1 hz hzl TW
 generalize T.take 1 ++ ((46 :: T.drop 1) ++ (101 :: M.ntx z)) = L at *
 generalize T.take 1 = T1 at *
 generalize T.drop 1 = T2 at *
 go_enter Tryz.func142, Tryz.ntmps142
 go_wp2_with fail
 go_region
 all_goals
  go_wp2_with fail
  refine (CJ.out _ _ (by first | exact Ob.mk_ w _ _ | exact Ob.mk_ w.drew _ _)).mono ?_
  rintro _ w1 ⟨X, rfl, tX, u1⟩
  have U1 : Up w w1 := Up.trans (by repeat (first | exact Up.refl _ | refine Up.drew ?_ | refine Up.drewN ?_ _ | refine Up.alloc ?_ _)) u1
  have HX := Lib.hid tX
  clear u1 tX
  go_wp2_with fail
  refine (CI.out _ (by first | exact U1 | exact U1.drew)).mono ?_
  rintro _ w2 ⟨Z, rfl, tZ, u2⟩
  have U2 : Up w w2 := Up.trans (by first | exact U1 | exact U1.drew) u2
  have HZ := Lib.hid tZ
  clear u2 tZ U1
  go_wp2_with fail
  refine (CK.out _ _ X Z HX.out HZ.out (by first | exact Ob.mk_ w2 _ _ | exact Ob.mk_ w2.drew _ _)).mono ?_
  rintro _ w3 ⟨R, rfl, tR, u3⟩
  have U3 : Up w w3 := U2.trans (Up.trans (by repeat (first | exact Up.refl _ | refine Up.drew ?_ | refine Up.drewN ?_ _ | refine Up.alloc ?_ _)) u3)
  go_wp2_with fail
  go_ret
  exact ⟨R, rfl, tR.to HF.out, by first | exact U3 | exact U3.drew⟩
set_option maxRecDepth 100000 in
theorem lpow_one (w : World) (TW : TabW w) (S : ByteArray) (T : List UInt8) (hS : Tx S T) (h1 : T.length = 1) (z : Int) (hz : -1000000 ≤ z ∧ z ≤ 1000000) :
  Calls Tryz.prog 142 #[.string S, .int .i64 z] w (Tex (T ++ (101 :: M.ntx z)) w) := by
 have hsz := hS.size
 obtain ⟨A, hA⟩ : ∃ A, S.extract 0 1 = A := ⟨_, rfl⟩
 obtain ⟨B, hB⟩ : ∃ B, S.extract 1 T.length = B := ⟨_, rfl⟩
 have tA : Hid (Tx A T) := by
  have := hS.ext 0 1
  rw [hA, List.drop_zero, List.take_of_length_le (by omega)] at this
  exact this
 have tB : Hid (Tx B []) := by
  have := hS.ext 1 T.length
  rw [hB, h1] at this
  exact this
 have c1 : (1 : Int) ≤ ↑S.size := by omega
 have CI : Hid (∀ W, Up w W → Calls Tryz.prog 204 #[.int .i64 z] W (Tex (M.ntx z) W)) := fun W u => itoa_any W z hz (TW.up u)
 have hzl := M.ntx_len z hz
 have CK : Hid (∀ W b (Z : ByteArray), Tx Z (M.ntx z) → Ob W b 9 #[.string A, .string ByteArray.empty, .string ⟨#[101]⟩, .string Z] → Calls Tryz.prog 75 #[.slice (some ⟨b, 0, none⟩) 4 4] W (Tex (T ++ ([] ++ ([101] ++ M.ntx z))) W)) :=
  fun W b Z tZ ob => join4 W b _ _ _ _ _ _ _ _ _ ob tA.out (Tx.lit []) (Tx.lit [101]) tZ (by simp only [h1, List.length_singleton, List.length_nil]; omega)
 have e2 : B.toList.isEmpty = true := by
  rw [Lib.toList_data, show B.data.toList = [] from tB.out]
  rfl
 have HF : Hid (T ++ ([] ++ ([101] ++ M.ntx z)) = T ++ (101 :: M.ntx z)) := by show _ = _; simp
 clear hS tA hz hzl TW
 rw [h1] at hB hsz
 have h1' := Lib.hid h1
 clear h1
 generalize T ++ (101 :: M.ntx z) = L at *
 go_enter Tryz.func142, Tryz.ntmps142
 go_wp2_with fail
 go_region
 all_goals
  go_wp2_with fail
  refine (CI.out _ (by repeat (first | exact Up.refl _ | refine Up.drew ?_ | refine Up.drewN ?_ _ | refine Up.alloc ?_ _))).mono ?_
  rintro _ w2 ⟨Z, rfl, tZ, u2⟩
  have U2 : Up w w2 := Up.trans (by repeat (first | exact Up.refl _ | refine Up.drew ?_ | refine Up.drewN ?_ _ | refine Up.alloc ?_ _)) u2
  have HZ := Lib.hid tZ
  clear u2 tZ
  go_wp2_with fail
  refine (CK.out _ _ Z HZ.out (by first | exact Ob.mk_ w2 _ _ | exact Ob.mk_ w2.drew _ _)).mono ?_
  rintro _ w3 ⟨R, rfl, tR, u3⟩
  have U3 : Up w w3 := U2.trans (Up.trans (by repeat (first | exact Up.refl _ | refine Up.drew ?_ | refine Up.drewN ?_ _ | refine Up.alloc ?_ _)) u3)
  go_wp2_with fail
  go_ret
  exact ⟨R, rfl, tR.to HF.out, by first | exact U3 | exact U3.drew⟩
theorem lpow_any (w : World) (TW : TabW w) (S : ByteArray) (T : List UInt8) (hS : Tx S T) (h1 : 1 ≤ T.length) (h2 : T.length ≤ 3000) (z : Int) (hz : -1000000 ≤ z ∧ z ≤ 1000000) :
  Calls Tryz.prog 142 #[.string S, .int .i64 z] w (Tex (T.take 1 ++ ((if 1 < T.length then 46 :: T.drop 1 else []) ++ (101 :: M.ntx z))) w) := by
 by_cases h : 1 < T.length
 ·rw [if_pos h]
  exact lpow_many w TW S T hS h h2 z hz
 ·rw [if_neg h, List.nil_append, List.take_of_length_le (by omega)]
  exact lpow_one w TW S T hS (by omega) z hz
end Go.Proofs.YtcmlanfgafancaaGreatDoor
