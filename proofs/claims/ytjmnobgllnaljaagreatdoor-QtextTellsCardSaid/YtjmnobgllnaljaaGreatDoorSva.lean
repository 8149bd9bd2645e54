/-
  Layer 9's laws: numbers as text, of, bytes of a text, items; bounds of what is told; texts of digits.
-/
import Derived.Test.YtjmnobgllnaljaaGreatDoorSc
import Derived.Test.YtjmnobgllnaljaaGreatDoorNa
import Derived.Test.YtjmnobgllnaljaaGreatDoorSq
import Derived.Lib.ConvBytes
/-
  Layer 9's laws: same, number: their contracts.
-/
namespace Go.Proofs.YtjmnobgllnaljaaGreatDoor
open Go.RowKit Go.Shelf

theorem M.nd_le : ∀ (k u : Nat), u < 10 ^ (k + 1) → Lib.nDigits u ≤ k + 1
  | 0, u, h => by rw [Lib.nDigits_small (by simpa using h)]; exact Nat.le_refl _
  | k + 1, u, h => by
    by_cases h10 : u < 10
    · rw [Lib.nDigits_small h10]; omega
    · rw [Lib.nDigits_big h10]
      have := M.nd_le k (u / 10) (by rw [Nat.pow_succ] at h; omega)
      omega
/-- A whole number, as text. -/
def M.nt (z : Int) : List UInt8 := (if z < 0 then [45] else []) ++ Lib.decDigits z.natAbs
end Go.Proofs.YtjmnobgllnaljaaGreatDoor
/-
  Layer 9's laws: of: its contract; bytes of a text.
-/
namespace Go.Proofs.YtjmnobgllnaljaaGreatDoor
open Go.RowKit Go.Shelf
set_option linter.unusedVariables false

/-- An item is told. -/
def Ofi (r : M.It) (w : World) (e : Ending) (w' : World) : Prop := ∃ v, e = .returned (itv (r.kind : Int) r.neg v r.n.k r.n.big r.n.cut) ∧ Nt w' w.heap.size 2001 v r.n.d ∧ Up w w'
theorem conv_str (w : World) (s : ByteArray) (l : List UInt8) (hl : s.data.toList = l) (_hs : s.size ≤ 100000000) :
    ∃ c W, (convert 9 67 (.string s)).run Tryz.prog w = .ok (.slice (some ⟨w.heap.size, 0, none⟩) s.size c) W ∧ Sb W (some ⟨w.heap.size, 0, none⟩) s.size c l ∧ Up w W := by
  refine ⟨grownCap w s.size 0 5, Lib.bytesWorld w 5 s, Lib.run_convert_string_bytes w 9 67 5 s Tryz.underlying9 Tryz.underlying67 Tryz.underlying5, ?_, ?_⟩
  · refine ⟨by rw [← hl]; exact Array.length_toList, grownCap_ge w _ 0 5, (fun e => by cases e), fun ad e j hj => ?_⟩
    cases e
    rw [Addr.add_lit, Nat.zero_add, Lib.bytesWorld_cell w 5 s j hj, hl]
  · exact ⟨rfl, rfl, rfl, by show w.heap.size ≤ _; rw [Lib.bytesWorld_size]; omega, fun k hk => Lib.bytesWorld_at_old w 5 s k hk⟩
end Go.Proofs.YtjmnobgllnaljaaGreatDoor
/-
  Layer 9's laws: what is told of literals.
-/
namespace Go.Proofs.YtjmnobgllnaljaaGreatDoor
open Go.RowKit Go.Shelf
set_option linter.unusedVariables false

/-- An item with all its fields as letters. -/
def Ofv (K : Int) (ng : Bool) (d : Nat) (k bg : Int) (ct : Bool) (w : World) (e : Ending) (w' : World) : Prop := ∃ A n c xs, e = .returned (itv K ng (.slice A n c) k bg ct) ∧ Wd w' w.heap.size A n c xs ∧ M.val xs = d ∧ n ≤ 2001 ∧ M.Nrm xs ∧ Up w w'
def Scv (K : Int) (ng : Bool) (d : Nat) (k bg : Int) (ct : Bool) (i er : Int) (w : World) (e : Ending) (w' : World) : Prop := ∃ A n c xs, e = .returned (.tuple #[itv K ng (.slice A n c) k bg ct, .int .i64 i, .int .i64 er]) ∧ Wd w' w.heap.size A n c xs ∧ M.val xs = d ∧ n ≤ 2001 ∧ M.Nrm xs ∧ Up w w'
theorem scan_val (w : World) (EW : Hid (ErrW w)) (A : Option Addr) (n c : Nat) (l : List UInt8) (hS : Sb w A n c l) (hn : n ≤ 100000000) (r : M.It) (i : Nat) (er : Int) (hr : Hid (M.rs l = (r, i, er)))
    (K : Int) (ng : Bool) (d : Nat) (k bg : Int) (ct : Bool) (I : Int) (e1 : (r.kind : Int) = K) (e2 : r.neg = ng) (e3 : r.n = ⟨d, k, bg, ct⟩) (e4 : (i : Int) = I) : Calls Tryz.prog 52 #[.slice A n c] w (Scv K ng d k bg ct I er w) := by
  refine (scan_any w EW A n c l hS hn r i er hr).mono ?_
  rintro e w' ⟨v, rfl, ⟨A, n, c, xs, rfl, h1, h2, h3, h4⟩, u⟩
  refine ⟨A, n, c, xs, by rw [e1, e2, e3, e4], h1, by rw [h2, e3], h3, h4, u⟩
theorem wd_nt {w : World} {lo n c d : Nat} {A : Option Addr} {xs : List Nat} (h1 : Wd w lo A n c xs) (h2 : M.val xs = d) (h3 : n ≤ 2001) (h4 : M.Nrm xs) : Nt w lo 2001 (.slice A n c) d := ⟨A, n, c, xs, rfl, h1, h2, h3, h4⟩
/-- A literal's bytes. -/
theorem sb_lit (w : World) (cs : Array Value) (m : Nat × Nat) (bs : List UInt8) (n : Nat) (hn : bs.length = n) (h : cs.toList = bs.map fun c => .int .u8 (c.toNat : Int)) : Sb (w.alloc (.cells cs 5 m)) (some ⟨w.heap.size, 0, none⟩) n n bs := by
  refine ⟨hn, Nat.le_refl _, (fun e => by cases e), fun ad e j hj => ?_⟩
  cases e
  rw [Addr.add_lit, Nat.zero_add]
  have hb : (w.alloc (.cells cs 5 m)).heap[w.heap.size]? = some (.cells cs 5 m) := Array.getElem?_push_size
  have hj2 : cs[j]? = some (.int .u8 ((bs.getD j 0).toNat : Int)) := by
    rw [← Array.getElem?_toList, h, List.getElem?_map, List.getD_eq_getElem?_getD, List.getElem?_eq_getElem (show j < bs.length by omega)]
    rfl
  show (match (w.alloc (.cells cs 5 m)).heap[w.heap.size]? with | some (.cells c _ _) => c[j]? | _ => none) = _
  rw [hb]
  exact hj2
theorem kc_any (w : World) (C : Array Value) (n c : Nat) : (convert 67 67 (.slice (some ⟨w.heap.size, 0, none⟩) n c)).run Tryz.prog (w.alloc (.cells C 5)) = .ok (.slice (some ⟨w.heap.size, 0, none⟩) n c) (w.alloc (.cells C 5 (C.size, C.size + 1))) :=
  Lib.run_convert_bytes_const (P := Tryz.prog) w 67 5 C n c Tryz.underlying67 Tryz.underlying5
theorem field_kind (W : World) (K : Int) (ng : Bool) (A : Option Addr) (m c : Nat) (k bg : Int) (ct : Bool) : (Instr.field 51 (itv K ng (.slice A m c) k bg ct) 0).run Tryz.prog W = .ok (.int .i64 K) W := by
  have e : ∀ W : World, (Go.isAgg 3).run Tryz.prog W = .ok false W := fun W => by simp [Go.isAgg, run_underlying Tryz.underlying3]
  simp [Instr.field, run_underlying Tryz.underlying51, asAgg, part, e]
end Go.Proofs.YtjmnobgllnaljaaGreatDoor
/-
  What a number that was told is bounded by (for ScanBounds).
-/
namespace Go.Proofs.YtjmnobgllnaljaaGreatDoor
open Go.RowKit Go.Shelf
set_option linter.unusedVariables false
namespace M
theorem nx_isd (s c : Nat) (h : nx s c = 2 ∨ nx s c = 5) : 48 ≤ c ∧ c ≤ 57 := by
  by_cases hc : 48 ≤ c ∧ c ≤ 57
  · exact hc
  · exfalso
    have e : nx s c ≠ 2 ∧ nx s c ≠ 5 := by
      unfold nx
      simp only [hc, false_and, if_false]
      constructor <;> (repeat' split) <;> omega
    rcases h with h | h
    · exact e.1 h
    · exact e.2 h
theorem scf_wh : ∀ (r : List UInt8) (x y : Sc) (i : Nat), scf x i r = .ok y → wh y.st = true
  | [], x, y, i, h => by
    rw [scf] at h
    split at h
    · rename_i hw
      cases h; exact hw
    · cases h
  | c :: r, x, y, i, h => by
    rw [scf] at h
    split at h
    · cases h
    · exact scf_wh r _ y _ h
theorem scf_ds : ∀ (r : List UInt8) (x y : Sc) (i : Nat), scf x i r = .ok y → allD x.ds = true → allD y.ds = true
  | [], x, y, i, h, hd => by
    rw [scf] at h
    split at h
    · cases h; exact hd
    · cases h
  | c :: r, x, y, i, h, hd => by
    rw [scf] at h
    split at h
    · cases h
    · refine scf_ds r _ y _ h ?_
      show allD (if nx x.st c.toNat = 2 ∨ nx x.st c.toNat = 5 then x.ds ++ [c] else x.ds) = true
      split
      · rename_i hn
        have hc := nx_isd _ _ hn
        rw [allD, List.all_append]
        rw [allD] at hd
        simp [hd, isD, hc.1, hc.2]
      · exact hd
theorem itm_bounds (l : List UInt8) (y : Sc) (h : scan l = .ok y) :
    (itm y).neg = decide (l ≠ [] ∧ l.headD 0 = 45) ∧
    ((1 ≤ (itm y).kind ∧ (itm y).kind ≤ 4 ∧ (itm y).n.d = 0 ∧ (itm y).n.k = 0 ∧ (itm y).n.cut = false ∧ ((itm y).kind = 1 ∨ (itm y).n.big = 0)) ∨
     ((itm y).kind = 1 ∧ (itm y).n.big = 0 ∧ 0 < (itm y).n.d ∧ ∃ s : List UInt8, s ≠ [] ∧ Lib.decDigits (itm y).n.d = s ∧ s.length ≤ 1991 ∧ (s.length = 1991 ↔ (itm y).n.cut = true) ∧ s.getLast? ≠ some 48 ∧ (s.length : Int) + (itm y).n.k ≤ 1000 ∧ -1000 < (s.length : Int) + (itm y).n.k)) := by
  have hw := scf_wh l _ _ _ h
  have hds := scf_ds l _ _ _ h rfl
  have hng := scan_neg l y h
  unfold itm
  by_cases h10 : 10 ≤ y.st
  · rw [if_pos h10]
    refine ⟨hng, .inl ⟨by show 1 ≤ y.st / 10 + 1; omega, ?_, rfl, rfl, rfl, .inr rfl⟩⟩
    show y.st / 10 + 1 ≤ 4
    simp [wh] at hw
    omega
  · rw [if_neg h10]
    refine ⟨hng, ?_⟩
    rcases num_bounds y.ds (pwr y - y.bh) hds with ⟨a, b, c⟩ | ⟨a, b, s, s1, s2, s3, s4, s5, s6, s7, s8, s9⟩
    · exact .inl ⟨Nat.le_refl _, by show 1 ≤ 4; omega, a, b, c, .inl rfl⟩
    · exact .inr ⟨rfl, b, a, s, s1, by show Lib.decDigits (num y.ds (pwr y - y.bh)).d = s; rw [← s2]; exact dd_vsa _ s (Nat.le_refl _) s1 s3 (.inl s4), s5, s6, s7, s8, s9⟩
end M
end Go.Proofs.YtjmnobgllnaljaaGreatDoor
/-
  What the texts of ScanCase and ScanSame say; digits out of bytes. No program's walk is here.
-/
namespace Go.Proofs.YtjmnobgllnaljaaGreatDoor
open Go.RowKit Go.Shelf
set_option linter.unusedVariables false

namespace M
def dg (c : UInt8) : UInt8 := UInt8.ofNat (48 + c.toNat % 10)
theorem dg_val (c : UInt8) : (dg c).toNat = 48 + c.toNat % 10 := ofNat_toNat (by omega)
theorem dg_all : ∀ l : List UInt8, allD (l.map dg) = true
  | [] => rfl
  | c :: r => by
    rw [List.map_cons, allD, List.all_cons, Bool.and_eq_true]
    exact ⟨(isD_iff _).2 (by rw [dg_val]; omega), dg_all r⟩
theorem take_snoc_s {l : List UInt8} {j : Nat} (h : j < l.length) : l.take (j + 1) = l.take j ++ [l.getD j 0] := by
  rw [List.take_add_one]
  congr 1
  rw [List.getD_eq_getElem?_getD, List.getElem?_eq_getElem h]
  rfl
/-- The sign and the digits of a whole number. -/
def sgz (z : Int) : List UInt8 := if z < 0 then [45] else []
def ddz (z : Int) : List UInt8 := Lib.decDigits z.natAbs
theorem nt_eq (z : Int) : nt z = sgz z ++ ddz z := rfl
theorem nt_nat (q : Nat) : nt (q : Int) = ddz (q : Int) := by
  rw [nt_eq, sgz, if_neg (by omega)]
  rfl
theorem ddz_all (z : Int) : allD (ddz z) = true := (dd_all _ _ (Nat.le_refl _)).1
theorem ddz_ne (z : Int) : ddz z ≠ [] := (dd_all _ _ (Nat.le_refl _)).2.2.1
theorem ddz_val (z : Int) : vsa 0 (ddz z) = z.natAbs := (dd_all _ _ (Nat.le_refl _)).2.1
theorem sgz_any (z : Int) : sgz z = [] ∨ sgz z = [43] ∨ sgz z = [45] := by
  unfold sgz
  split
  · exact .inr (.inr rfl)
  · exact .inl rfl
theorem nt_len (z : Int) (hz : -10000000 ≤ z ∧ z ≤ 10000000) : (nt z).length ≤ 20 := by
  rw [nt_eq, List.length_append]
  have h1 : (sgz z).length ≤ 1 := by unfold sgz; split <;> simp
  have h2 : (ddz z).length ≤ 10 := by
    unfold ddz
    rw [Lib.decDigits_length]
    exact nd_le 9 _ (by omega)
  omega
theorem pwr_z (st : Nat) (ng : Bool) (ds : List UInt8) (bh : Nat) (z : Int) : pwr ⟨st, ng, ds, bh, decide (sgz z = [45]), ddz z⟩ = z := by
  unfold pwr
  rw [show (⟨st, ng, ds, bh, decide (sgz z = [45]), ddz z⟩ : Sc).pw = ddz z from rfl, ddz_val]
  by_cases h : z < 0
  · have : decide (sgz z = [45]) = true := by simp [sgz, h]
    rw [show (⟨st, ng, ds, bh, decide (sgz z = [45]), ddz z⟩ : Sc).dn = decide (sgz z = [45]) from rfl, this, if_pos rfl]
    omega
  · have : decide (sgz z = [45]) = false := by simp [sgz, h]
    rw [show (⟨st, ng, ds, bh, decide (sgz z = [45]), ddz z⟩ : Sc).dn = decide (sgz z = [45]) from rfl, this, if_neg (by simp)]
    omega
/-- A number told by its digits. -/
theorem rs_num {l : List UInt8} {ds : List UInt8} {bh : Nat} {dn : Bool} {pw : List UInt8} (h : scan l = .ok ⟨8, false, ds, bh, dn, pw⟩) : rs l = (⟨1, false, num ds (pwr ⟨8, false, ds, bh, dn, pw⟩ - bh)⟩, 0, 0) := by
  rw [rs_ok h]
  show (itm _, 0, 0) = _
  unfold itm
  rw [if_neg (by simp)]

/-! ScanCase. -/
theorem noughts_pw (q n : Nat) : allD (List.replicate q 48 ++ ddz n) = true ∧ List.replicate q 48 ++ ddz n ≠ [] ∧ vsa 0 (List.replicate q 48 ++ ddz n) = n := by
  refine ⟨?_, ?_, ?_⟩
  · rw [allD_append, allD_noughts, ddz_all]; rfl
  · intro e
    exact ddz_ne _ (List.append_eq_nil_iff.1 e).2
  · rw [vsa_noughts, ddz_val]; rfl
theorem head_all {D1 : List UInt8} (h1 : allD D1 = true) : allD (D1 ++ [48]) = true := by rw [allD_append, h1]; rfl
/-- A text of ScanCase: digits, a point, digits, an e, a sign, noughts, a number. -/
theorem case_any (D1 D2 : List UInt8) (h1 : allD D1 = true) (h2 : allD D2 = true) (q n : Nat) (ec : UInt8) (he : ec = 101 ∨ ec = 69) (sg : List UInt8) (hs : sg = [] ∨ sg = [43] ∨ sg = [45]) (a b : Nat) :
    rs ((List.replicate a 48 ++ (D1 ++ [48])) ++ (46 :: ((D2 ++ List.replicate b 48) ++ (ec :: (sg ++ (List.replicate q 48 ++ ddz n)))))) =
      (⟨1, false, num ((D1 ++ [48]) ++ D2) ((if sg = [45] then -(n : Int) else n) - D2.length)⟩, 0, 0) := by
  obtain ⟨p1, p2, p3⟩ := noughts_pw q n
  have hd : allD (List.replicate a 48 ++ (D1 ++ [48])) = true := by rw [allD_append, allD_noughts, head_all h1]; rfl
  have hf : allD (D2 ++ List.replicate b 48) = true := by rw [allD_append, allD_noughts, h2]; rfl
  have e := scan_point (List.replicate a 48 ++ (D1 ++ [48])) (D2 ++ List.replicate b 48) ec sg (List.replicate q 48 ++ ddz n) hd hf (.inl (by simp)) he hs p1 p2
  rw [rs_num e]
  have e2 : pwr ⟨8, false, List.replicate a 48 ++ (D1 ++ [48]) ++ (D2 ++ List.replicate b 48), (D2 ++ List.replicate b 48).length, decide (sg = [45]), List.replicate q 48 ++ ddz n⟩ = (if sg = [45] then -(n : Int) else n) := by
    unfold pwr
    simp only [p3, decide_eq_true_eq]
  rw [e2]
  generalize (if sg = [45] then -(n : Int) else n) = P
  have e3 : List.replicate a 48 ++ (D1 ++ [48]) ++ (D2 ++ List.replicate b 48) = List.replicate a 48 ++ (((D1 ++ [48]) ++ D2) ++ List.replicate b 48) := by simp only [List.append_assoc]
  have e4 : P - ((D2 ++ List.replicate b 48).length : Int) = (P - D2.length) - b := by
    rw [List.length_append, List.length_replicate]; omega
  rw [e3, e4, num_shift]

/-! ScanSame. -/
theorem same_num (ds : List UInt8) (h : allD ds = true) (hl : ds.length ≤ 100) (z : Int) (hz : -301 < z ∧ z < 301) :
    num (ds ++ [55]) z = ⟨vsa 0 (lz (ds ++ [55])), z, 0, false⟩ := by
  have hll := lz_len (ds ++ [55])
  rw [List.length_append, List.length_singleton] at hll
  have hne : lz (ds ++ [55]) ≠ [] ∧ (lz (ds ++ [55])).getLast? = some 55 := by
    by_cases hd : lz ds = []
    · rw [lz_none _ _ hd]; exact ⟨by simp [lz], by rfl⟩
    · rw [lz_append _ _ hd]; exact ⟨by simp, by simp⟩
  have ht : tz (lz (ds ++ [55])) = lz (ds ++ [55]) := by
    generalize lz (ds ++ [55]) = r at hne
    obtain ⟨h1, h2⟩ := hne
    obtain ⟨b, c, rfl⟩ : ∃ b c, r = b ++ [c] := ⟨r.dropLast, r.getLast h1, (List.dropLast_concat_getLast h1).symm⟩
    have hc : c = 55 := by simpa using h2
    subst hc
    unfold tz
    rw [List.reverse_append]
    show (lz (55 :: b.reverse)).reverse = _
    rw [lz_cons, if_neg (by decide)]
    simp
  unfold num nm
  rw [ht, if_neg hne.1]
  have hlen : ((lz (ds ++ [55])).length : Int) ≤ 101 := by omega
  rw [if_neg (by omega), if_neg (by omega), if_neg (by omega)]
  congr 1
  omega
theorem same_a (S : List UInt8) (h : allD S = true) (h0 : S ≠ []) (z : Int) : rs (S ++ (101 :: (sgz z ++ ddz z))) = (⟨1, false, num S z⟩, 0, 0) := by
  rw [rs_num (scan_plain S 101 (sgz z) (ddz z) h h0 (.inl rfl) (sgz_any z) (ddz_all z) (ddz_ne z)), pwr_z]
  simp
theorem same_b (S : List UInt8) (h : allD S = true) (h0 : S ≠ []) (z : Int) (a m : Nat) : rs ((List.replicate a 48 ++ (S ++ List.replicate m 48)) ++ (46 :: ([] ++ (101 :: (sgz (z - m) ++ ddz (z - m)))))) = (⟨1, false, num S z⟩, 0, 0) := by
  have hd : allD (List.replicate a 48 ++ (S ++ List.replicate m 48)) = true := by rw [allD_append, allD_append, allD_noughts, allD_noughts, h]; rfl
  have hn : List.replicate a 48 ++ (S ++ List.replicate m 48) ≠ [] := by simp [h0]
  rw [rs_num (scan_point _ [] 101 (sgz (z - m)) (ddz (z - m)) hd rfl (.inl hn) (.inl rfl) (sgz_any _) (ddz_all _) (ddz_ne _)), pwr_z]
  rw [List.append_nil]
  have := num_shift a m S z
  simpa using this
theorem same_c (S : List UInt8) (h : allD S = true) (z : Int) (m : Nat) : rs ([48] ++ (46 :: ((List.replicate m 48 ++ S) ++ (69 :: (sgz (z + m + S.length) ++ ddz (z + m + S.length)))))) = (⟨1, false, num S z⟩, 0, 0) := by
  have hf : allD (List.replicate m 48 ++ S) = true := by rw [allD_append, allD_noughts, h]; rfl
  rw [rs_num (scan_point [48] _ 69 (sgz (z + m + S.length)) (ddz (z + m + S.length)) rfl hf (.inl (by simp)) (.inr rfl) (sgz_any _) (ddz_all _) (ddz_ne _)), pwr_z]
  have := num_shift (m + 1) 0 S z
  rw [List.length_append, List.length_replicate]
  have e1 : [48] ++ (List.replicate m 48 ++ S) = List.replicate (m + 1) 48 ++ (S ++ List.replicate 0 48) := by rw [List.replicate_succ]; simp
  rw [e1, ← this, show z + m + S.length - ((m + S.length : Nat) : Int) = z - ((0 : Nat) : Int) from by omega]
theorem same_d (S : List UInt8) (h : allD S = true) (h0 : S ≠ []) (z : Int) (m : Nat) : rs ([] ++ (46 :: ((S ++ List.replicate m 48) ++ (101 :: (sgz (z + S.length) ++ ddz (z + S.length)))))) = (⟨1, false, num S z⟩, 0, 0) := by
  have hf : allD (S ++ List.replicate m 48) = true := by rw [allD_append, allD_noughts, h]; rfl
  rw [rs_num (scan_point [] _ 101 (sgz (z + S.length)) (ddz (z + S.length)) rfl hf (.inr (by simp [h0])) (.inl rfl) (sgz_any _) (ddz_all _) (ddz_ne _)), pwr_z]
  have := num_shift 0 m S z
  rw [List.length_append, List.length_replicate]
  have e1 : [] ++ (S ++ List.replicate m 48) = List.replicate 0 48 ++ (S ++ List.replicate m 48) := rfl
  rw [e1, ← this, show z + S.length - ((S.length + m : Nat) : Int) = z - ((m : Nat) : Int) from by omega]
end M
theorem and_15 (x : Int) : ∃ m : Nat, Go.bits BinOp.and IntKind.i64 x 15 = (m : Int) ∧ m ≤ 15 := by
  refine ⟨((BitVec.ofInt 64 x).toNat &&& 15), ?_, ?_⟩
  · show IntKind.i64.wrap ((BitVec.ofInt 64 x &&& BitVec.ofInt 64 15).toNat : Int) = _
    rw [BitVec.toNat_and, show (BitVec.ofInt 64 15).toNat = 15 from rfl]
    have : (BitVec.ofInt 64 x).toNat &&& 15 ≤ 15 := Nat.and_le_right
    exact IntWalk.i64_in _ (by omega)
  · exact Nat.and_le_right
/-- Texts joined. -/
theorem cat_ex (a b : ByteArray) (la lb : List UInt8) (K : Nat) (ha : Hid (a.data.toList = la)) (hb : Hid (b.data.toList = lb)) (hk : a.size + b.size ≤ K) : ∃ c, a ++ b = c ∧ Hid (c.data.toList = la ++ lb) ∧ c.size ≤ K := by
  refine ⟨a ++ b, rfl, ?_, ?_⟩
  · show _ = _
    rw [ByteArray.data_append, Array.toList_append, ha.out, hb.out]
  · rw [ByteArray.size_append]; exact hk
theorem size_of {s : ByteArray} {l : List UInt8} (h : Hid (s.data.toList = l)) : s.size = l.length := by
  rw [← h.out]
  exact (Array.length_toList).symm
/-- One digit, as text. -/
theorem dig_ex (c : UInt8) : ∃ (r : Nat) (S : ByteArray), r < 10 ∧ (c.toNat : Int).tmod 10 = (r : Int) ∧ (c.toNat : Int) % 10 = (r : Int) ∧ Hid (S.data.toList = [M.dg c]) ∧ S.size ≤ 1 ∧
    ∀ w : World, (convert 67 9 (.slice (some ⟨w.heap.size, 0, none⟩) 1 1)).run Tryz.prog (w.alloc (.cells #[.int .u8 (48 + (r : Int))] 5)) = .ok (.string S) (w.alloc (.cells #[.int .u8 (48 + (r : Int))] 5)) := by
  have hr : ((M.dg c).toNat : Int) = 48 + ((c.toNat % 10 : Nat) : Int) := by rw [M.dg_val]; omega
  refine ⟨c.toNat % 10, ⟨([M.dg c] : List UInt8).toArray⟩, Nat.mod_lt _ (by omega), ?_, by omega, rfl, Nat.le_refl _, fun w => ?_⟩
  · rw [Int.tmod_eq_emod_of_nonneg (by omega)]; omega
  · exact conv_sb (sb_lit w #[.int .u8 (48 + ((c.toNat % 10 : Nat) : Int))] (0, 0) [M.dg c] 1 rfl (by rw [← hr]; simp)) (by omega) _ rfl
end Go.Proofs.YtjmnobgllnaljaaGreatDoor
