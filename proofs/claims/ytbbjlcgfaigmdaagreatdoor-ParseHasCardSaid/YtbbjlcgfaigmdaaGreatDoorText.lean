/-
  nat.Text: its contract.
-/
import Derived.Test.YtbbjlcgfaigmdaaGreatDoorNa
import Derived.Shelf.Strconv.AppendUint10
import Derived.Shelf.Strconv.AppendInt10
import Derived.Test.YtbbjlcgfaigmdaaGreatDoorPieces
namespace Go.Proofs.YtbbjlcgfaigmdaaGreatDoor
open Go.RowKit Go.Shelf Go.Sort

/-- The table of powers of ten that the library reads. -/
abbrev TabW (w : World) : Prop := Lib.TabIs Tryz.prog w "internal/strconv.uint64pow10" .u64 Lib.pow10Tab

/-- A call that makes a string; nothing that was there has turned. -/
def Str (s : ByteArray) (w : World) (e : Ending) (w' : World) : Prop := e = .returned (.string s) ∧ Up w w'

set_option maxHeartbeats 1000000 in
set_option maxRecDepth 100000 in
theorem formatUint_small (w : World) (u : Nat) (hu : u < 100) : Calls Tryz.prog 78 #[u64 u, .int .i64 10] w (Str ⟨(Lib.decDigits u).toArray⟩ w) := by
  go_enter Tryz.func78, Tryz.ntmps78
  go_wp2_with (go_at_call 121; refine (Tryz.internal_strconv_small u hu _).mono ?_; rintro e w' ⟨rfl, rfl⟩)
  go_ret
  exact ⟨rfl, Up.refl _⟩

set_option maxHeartbeats 4000000 in
set_option maxRecDepth 100000 in
theorem formatUint_big (w : World) (u : Nat) (hu : 100 ≤ u) (hu64 : u < 18446744073709551616) (htab : TabW w) :
    Calls Tryz.prog 78 #[u64 u, .int .i64 10] w (Str ⟨(Lib.decDigits u).toArray⟩ w) := by
  have hu1 : 1 ≤ u := by omega
  have hnd20 : Lib.nDigits u ≤ 20 := by have := Lib.numDigits_eq u hu1 hu64; split at this <;> omega
  have hal : Tryz.prog.arrayLen 168 = 24 := by kernel_rfl
  have hsl : ∀ W, (Instr.sliceAt 168 (.pointer (some ⟨w.heap.size, 0, none⟩)) none (some (.int .i64 (Lib.nDigits u : Int))) none).run Tryz.prog W = .ok (.slice (some ⟨w.heap.size, 0, none⟩) (Lib.nDigits u) 24) W := fun W => by
    rw [run_sliceAt_array_h W 168 ⟨w.heap.size, 0, none⟩ (by kernel_rfl) .i64 (Lib.nDigits u : Int) (by omega) (by rw [hal]; omega)]
    go_simp
  have hH0 := Lib.holds_zero0 w 168 (Lib.nDigits u) (by omega)
  have hfmt := Tryz.internal_strconv_formatBase10 w.heap.size 0 24 u (Array.replicate (Lib.nDigits u) 0) (w.alloc (.cells Lib.zeros24 168)) hH0 (by rw [Array.size_replicate]; exact Lib.lt_pow_nDigits u) hu64 (by rw [Array.size_replicate]; omega)
  rw [Array.size_replicate] at hfmt
  have HH0 := Lib.hid hH0
  have iu : (100 : Int) ≤ (u : Int) := by omega
  clear hH0 hal
  go_enter Tryz.func78, Tryz.ntmps78
  go_wp2_with (first
    | (go_at_call 122; refine (Tryz.internal_strconv_numDigits u hu1 hu64 _ (Lib.tabIs_alloc htab _)).mono ?_; rintro e w' ⟨rfl, rfl⟩))
  go_at_call 123
  refine hfmt.mono ?_
  rintro e w' ⟨rfl, k, v', dk, rfl, hF⟩
  have hcv : (convert 52 9 (.slice (some ⟨w.heap.size, 0, none⟩) (Lib.nDigits u) 24)).run Tryz.prog ((putRow (fun (b : UInt8) => Value.int .u8 (b.toNat : Int)) (w.alloc (.cells Lib.zeros24 168)) w.heap.size 0 dk).drewN k) = .ok (.string ⟨(Lib.decDigits u).toArray⟩) ((putRow (fun (b : UInt8) => Value.int .u8 (b.toNat : Int)) (w.alloc (.cells Lib.zeros24 168)) w.heap.size 0 dk).drewN k) := by
    have h := run_convert_bytes_back (P := Tryz.prog) ((putRow (fun (b : UInt8) => Value.int .u8 (b.toNat : Int)) (w.alloc (.cells Lib.zeros24 168)) w.heap.size 0 dk).drewN k) 52 9 5 ⟨w.heap.size, 0, none⟩ 24 (Lib.decDigits u) Tryz.underlying52 Tryz.underlying5 Tryz.underlying9 (fun j hj => by
      rw [Lib.row_is_numeral hF j hj, Lib.add_plain, World.cell?_drewN]
      exact cell?_putRow (fun (b : UInt8) => Value.int .u8 (b.toNat : Int)) _ w.heap.size 0 _ dk HH0.out (by rw [hF.size, Array.size_replicate]) j (by rw [hF.size]; rw [Lib.decDigits_length] at hj; exact hj))
    rw [Lib.decDigits_length] at h
    exact h
  obtain ⟨os, eo⟩ := Lib.fin_at w (.cells Lib.zeros24 168) dk k 0
  have hup : Up w ((putRow (fun (b : UInt8) => Value.int .u8 (b.toNat : Int)) (w.alloc (.cells Lib.zeros24 168)) w.heap.size 0 dk).drewN k) := by rw [eo]; exact Lib.below_grow w.heap.size w (Nat.le_refl _) k os
  generalize (putRow (fun (b : UInt8) => Value.int .u8 (b.toNat : Int)) (w.alloc (.cells Lib.zeros24 168)) w.heap.size 0 dk).drewN k = W2 at hcv hup ⊢
  clear eo HH0 hfmt
  go_wp2
  go_ret
  exact ⟨rfl, hup⟩

set_option maxHeartbeats 1000000 in
theorem formatUint_any (w : World) (u : Nat) (hu64 : u < 18446744073709551616) (htab : TabW w) :
    Calls Tryz.prog 47 #[u64 u, .int .i64 10] w (Str ⟨(Lib.decDigits u).toArray⟩ w) := by
  have cw : Calls Tryz.prog 78 #[u64 u, .int .i64 10] w (Str ⟨(Lib.decDigits u).toArray⟩ w) := by
    rcases Nat.lt_or_ge u 100 with h | h
    · exact formatUint_small w u h
    · exact formatUint_big w u h hu64 htab
  have CW := Lib.hid cw
  clear cw hu64
  go_enter Tryz.func47, Tryz.ntmps47
  go_wp2_with (go_at_call 78; refine CW.out.mono ?_; rintro e w1 ⟨rfl, hu1⟩)
  go_ret
  exact ⟨rfl, hu1⟩

/-- strconv.AppendUint at base 10, onto bytes of the call's own. -/
def ApU (B u n : Nat) (xs : List Value) (w : World) (e : Ending) (w' : World) : Prop := ∃ v', e = .returned v' ∧ w'.ownsRow B 5 1 v' (n + (Lib.decDigits u).length) (xs ++ Lib.byteCells (Lib.decDigits u)) ∧ Below B w w' ∧ Lib.OthersKept 5 none w w'

set_option maxHeartbeats 1000000 in
theorem appendUint_any (B n u : Nat) (hu64 : u < 18446744073709551616) (sv : Value) (xs : List Value) (w : World) (hown : w.ownsRow B 5 1 sv n xs) (hBw : B ≤ w.heap.size) (hlim : n + 20 ≤ 140737488355328) (htab : TabW w) :
    Calls Tryz.prog 46 #[sv, u64 u, .int .i64 10] w (ApU B u n xs w) := by
  have CW := Lib.hid (Tryz.internal_strconv_AppendUint_10 B n u hu64 sv xs w hown hBw hlim htab)
  clear hu64
  go_enter Tryz.func46, Tryz.ntmps46
  go_wp2_with (go_at_call 77; refine CW.out.mono ?_; rintro e w1 ⟨v1, rfl, h1, h2, h3⟩)
  go_ret
  exact ⟨v1, rfl, h1, h2, h3⟩

theorem repeat_any (s : ByteArray) (c : Nat) (w : World) (hc : c ≤ 9223372036854775807) (hlen : s.size * c ≤ 140737488355328) :
    Calls Tryz.prog 48 #[.string s, .int .i64 c] w (Str ⟨(Lib.repeatL s.data.toList c).toArray⟩ w) :=
  (Tryz.strings_Repeat s c w hc hlen).mono fun _ _ ⟨h, k⟩ => ⟨h, k⟩
end Go.Proofs.YtbbjlcgfaigmdaaGreatDoor
namespace Go.Proofs.YtbbjlcgfaigmdaaGreatDoor
open Go.RowKit Go.Shelf

namespace M
/-- k digits of d, with noughts ahead. -/
def pad : Nat → Nat → List UInt8
  | 0, _ => []
  | k + 1, d => pad k (d / 10) ++ [UInt8.ofNat (48 + d % 10)]
theorem pad_zero : ∀ k, pad k 0 = List.replicate k 48
  | 0 => rfl
  | k + 1 => by
    rw [pad, Nat.zero_div, pad_zero k, List.replicate_succ']
    rfl
theorem decDigits_cat (r : Nat) (hr : 0 < r) : ∀ k d, d < 10 ^ k → Lib.decDigits (d + 10 ^ k * r) = Lib.decDigits r ++ pad k d
  | 0, d, h => by
    have : d = 0 := by simpa using h
    subst this
    simp [pad]
  | k + 1, d, h => by
    have hp : 10 ^ (k + 1) * r = 10 * (10 ^ k * r) := by rw [Nat.pow_succ, Nat.mul_comm (10 ^ k), Nat.mul_assoc]
    have h1 : 0 < 10 ^ k * r := Nat.mul_pos (Nat.pow_pos (by omega)) hr
    rw [hp]
    rw [Lib.decDigits, dif_neg (by omega), pad, ← List.append_assoc]
    have e1 : (d + 10 * (10 ^ k * r)) / 10 = d / 10 + 10 ^ k * r := by omega
    have e2 : (d + 10 * (10 ^ k * r)) % 10 = d % 10 := by omega
    rw [e1, e2, decDigits_cat r hr k (d / 10) (by rw [Nat.pow_succ] at h; omega)]
theorem pad_eq : ∀ k d, 0 < k → d < 10 ^ k → (Lib.decDigits d).length ≤ k ∧ pad k d = List.replicate (k - (Lib.decDigits d).length) 48 ++ Lib.decDigits d
  | 0, _, h, _ => by omega
  | k + 1, d, _, h => by
    by_cases hd : d < 10
    · rw [Lib.decDigits_one hd, pad, Nat.div_eq_of_lt hd, Nat.mod_eq_of_lt hd, pad_zero]
      simp
    · rw [Lib.decDigits, dif_neg hd, pad]
      have hk : 0 < k := by
        rcases Nat.eq_zero_or_pos k with h0 | h0
        · subst h0; simp at h; omega
        · exact h0
      obtain ⟨i1, i2⟩ := pad_eq k (d / 10) hk (by rw [Nat.pow_succ] at h; omega)
      rw [i2]
      simp only [List.length_append, List.length_singleton]
      refine ⟨by omega, ?_⟩
      rw [← List.append_assoc, show k + 1 - ((Lib.decDigits (d / 10)).length + 1) = k - (Lib.decDigits (d / 10)).length from by omega]
theorem pv_drop {ps : List Nat} {i : Nat} (h : i < ps.length) : pv (ps.drop i) = ps.getD i 0 + 10000000000000000000 * pv (ps.drop (i + 1)) := by
  rw [List.drop_eq_getElem_cons h, pv]
  simp [List.getD_eq_getElem?_getD, List.getElem?_eq_getElem h]
theorem pv_pos {ps : List Nat} (h : ps ≠ []) (hl : ps.getLast? ≠ some 0) : 0 < pv ps := by
  obtain ⟨b, x, rfl⟩ : ∃ b x, ps = b ++ [x] := ⟨ps.dropLast, ps.getLast h, (List.dropLast_concat_getLast h).symm⟩
  have hx : 0 < x := by
    rw [List.getLast?_concat] at hl
    exact Nat.pos_of_ne_zero (fun e => hl (by rw [e]))
  rw [pv_append]
  simp only [pv, Nat.mul_zero, Nat.add_zero]
  exact Nat.lt_of_lt_of_le (Nat.mul_pos (Nat.pow_pos (by omega)) hx) (Nat.le_add_left _ _)
theorem pv_drop_pos {ps : List Nat} {j : Nat} (hj : j < ps.length) (hl : ps.getLast? ≠ some 0) : 0 < pv (ps.drop j) := by
  refine pv_pos (fun e => ?_) ?_
  · have := congrArg List.length e
    simp at this
    omega
  · rw [List.getLast?_drop, if_neg (by omega)]; exact hl
/-- The text of one piece more. -/
theorem text_step {ps : List Nat} {i p : Nat} (hi : i + 1 < ps.length) (hl : ps.getLast? ≠ some 0) (hlt : ∀ q ∈ ps, q < 10000000000000000000) (hp : ps.getD i 0 = p) :
    (Lib.decDigits p).length ≤ 19 ∧ Lib.decDigits (pv (ps.drop i)) = Lib.decDigits (pv (ps.drop (i + 1))) ++ (List.replicate (19 - (Lib.decDigits p).length) 48 ++ Lib.decDigits p) := by
  have hpl : p < 10 ^ 19 := by
    rw [← hp, List.getD_eq_getElem?_getD, List.getElem?_eq_getElem (show i < ps.length by omega)]
    exact hlt _ (List.getElem_mem _)
  obtain ⟨h1, h2⟩ := pad_eq 19 p (by omega) hpl
  refine ⟨h1, ?_⟩
  rw [pv_drop (by omega), hp, ← h2]
  exact decDigits_cat _ (pv_drop_pos hi hl) 19 p hpl
end M

/-- What a call of a text makes. -/
theorem TabW.up {w w' : World} (h : TabW w) (hu : Up w w') : TabW w' := Lib.tabBelow_of_tabIs h w' hu

theorem info_u8 : (Tryz.prog.info? 5).map (fun i => (i.zero, i.size, i.bytes)) = some (some (.int .u8 0), 1, 1) := by kernel_rfl

/-- Bytes that the call owns. -/
abbrev By (w : World) (base : Nat) (v : Value) (bs : List UInt8) : Prop := w.ownsRow base 5 1 v bs.length (Lib.byteCells bs)

theorem wpList_append_str {P : Program} (w : World) {ops : Array Oper} {rest : List Oper} {o : Oper} {a : Act} {Q : Exit → Act → World → Prop} (hgd : o.guard = none) (sl x : Operand) (t u : TypeId)
    (ho : o.op = .call { callee := .builtin .append, args := #[sl, x], argTypes := #[t, u] })
    (hP : (P.info? 5).map (fun i => (i.zero, i.size, i.bytes)) = some (some (.int .u8 0), 1, 1)) (base : Nat) (ht : P.underlying t = some (.slice 5)) (hu : P.underlying u = some .string)
    (v : Value) (bs : List UInt8) (hs : a.eval sl = v) (hown : By w base v bs) (s : ByteArray) (hx : a.eval x = .string s) (cs : List UInt8) (hcs : s.data.toList = cs)
    (hbytes : bs.length + cs.length ≤ 1000000000000) (hbase : base ≤ w.heap.size)
    (h : ∀ v' w', By w' base v' (bs ++ cs) → w.grownBy w' v.ownBlock → wpList P ops Q rest (a.put o.dst v') w') : wpList P ops Q (o :: rest) a w := by
  obtain ⟨i, hi, hz0, hz1, hz2⟩ := info_parts hP
  have hsz : s.size = cs.length := by rw [← hcs]; exact (Array.length_toList).symm
  refine Lib.wpList_append_own_string w hgd sl x t u ho base 5 i ht hu hi hz0 hz1 hz2 v bs.length _ hs hown s hx (by rw [hsz]; simp only [maxLen]; omega) (by rw [hsz]; omega) hbase fun v' w' h1 h2 _ => h v' w' ?_ h2
  rw [Lib.strCells_eq, hcs, ← Lib.byteCells_append, hsz] at h1
  rw [By, List.length_append]
  exact h1

theorem conv_bytes {w : World} {base : Nat} {v : Value} {bs : List UInt8} (h : By w base v bs) (h0 : 0 < bs.length) :
    (convert 52 9 v).run Tryz.prog w = .ok (.string ⟨bs.toArray⟩) w := by
  obtain ⟨g, cap, rfl⟩ : ∃ g cap, v = .slice (some ⟨g, 0, none⟩) bs.length cap := by
    rcases h.2 with ⟨_, h1⟩ | ⟨g, cap, _, h1, _⟩
    · omega
    · exact ⟨g, cap, h1⟩
  have hc := World.ownsRow.cells h (g := g) rfl
  exact run_convert_bytes_back w 52 9 5 ⟨g, 0, none⟩ cap bs Tryz.underlying52 Tryz.underlying5 Tryz.underlying9 (fun j hj => hc j _ (by simp [Lib.byteCells, hj]))
theorem M.decDigits_pos (a : Nat) : 0 < (Lib.decDigits a).length := by rw [Lib.decDigits_length]; exact Lib.nDigits_pos a
theorem By.up {w w' : World} {base : Nat} {v : Value} {bs : List UInt8} (h : By w base v bs) (hu : Up w w') : By w' base v bs :=
  World.ownsRow.kept (row := none) h ⟨Below.os hu, Below.tape hu, Below.output hu, Below.size hu, fun j hj _ => Below.block hu j hj⟩ (by cases h : v.ownBlock <;> simp)
theorem rep_zeros (k : Nat) : Lib.repeatL [48] k = List.replicate k 48 := by
  have := Lib.repeatL_replicate 48 1 k
  simpa using this

set_option maxHeartbeats 1600000 in
set_option maxRecDepth 100000 in
theorem text_any (w : World) (lo s : Nat) (v : Value) (a : Nat) (h : Nw w lo s v a) (hlen : ∀ ps r, M.PInv a ps r → ps.length ≤ 1000000000) (htab : TabW w) :
    Calls Tryz.prog 20 #[v] w (Str ⟨(Lib.decDigits a).toArray⟩ w) := by
  have CW := Lib.hid (piecesOf_any w lo s v a h hlen)
  have HT := Lib.hid htab
  have HL := Lib.hid hlen
  clear h hlen htab
  go_enter Tryz.func20, Tryz.ntmps20
  go_wp2_with fail
  refine CW.out.mono ?_
  rintro _ W ⟨v1, ps, rfl, hown, hP, hu⟩
  have hpl := HL.out ps 0 hP
  have hpv : M.pv ps = a := by have := hP.eq; rw [Nat.mul_zero, Nat.add_zero] at this; exact this.symm
  obtain ⟨A, c, rfl, hd⟩ := Ow.wd hown hP.wds (by omega)
  have HLT := Lib.hid hP.lt
  have HLAST := Lib.hid (hP.last rfl)
  have HPV := Lib.hid hpv
  clear CW HL hown hP hpv
  obtain ⟨n, hn⟩ : ∃ n, ps.length = n := ⟨_, rfl⟩
  rw [hn] at hd hpl ⊢
  have HN := Lib.hid hn
  clear hn
  rcases Nat.eq_zero_or_pos n with h0 | h0
  · subst h0
    go_wp2_with fail
    go_ret
    refine ⟨?_, hu⟩
    have : ps = [] := List.eq_nil_of_length_eq_zero HN.out
    have ha : a = 0 := by rw [← HPV.out, this]; rfl
    rw [ha, Lib.decDigits_one (by omega)]
    rfl
  · obtain ⟨m, rfl⟩ : ∃ m, n = m + 1 := ⟨n - 1, by omega⟩
    obtain ⟨bb, oo, rfl, _, hc⟩ := hd.at_ h0
    obtain ⟨p, hp⟩ : ∃ p, ps.getD m 0 = p := ⟨_, rfl⟩
    have hc1 := (hc m (by omega)).1
    rw [hp] at hc1
    have hpb : p < 18446744073709551616 := by rw [← hp]; exact hd.wds.getD m
    have AW := Lib.hid (appendUint_any W.heap.size 0 p hpb (.slice none 0 0) [] W (World.ownsRow_nil _ _ _ _) (Nat.le_refl _) (by omega) (HT.out.up hu))
    have HB : Hid (Lib.decDigits p = Lib.decDigits (M.pv (ps.drop m))) := by
      show _ = _
      have hm : m < ps.length := by rw [HN.out]; omega
      rw [M.pv_drop hm, hp, List.drop_of_length_le (by rw [HN.out]; exact Nat.le_refl _)]
      rfl
    have HB19 : Hid ((Lib.decDigits p).length ≤ 19) := by
      refine (M.pad_eq 19 p (by omega) ?_).1
      rw [← hp, List.getD_eq_getElem?_getD, List.getElem?_eq_getElem (show m < ps.length by rw [HN.out]; omega)]
      exact HLT.out _ (List.getElem_mem _)
    have hj : ((m + 1 : Nat) : Int) - 1 = (m : Int) := by omega
    clear hp hpb hc
    go_wp2_with fail
    refine AW.out.mono ?_
    rintro _ w2 ⟨v2, rfl, hb2, hu2, _⟩
    go_wp2_with fail
    have hby2 : By w2 W.heap.size v2 (Lib.decDigits (M.pv (ps.drop m))) := by
      rw [← HB.out]
      simpa [By] using hb2
    have hl2 : Hid ((Lib.decDigits (M.pv (ps.drop m))).length ≤ 19) := by show _ ≤ 19; rw [← HB.out]; exact HB19.out
    clear hb2 HB AW hc1 hj HB19
    have hup2 : Up W w2 := hu2
    clear hu2
    go_loopg [5, 6] (m + 1) (fun g t i wr => ∃ (k : Int) (bs : List UInt8), -1 ≤ k ∧ k < m ∧ (k + 1).toNat ≤ g ∧ i = .int .i64 k ∧ Up W wr ∧ By wr W.heap.size t bs ∧ Hid (bs = Lib.decDigits (M.pv (ps.drop (k + 1).toNat))) ∧ Hid (bs.length ≤ 19 * (m + 2 - (k + 1).toNat)))
    case atStart => exact ⟨(m : Int) - 1, _, by omega, by omega, by omega, rfl, hup2, hby2, by rw [show ((m : Int) - 1 + 1).toNat = m from by omega]; rfl, by rw [show ((m : Int) - 1 + 1).toNat = m from by omega]; exact Nat.le_trans hl2.out (by omega)⟩
    case round =>
      obtain ⟨k, bs, hk1, hk2, hkg, rfl, hur, hby, HBS, HLN⟩ := hrel
      clear hby2 hup2
      by_cases hk0 : k = -1
      · subst hk0
        have hbs := HBS.out
        simp only [show ((-1 : Int) + 1).toNat = 0 from rfl, List.drop_zero] at hbs
        rw [HPV.out] at hbs
        have hcv := conv_bytes hby (by rw [hbs]; exact M.decDigits_pos a)
        have HBB := Lib.hid hbs
        clear hbs HBS HLN hby
        go_wp2_with fail
        go_ret
        exact ⟨by rw [← HBB.out]; rfl, hu.trans hur⟩
      · obtain ⟨i, rfl⟩ := Int.eq_ofNat_of_zero_le (show 0 ≤ k by omega)
        obtain ⟨q, hq⟩ : ∃ q, ps.getD i 0 = q := ⟨_, rfl⟩
        have hcq := ((hd.up hur).at_ (by omega))
        obtain ⟨b2, o2, e2, _, hcc⟩ := hcq
        simp only [Option.some.injEq, Addr.mk.injEq, and_true] at e2
        obtain ⟨rfl, rfl⟩ := e2
        have hc1 := (hcc i (by omega)).1
        rw [hq] at hc1
        have hqb : q < 18446744073709551616 := by rw [← hq]; exact hd.wds.getD i
        have FW := Lib.hid (formatUint_any wr q hqb (HT.out.up (hu.trans hur)))
        obtain ⟨t1, t2⟩ := M.text_step (i := i) (by rw [HN.out]; omega) HLAST.out HLT.out hq
        have T2 := Lib.hid t2
        obtain ⟨l, hl⟩ : ∃ l, (Lib.decDigits q).length = l := ⟨_, rfl⟩
        have hsz : (⟨(Lib.decDigits q).toArray⟩ : ByteArray).size = l := hl
        rw [hl] at t1
        have HLL := Lib.hid hl
        obtain ⟨S, hS⟩ : ∃ S, (⟨(Lib.decDigits q).toArray⟩ : ByteArray) = S := ⟨_, rfl⟩
        rw [hS] at FW hsz
        have HS := Lib.hid hS
        clear t2 hq hqb hcc hl hS
        go_wp2_with fail
        refine FW.out.mono ?_
        rintro _ w3 ⟨rfl, hu3⟩
        have hby3 : By w3 W.heap.size u5 bs := hby.up hu3
        have hs19 : ((19 : Int) - (l : Int)) = ((19 - l : Nat) : Int) := by omega
        clear FW hby hc1
        go_wp2_with fail
        have hbl : bs.length ≤ 19 * 1000000001 := Nat.le_trans HLN.out (Nat.mul_le_mul_left _ (by omega))
        have rw0 := repeat_any ⟨#[48]⟩ (19 - l) w3 (by omega) (by simp [ByteArray.size]; omega)
        obtain ⟨S2, hS2⟩ : ∃ S2, (⟨(Lib.repeatL (⟨#[48]⟩ : ByteArray).data.toList (19 - l)).toArray⟩ : ByteArray) = S2 := ⟨_, rfl⟩
        rw [hS2] at rw0
        have hrep : S2.data.toList = List.replicate (19 - l) 48 := by
          rw [← hS2]
          exact rep_zeros _
        clear hS2
        refine rw0.mono ?_
        rintro _ w4 ⟨rfl, hu4⟩
        have HREP := Lib.hid hrep
        clear hrep rw0
        have hby4 := hby3.up hu4
        have hSl : Hid (S.data.toList = Lib.decDigits q) := by show _ = _; rw [← HS.out]
        have hW4 : W.heap.size ≤ w4.heap.size := Nat.le_trans hur.size (Nat.le_trans hu3.size hu4.size)
        have hurw : Up W w4 := hur.trans (hu3.trans hu4)
        have hlen1 : (List.replicate (19 - l) (48 : UInt8)).length ≤ 19 := by rw [List.length_replicate]; omega
        have hlen2 : (Lib.decDigits q).length ≤ 19 := by rw [HLL.out]; omega
        clear hby3 hu3 hu4
        go_wp2_with (first
          | (at_builtin; refine wpList_append_str _ rfl (.tmp 31) (.tmp 35) _ _ rfl info_u8 W.heap.size Tryz.underlying52 Tryz.underlying9 u5 bs rfl hby4 S2 rfl _ HREP.out (by omega) hW4 ?_; intro v5 w5 hby5 hg5)
          | (at_builtin; refine wpList_append_str _ rfl (.tmp 37) (.tmp 38) _ _ rfl info_u8 W.heap.size Tryz.underlying52 Tryz.underlying9 v5 _ rfl hby5 S rfl _ hSl.out (by rw [List.length_append]; omega) (Nat.le_trans hW4 hg5.size) ?_; intro v6 w6 hby6 hg6))
        have hur5 : Up W w5 := hurw.grown hg5 (fun b hb => (World.ownsRow.lt hby4 b hb).1)
        have hur6 : Up W w6 := hur5.grown hg6 (fun b hb => (World.ownsRow.lt hby5 b hb).1)
        go_roundg i
        case measure => omega
        case rel =>
          refine ⟨(i : Int) - 1, _, by omega, by omega, by omega, rfl, hur6, hby6, ?_, ?_⟩
          · show _ = _
            have hb := HBS.out
            rw [show ((i : Int) + 1).toNat = i + 1 from by omega] at hb
            rw [show ((i : Int) - 1 + 1).toNat = i from by omega, T2.out, hb, HLL.out, List.append_assoc]
          · show _ ≤ _
            have hb := HLN.out
            rw [show ((i : Int) + 1).toNat = i + 1 from by omega] at hb
            rw [show ((i : Int) - 1 + 1).toNat = i from by omega, List.length_append, List.length_append, List.length_replicate, HLL.out]
            omega
end Go.Proofs.YtbbjlcgfaigmdaaGreatDoor
