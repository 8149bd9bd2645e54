/-
  Package scan: the power, and the number of parts: their contracts.
-/
import Derived.Test.YtjmnobgllnaljaaGreatDoorSb2
import Derived.Test.YtjmnobgllnaljaaGreatDoorNb
namespace Go.Proofs.YtjmnobgllnaljaaGreatDoor
open Go.RowKit Go.Shelf

/-- Parts, as a value. -/
abbrev ptv (k : Int) (neg : Bool) (A1 : Option Addr) (n1 c1 : Nat) (A2 : Option Addr) (n2 c2 : Nat) (dn : Bool) (A3 : Option Addr) (n3 c3 : Nat) : Value :=
  .agg #[.int .i64 k, .bool neg, .slice A1 n1 c1, .slice A2 n2 c2, .bool dn, .slice A3 n3 c3]
theorem M.vsa_take {l : List UInt8} {k : Nat} (hk : k < l.length) (hd : M.allD l = true) : M.vsa 0 (l.take (k + 1)) = M.vsa 0 (l.take k) * 10 + ((l.getD k 0).toNat - 48) ∧ 48 ≤ (l.getD k 0).toNat ∧ (l.getD k 0).toNat ≤ 57 := by
  have e : l.take (k + 1) = l.take k ++ [l.getD k 0] := by
    rw [List.take_add_one]
    congr 1
    rw [List.getD_eq_getElem?_getD, List.getElem?_eq_getElem hk]
    rfl
  refine ⟨by rw [e, M.vsa_snoc], ?_⟩
  rw [← M.isD_iff]
  unfold M.allD at hd
  rw [List.all_eq_true] at hd
  apply hd
  rw [List.getD_eq_getElem?_getD, List.getElem?_eq_getElem hk]
  exact List.getElem_mem hk
set_option maxHeartbeats 4000000 in
set_option maxRecDepth 100000 in
theorem powerOf_any (w : World) (k0 : Int) (neg : Bool) (A1 A2 A3 : Option Addr) (n1 c1 n2 c2 n3 c3 : Nat) (dn : Bool) (pw : List UInt8) (hS : Sb w A3 n3 c3 pw) (hd : M.allD pw = true) (h1 : n1 ≤ 1000000000) (h2 : n2 ≤ 1000000000) (h3 : n3 ≤ 1000000000)
    (z : Int) (hz : Hid ((if dn = true then -((min (M.vsa 0 pw) (2000 + n1 + n2) : Nat) : Int) else ((min (M.vsa 0 pw) (2000 + n1 + n2) : Nat) : Int)) = z)) :
    Calls Tryz.prog 102 #[ptv k0 neg A1 n1 c1 A2 n2 c2 dn A3 n3 c3] w (fun e w' => e = .returned (.int .i64 z) ∧ Up w w') := by
  obtain ⟨F, hF⟩ : ∃ F, 2000 + n1 + n2 = F := ⟨_, rfl⟩
  rw [hF] at hz
  have hFb : F ≤ 2000002000 := by omega
  have q1 : (2000 : Int) + (n1 : Int) + (n2 : Int) = (F : Int) := by omega
  have hl := hS.num
  have HS := Lib.hid hS
  have HD := Lib.hid hd
  clear hS hd hF
  go_enter Tryz.func102, Tryz.ntmps102
  go_wp2_with fail
  go_loopw [4, 18] (fun s i wr => ∃ k S : Nat, k ≤ n3 ∧ i = .int .i64 (k : Int) ∧ s = .int .i64 (S : Int) ∧ Hid (S = min (M.vsa 0 (pw.take k)) F) ∧ wr = w.alloc (.cells #[.int .i64 k0, .bool neg, .slice A1 n1 c1, .slice A2 n2 c2, .bool dn, .slice A3 n3 c3] 106)) (fun _ i _ => n3 - (intOf i).toNat)
  case atStart => exact ⟨0, 0, Nat.zero_le _, rfl, rfl, by show 0 = _; simp [M.vsa], rfl⟩
  case round =>
    obtain ⟨k, S, hk, rfl, rfl, HS1, rfl⟩ := hrel
    have hSF : S ≤ F := by rw [HS1.out]; exact Nat.min_le_right _ _
    by_cases hlt : k < n3
    · obtain ⟨ad, rfl⟩ := HS.out.ad (by omega)
      obtain ⟨x, hx⟩ : ∃ x, (pw.getD k 0).toNat = x := ⟨_, rfl⟩
      have cx := HS.out.at_ ad rfl k hlt
      have hb := World.block_lt_of_cell? w _ cx
      obtain ⟨e1, e2, e3⟩ := M.vsa_take (l := pw) (k := k) (by omega) HD.out
      rw [hx] at e1 e2 e3
      have cx2 : (w.alloc (.cells #[.int .i64 k0, .bool neg, .slice A1 n1 c1, .slice A2 n2 c2, .bool dn, .slice (some ad) n3 c3] 106)).cell? (ad.add k) = some (.int .u8 (x : Int)) := by
        rw [Below.cell ((Up.refl w).alloc _) hb, cx, ← hx]
      obtain ⟨S2, hS2⟩ : ∃ S2, min (10 * S + (x - 48)) F = S2 := ⟨_, rfl⟩
      have qm : min (10 * (S : Int) + ((x : Int) - 48)) (F : Int) = (S2 : Int) := by omega
      have HN : Hid (S2 = min (M.vsa 0 (pw.take (k + 1))) F) := by
        show _ = _
        rw [e1, ← hS2, HS1.out]
        exact M.clamp_step F _ _
      have d : decide ((k : Int) < (n3 : Int)) = true := decide_eq_true (by omega)
      clear HS1 hx cx hS2 e1
      go_wp2_with fail
      go_roundw
      case rel => exact ⟨k + 1, S2, hlt, by go_num, rfl, HN, trivial⟩
      case measure => simp [intOf]; omega
    · obtain rfl : k = n3 := by omega
      have d : decide ((k : Int) < (k : Int)) = false := decide_eq_false (by omega)
      have HE : Hid ((if dn = true then -(S : Int) else (S : Int)) = z) := by
        show _ = _
        rw [← hz.out, HS1.out, List.take_of_length_le (by omega)]
      clear HS1 hz
      cases dn with
      | false =>
        go_wp2_with fail
        go_ret
        exact ⟨congrArg (fun t => Ending.returned (.int .i64 t)) HE.out, (Up.refl w).alloc _⟩
      | true =>
        go_wp2_with fail
        go_ret
        exact ⟨congrArg (fun t => Ending.returned (.int .i64 t)) HE.out, (Up.refl w).alloc _⟩

theorem conv_sb {w : World} {A : Option Addr} {n c : Nat} {l : List UInt8} (h : Sb w A n c l) (h0 : 0 < n) (S : ByteArray) (hS : Hid ((⟨l.toArray⟩ : ByteArray) = S)) :
    (convert 67 9 (.slice A n c)).run Tryz.prog w = .ok (.string S) w := by
  obtain ⟨ad, rfl⟩ := h.ad h0
  have hn := h.num
  rw [← hS.out, ← hn]
  exact run_convert_bytes_back w 67 9 5 ad c l Tryz.underlying67 Tryz.underlying5 Tryz.underlying9 (fun j hj => by
    rw [h.at_ ad rfl j (by omega)]
    simp [List.getD_eq_getElem?_getD, List.getElem?_eq_getElem hj])
theorem cell_new1 (w : World) (v : Value) (t : TypeId) : (w.alloc (.cells #[v] t)).cell? ((⟨w.heap.size, 0, none⟩ : Addr).add 0) = some v := by
  show (match (w.heap.push (.cells #[v] t))[w.heap.size]? with | some (.cells c _ _) => c[0 + 0]? | _ => none) = _
  simp
/-- '1' is put behind the first 1990 digits, where there are more. -/
theorem room1 (w : World) (g o n c lo : Nat) (l : List UInt8) (h : Sb w (some ⟨g, o, none⟩) n c l) (ho : Own w lo (some ⟨g, o, none⟩) c) (hn : 1990 < n) :
    (∀ ty, (Builtin.append_ #[67, 67] ty #[.slice (some ⟨g, o, none⟩) 1990 c, .slice (some ⟨w.heap.size, 0, none⟩) 1 1]).run Tryz.prog (w.alloc (.cells #[.int .u8 49] 5)) =
      .ok (.slice (some ⟨g, o, none⟩) 1991 c) ((w.alloc (.cells #[.int .u8 49] 5)).setCell ⟨g, o + 1990, none⟩ (.int .u8 49))) ∧
    Sb ((w.alloc (.cells #[.int .u8 49] 5)).setCell ⟨g, o + 1990, none⟩ (.int .u8 49)) (some ⟨g, o, none⟩) 1991 c (l.take 1990 ++ [49]) := by
  obtain ⟨i, hi, hz0, hz1, hz2⟩ := info_parts info_u8
  have hc := h.len
  have hl := h.num
  have hu : Up w (w.alloc (.cells #[.int .u8 49] 5)) := (Up.refl w).alloc _
  have ho2 := ho.up hu
  have hS2 := h.up hu
  have hcell : ∀ j, j < c → ((w.alloc (.cells #[.int .u8 49] 5)).cell? ⟨g, o + j, none⟩).isSome = true ∧ (w.alloc (.cells #[.int .u8 49] 5)).frozen? ⟨g, o + j, none⟩ = false := by
    obtain ⟨g', o', e, _, k⟩ := ho2 _ rfl
    cases e
    exact k
  refine ⟨fun ty => ?_, ?_, ?_, (fun e => by cases e), fun ad e j hj => ?_⟩
  · have hr := run_append_room_cells (P := Tryz.prog) (w.alloc (.cells #[.int .u8 49] 5)) 67 ty 5 i Tryz.underlying67 hi g o 1990 c ⟨w.heap.size, 0, none⟩ 1 1 [.int .u8 49] (by rw [hz1]; rfl)
      (fun j u hu => by
        have hj : j = 0 := by have := (List.getElem?_eq_some_iff.1 hu).1; simpa using this
        subst hj
        have hu2 : u = .int .u8 49 := by simpa using hu.symm
        rw [hu2]
        exact cell_new1 w _ _) (by simp [Value.oneCell']) (by omega)
      (fun j hj => by
        have hj : j = 0 := by simpa using hj
        subst hj
        rw [hz1]
        exact (hcell 1990 (by omega)).1)
      (fun j hj => by
        have hj : j = 0 := by simpa using hj
        subst hj
        rw [hz1]
        exact (hcell 1990 (by omega)).2)
    rw [hz1] at hr
    exact hr
  · rw [List.length_append, List.length_take]; simp; omega
  · omega
  · cases e
    rw [Addr.add_lit]
    rcases Nat.lt_or_ge j 1990 with hj2 | hj2
    · have h1 := hS2.at_ _ rfl j (by omega)
      rw [Addr.add_lit] at h1
      have e : (l.take 1990 ++ [49]).getD j 0 = l.getD j 0 := by
        rw [List.getD_eq_getElem?_getD, List.getD_eq_getElem?_getD, List.getElem?_append_left (by rw [List.length_take]; omega), List.getElem?_take_of_lt hj2]
      rw [World.cell?_setCell_other _ _ _ _ (fun e => by have := congrArg Addr.off e; simp at this; omega), h1, e]
    · obtain rfl : j = 1990 := by omega
      obtain ⟨v, hv⟩ := Option.isSome_iff_exists.1 (hcell 1990 (by omega)).1
      have hlt : (l.take 1990).length = 1990 := by rw [List.length_take]; omega
      have e : (l.take 1990 ++ [49]).getD 1990 0 = 49 := by
        rw [List.getD_eq_getElem?_getD, List.getElem?_append_right (by omega), hlt]
        rfl
      rw [e]
      simp [go_sem, hv]
/-- An item, as a value. -/
abbrev itv (kind : Int) (neg : Bool) (v : Value) (k big : Int) (cut : Bool) : Value := .agg #[.int .i64 kind, .bool neg, v, .int .i64 k, .int .i64 big, .bool cut]
/-- A number's item is told. -/
def Nmr (neg : Bool) (r : M.Nm) (w : World) (e : Ending) (w' : World) : Prop := ∃ v, e = .returned (itv 1 neg v r.k r.big r.cut) ∧ Nt w' w.heap.size 2001 v r.d ∧ Up w w'
theorem get6 {x0 x1 x2 x3 x4 x5 : Value} : (#[x0, x1, x2, x3, x4, x5] : Array Value)[0]? = some x0 ∧ (#[x0, x1, x2, x3, x4, x5] : Array Value)[1]? = some x1 ∧ (#[x0, x1, x2, x3, x4, x5] : Array Value)[2]? = some x2 ∧ (#[x0, x1, x2, x3, x4, x5] : Array Value)[3]? = some x3 ∧ (#[x0, x1, x2, x3, x4, x5] : Array Value)[4]? = some x4 ∧ (#[x0, x1, x2, x3, x4, x5] : Array Value)[5]? = some x5 := ⟨rfl, rfl, rfl, rfl, rfl, rfl⟩
theorem Ob.six {w : World} {b : Nat} {ty : TypeId} {x0 x1 x2 x3 x4 x5 : Value} (h : Ob w b ty #[x0, x1, x2, x3, x4, x5]) :
    w.cell? ⟨b, 0, none⟩ = some x0 ∧ w.cell? ⟨b, 1, none⟩ = some x1 ∧ w.cell? ⟨b, 2, none⟩ = some x2 ∧ w.cell? ⟨b, 3, none⟩ = some x3 ∧ w.cell? ⟨b, 4, none⟩ = some x4 ∧ w.cell? ⟨b, 5, none⟩ = some x5 :=
  ⟨h.get 0, h.get 1, h.get 2, h.get 3, h.get 4, h.get 5⟩
theorem Ob.fsix {w : World} {b : Nat} {ty : TypeId} {cs : Array Value} (h : Ob w b ty cs) :
    w.frozen? ⟨b, 0, none⟩ = false ∧ w.frozen? ⟨b, 1, none⟩ = false ∧ w.frozen? ⟨b, 2, none⟩ = false ∧ w.frozen? ⟨b, 3, none⟩ = false ∧ w.frozen? ⟨b, 4, none⟩ = false ∧ w.frozen? ⟨b, 5, none⟩ = false :=
  ⟨h.fr 0, h.fr 1, h.fr 2, h.fr 3, h.fr 4, h.fr 5⟩

set_option maxHeartbeats 8000000 in
set_option maxRecDepth 100000 in
theorem number1_any' (w : World) (EW : Hid (ErrW w)) (neg : Bool) (A1 A2 A3 : Option Addr) (n1 c1 n2 c2 n3 c3 : Nat) (dn : Bool) (l1 l2 pw : List UInt8) (S1 : Sb w A1 n1 c1 l1) (S2 : Sb w A2 n2 c2 l2) (S3 : Sb w A3 n3 c3 pw)
    (hd : M.allD (l1 ++ l2) = true) (hp : M.allD pw = true) (h1 : n1 ≤ 100000000) (h2 : n2 ≤ 100000000) (h3 : n3 ≤ 100000000) (r : M.Nm)
    (hr : Hid (M.num (l1 ++ l2) ((if dn = true then -(M.vsa 0 pw : Int) else (M.vsa 0 pw : Int)) - (n2 : Int)) = r)) :
    Calls Tryz.prog 78 #[ptv 1 neg A1 n1 c1 A2 n2 c2 dn A3 n3 c3] w (Nmr neg r w) := by
  obtain ⟨P, hP⟩ : ∃ P : Int, (if dn = true then -((min (M.vsa 0 pw) (2000 + n1 + n2) : Nat) : Int) else ((min (M.vsa 0 pw) (2000 + n1 + n2) : Nat) : Int)) = P := ⟨_, rfl⟩
  have hPb : -300000000 ≤ P ∧ P ≤ 300000000 := by rw [← hP]; split <;> omega
  have HP := Lib.hid hP
  have g1 := S1.num
  have g2 := S2.num
  have HS1 := Lib.hid S1
  have HS2 := Lib.hid S2
  have HS3 := Lib.hid S3
  have HD := Lib.hid hd
  have HPW := Lib.hid hp
  have U := Up.refl w
  clear S1 S2 S3 hd hp hP
  go_enter Tryz.func78, Tryz.ntmps78
  go_upto_region 1 with fail
  obtain ⟨V1, hV1⟩ : ∃ V1, (w.alloc (.cells #[.int .i64 1, .bool neg, .slice A1 n1 c1, .slice A2 n2 c2, .bool dn, .slice A3 n3 c3] 106)).alloc (.cells #[.int .i64 0, .bool false, .slice none 0 0, .int .i64 0, .int .i64 0, .bool false] 51) = V1 := ⟨_, rfl⟩
  have hsz : (w.alloc (.cells #[.int .i64 1, .bool neg, .slice A1 n1 c1, .slice A2 n2 c2, .bool dn, .slice A3 n3 c3] 106)).heap.size = w.heap.size + 1 := Array.size_push _
  have B : Ob V1 w.heap.size 106 #[.int .i64 1, .bool neg, .slice A1 n1 c1, .slice A2 n2 c2, .bool dn, .slice A3 n3 c3] := by rw [← hV1]; exact (Ob.mk_ w _ _).up ((Up.refl _).alloc _)
  have R : Ob V1 (w.heap.size + 1) 51 #[.int .i64 0, .bool false, .slice none 0 0, .int .i64 0, .int .i64 0, .bool false] := by rw [← hV1, ← hsz]; exact Ob.mk_ _ _ _
  replace U : Up w V1 := by rw [← hV1]; exact (U.alloc _).alloc _
  rw [hV1]
  clear hV1 hsz
  have hB1 := R.lt
  obtain ⟨b0, b1, b2, b3, b4, b5⟩ := B.six
  go_upto_region 2 with (refine store_ob rfl 51 (.tmp 3) (.tmp 10) rfl _ #[.int .i64 0, .bool false, .slice none 0 0, .int .i64 0, .int .i64 0, .bool false] #[.int .i64 1, .bool neg, .slice none 0 0, .int .i64 0, .int .i64 0, .bool false] rfl rfl 6 (by kernel_rfl) rfl rfl (by simp [Value.oneCell']) V1 ((Up.refl _).alloc _) (Nat.le_refl _) 51 (Ob.mk_ _ _ _) ?_; intro V2 I uV2)
  replace U := U.trans uV2
  replace B := B.up uV2
  replace R := R.up uV2
  have gI : w.heap.size + 1 < V1.heap.size := hB1
  obtain ⟨i, hi⟩ : ∃ i, V1.heap.size = i := ⟨_, rfl⟩
  rw [hi] at I gI ⊢
  clear uV2 hi hB1 b0 b1 b2 b3 b4 b5
  obtain ⟨b0, b1, b2, b3, b4, b5⟩ := B.six
  obtain ⟨all, hall⟩ : ∃ all, l1 ++ l2 = all := ⟨_, rfl⟩
  have HALL := Lib.hid hall
  have HLEN : Hid (all.length = n1 + n2) := by show _ = _; rw [← hall, List.length_append]; omega
  clear g1 g2 hall
  have uLt := I.lt
  go_upto_region 3 with (go_at_call 99; refine (concat_any _ V2.heap.size n1 c1 n2 c2 A1 A2 l1 l2 (by simp) (by simp) (HS1.out.up (U.alloc _)) (HS2.out.up (U.alloc _)) (by omega)).mono ?_; rintro _ V3 ⟨v3, rfl, R3, U3⟩)
  replace U3 := ((Up.refl V2).alloc _).trans U3
  replace U := U.trans U3
  replace B := B.up U3
  replace R := R.up U3
  replace I := I.up U3
  rw [HALL.out] at R3
  obtain ⟨A3', na, c3', rfl, Sa, Oa, ca⟩ := R3.sl
  have Oa2 : Own V3 (i + 1) A3' c3' := fun ad e => by
    obtain ⟨g, o, e1, e2, e3⟩ := Oa ad e
    exact ⟨g, o, e1, Nat.le_trans (by simp; omega) e2, e3⟩
  have hna : na = n1 + n2 := by rw [← HLEN.out]; exact Sa.num.symm
  have hnab : na ≤ 200000000 := by omega
  have HNA := Lib.hid hna
  clear Oa R3 b0 b1 b2 b3 b4 b5 U3 hna
  obtain ⟨ahd, hahd⟩ : ∃ ahd, M.lz all = ahd := ⟨_, rfl⟩
  have HAHD := Lib.hid hahd
  have CL := Lib.hid (trimLeft_sl V3 (i + 1) A3' na c3' all Sa Oa2 ca (by omega) ahd HAHD)
  have HLZ : Hid (ahd.length ≤ all.length) := by show _ ≤ _; rw [← hahd]; exact M.lz_len all
  clear hahd Sa Oa2 ca
  go_upto_region 4 with (go_at_call 100; refine CL.out.mono ?_; rintro _ V4 ⟨rfl, v4, rfl, A4, nh, c4, rfl, Sb4, Ob4, cb4⟩)
  have hnh : nh ≤ na := by have := HLZ.out; have := HLEN.out; have := HNA.out; have := Sb4.num; omega
  have HNH := Lib.hid Sb4.num
  obtain ⟨dig, hdig⟩ : ∃ dig, M.tz ahd = dig := ⟨_, rfl⟩
  have HDIG := Lib.hid hdig
  have HTZ : Hid (dig.length ≤ ahd.length) := by show _ ≤ _; rw [← hdig]; exact M.tz_len ahd
  have CR := Lib.hid (trimRight_sl V3 (i + 1) A4 nh c4 ahd Sb4 Ob4 cb4 (by omega) dig HDIG)
  clear CL hdig Sb4 Ob4 cb4
  go_upto_region 5 with (go_at_call 101; refine CR.out.mono ?_; rintro _ V4 ⟨rfl, v5, rfl, A5, nd, c5, rfl, Sb5, Ob5, cb5⟩)
  have hnd : nd ≤ nh := by have := HTZ.out; have := HNH.out; have := Sb5.num; omega
  have HND := Lib.hid Sb5.num
  clear CR
  obtain ⟨b0, b1, b2, b3, b4, b5⟩ := B.six
  have CP := Lib.hid (fun W (u : Up w W) => powerOf_any W 1 neg A1 A2 A3 n1 c1 n2 c2 n3 c3 dn pw (HS3.out.up u) HPW.out (by omega) (by omega) (by omega) P HP)
  obtain ⟨fst, hfst⟩ : ∃ fst : Int, P + (n1 : Int) - 1 - ((na : Int) - (nh : Int)) = fst := ⟨_, rfl⟩
  have hfb : -1000000000 ≤ fst ∧ fst ≤ 1000000000 := by omega
  have uR : w.heap.size + 1 < V3.heap.size := R.lt
  have uI : i < V3.heap.size := I.lt
  go_region_held3 (fun w' => w'.cell? ⟨w.heap.size, 0, none⟩ = some (.int .i64 1) ∧ w'.cell? ⟨w.heap.size, 1, none⟩ = some (.bool neg) ∧ w'.cell? ⟨w.heap.size, 2, none⟩ = some (.slice A1 n1 c1) ∧ w'.cell? ⟨w.heap.size, 3, none⟩ = some (.slice A2 n2 c2) ∧ w'.cell? ⟨w.heap.size, 4, none⟩ = some (.bool dn) ∧ w'.cell? ⟨w.heap.size, 5, none⟩ = some (.slice A3 n3 c3)) (go_keep)
    ((go_at_call 102; (with_reducible refine (CP.out _ ?_).mono ?_); (first | with_reducible assumption | exact U.drewN 1 | exact U.drew); rintro _ V5 ⟨rfl, u5⟩; have u6 : Up V3 V5 := Up.trans (by first | exact (Up.refl V3).drewN 1 | exact Up.refl V3) u5; have X := B.up u6; have k0 := X.six.1; have k1 := X.six.2.1; have k2 := X.six.2.2.1; have k3 := X.six.2.2.2.1; have k4 := X.six.2.2.2.2.1; have k5 := X.six.2.2.2.2.2; clear X u5))
  have hw : IntKind.i64.wrap (IntKind.i64.wrap (IntKind.i64.wrap (P + (n1 : Int)) - 1) - IntKind.i64.wrap ((na : Int) - (nh : Int))) = fst := by
    simp [IntKind.wrap, IntKind.bits, IntKind.signed]
    omega
  rw [hw]
  clear hw k0 k1 k2 k3 k4 k5 b0 b1 b2 b3 b4 b5 CP
  replace U := U.trans u6
  replace B := B.up u6
  replace R := R.up u6
  replace I := I.up u6
  replace Sb5 := Sb5.up u6
  replace Ob5 := Ob5.up u6
  have HR : Hid (M.nm dig (fst + 1) = r) := by
    show _ = _
    have e1 := hr.out
    rw [HALL.out] at e1
    have e2 : M.num all (P - (n2 : Int)) = r := by
      rw [← e1]
      apply M.num_far
      rw [HLEN.out, ← HP.out]
      cases dn with
      | false =>
        rw [if_neg Bool.false_ne_true, if_neg Bool.false_ne_true]
        omega
      | true =>
        rw [if_pos rfl, if_pos rfl]
        omega
    rw [← e2, M.num, HAHD.out, HDIG.out, HNH.out]
    congr 1
    have := HNA.out
    omega
  have HDA : Hid (M.allD dig = true) := by
    show _ = _
    rw [← HDIG.out, ← HAHD.out]
    exact M.tz_allD (M.lz_allD (by rw [← HALL.out]; exact HD.out))
  have HDH : Hid (dig = [] ∨ dig.headD 0 ≠ 48) := by
    show _ ∨ _
    rw [← HDIG.out]
    rcases M.tz_head ahd (by rw [← HAHD.out]; exact M.lz_head all) with h | h
    · exact .inl h.1
    · exact .inr h.2
  obtain ⟨i0, i1, i2, i3, i4, i5⟩ := I.six
  clear hr HP HALL HAHD HDIG HLEN HNA HNH HLZ HTZ uLt hfst B u6 hnh hnab hPb HS1 HS2 HS3 HD HPW
  rcases Nat.eq_zero_or_pos nd with h0 | h0
  · subst h0
    obtain rfl : dig = [] := List.eq_nil_of_length_eq_zero HND.out
    clear Sb5 Ob5 HND HDA HDH
    go_wp2_with (refine store_ob2 rfl 51 (.tmp 2) (.tmp 67) rfl _ #[.int .i64 0, .bool false, .slice none 0 0, .int .i64 0, .int .i64 0, .bool false] #[.int .i64 1, .bool neg, .slice none 0 0, .int .i64 0, .int .i64 0, .bool false] rfl rfl 6 (by kernel_rfl) rfl rfl (by simp [Value.oneCell']) w U (Nat.le_succ _) 51 R ?_; clear U; intro V9 Z9 U ho)
    obtain ⟨z0, z1, z2, z3, z4, z5⟩ := Z9.six
    refine bodyPost_ret (v := itv 1 neg (.slice none 0 0) 0 0 false) (by simp [results, Tryz.results78, go_sem, z0, z1, z2, z3, z4, z5]) rfl ?_
    rw [← HR.out]
    exact ⟨_, rfl, Nt.nil _ _ _, U⟩
  · have d0 : ((nd : Int) == 0) = false := by rw [beq_eq_false_iff_ne]; omega
    have hdn : dig ≠ [] := by
      intro e
      have := HND.out
      rw [e] at this
      simp at this
      omega
    have HN := Lib.hid hdn
    clear hdn
    obtain ⟨f0, f1, f2, f3, f4, f5⟩ := I.fsix
    by_cases hb : 1000 ≤ fst
    · have d1 : decide (fst ≥ 1000) = true := decide_eq_true hb
      have HR2 : Hid ((⟨0, 0, 1, false⟩ : M.Nm) = r) := by
        show _ = _
        rw [← HR.out, M.nm, if_neg HN.out, if_pos (by omega)]
      clear HR
      have HR := HR2
      clear HR2
      go_upto_region 15 with fail
      obtain ⟨V6, hV6⟩ : ∃ V6, V5.setCell ⟨i, 4, none⟩ (.int .i64 1) = V6 := ⟨_, rfl⟩
      replace U : Up w V6 := by rw [← hV6]; exact U.setCell (p := ⟨i, 4, none⟩) (by show w.heap.size ≤ i; omega) _
      have R6 : Ob V6 (w.heap.size + 1) 51 #[.int .i64 0, .bool false, .slice none 0 0, .int .i64 0, .int .i64 0, .bool false] := by rw [← hV6]; exact R.other (by omega) _
      replace I := I.put 4 (.int .i64 1)
      rw [hV6] at I ⊢
      clear hV6 R i0 i1 i2 i3 i4 i5 f0 f1 f2 f3 f4 f5
      have R := R6
      clear R6
      obtain ⟨i0, i1, i2, i3, i4, i5⟩ := Ob.six (x0 := .int .i64 1) (x1 := .bool neg) (x2 := .slice none 0 0) (x3 := .int .i64 0) (x4 := .int .i64 1) (x5 := .bool false) I
      go_wp2_with (refine store_ob2 rfl 51 (.tmp 2) (.tmp 67) rfl _ #[.int .i64 0, .bool false, .slice none 0 0, .int .i64 0, .int .i64 0, .bool false] #[.int .i64 1, .bool neg, .slice none 0 0, .int .i64 0, .int .i64 1, .bool false] rfl rfl 6 (by kernel_rfl) rfl rfl (by simp [Value.oneCell']) w U (Nat.le_succ _) 51 R ?_; clear U; intro V9 Z9 U ho)
      obtain ⟨z0, z1, z2, z3, z4, z5⟩ := Z9.six
      refine bodyPost_ret (v := itv 1 neg (.slice none 0 0) 0 1 false) (by simp [results, Tryz.results78, go_sem, z0, z1, z2, z3, z4, z5]) rfl ?_
      rw [← HR.out]
      exact ⟨_, rfl, Nt.nil _ _ _, U⟩
    · have d1 : decide (fst ≥ 1000) = false := decide_eq_false hb
      by_cases hm : fst < -1000
      · have d2 : decide (fst < -1000) = true := decide_eq_true hm
        have HR2 : Hid ((⟨0, 0, -1, false⟩ : M.Nm) = r) := by
          show _ = _
          rw [← HR.out, M.nm, if_neg HN.out, if_neg (by omega), if_pos (by omega)]
        clear HR
        have HR := HR2
        clear HR2
        go_upto_region 15 with fail
        obtain ⟨V6, hV6⟩ : ∃ V6, V5.setCell ⟨i, 4, none⟩ (.int .i64 (-1)) = V6 := ⟨_, rfl⟩
        replace U : Up w V6 := by rw [← hV6]; exact U.setCell (p := ⟨i, 4, none⟩) (by show w.heap.size ≤ i; omega) _
        have R6 : Ob V6 (w.heap.size + 1) 51 #[.int .i64 0, .bool false, .slice none 0 0, .int .i64 0, .int .i64 0, .bool false] := by rw [← hV6]; exact R.other (by omega) _
        replace I := I.put 4 (.int .i64 (-1))
        rw [hV6] at I ⊢
        clear hV6 R i0 i1 i2 i3 i4 i5 f0 f1 f2 f3 f4 f5
        have R := R6
        clear R6
        obtain ⟨i0, i1, i2, i3, i4, i5⟩ := Ob.six (x0 := .int .i64 1) (x1 := .bool neg) (x2 := .slice none 0 0) (x3 := .int .i64 0) (x4 := .int .i64 (-1)) (x5 := .bool false) I
        go_wp2_with (refine store_ob2 rfl 51 (.tmp 2) (.tmp 67) rfl _ #[.int .i64 0, .bool false, .slice none 0 0, .int .i64 0, .int .i64 0, .bool false] #[.int .i64 1, .bool neg, .slice none 0 0, .int .i64 0, .int .i64 (-1), .bool false] rfl rfl 6 (by kernel_rfl) rfl rfl (by simp [Value.oneCell']) w U (Nat.le_succ _) 51 R ?_; clear U; intro V9 Z9 U ho)
        obtain ⟨z0, z1, z2, z3, z4, z5⟩ := Z9.six
        refine bodyPost_ret (v := itv 1 neg (.slice none 0 0) 0 (-1) false) (by simp [results, Tryz.results78, go_sem, z0, z1, z2, z3, z4, z5]) rfl ?_
        rw [← HR.out]
        exact ⟨_, rfl, Nt.nil _ _ _, U⟩
      · have d2 : decide (fst < -1000) = false := decide_eq_false hm
        have HDH2 : Hid (dig.headD 0 ≠ 48) := by
          rcases HDH.out with h | h
          · exact absurd h HN.out
          · exact h
        by_cases hcut : 1990 < nd
        · have d3 : decide ((nd : Int) > 1990) = true := decide_eq_true (by omega)
          obtain ⟨K, hK⟩ : ∃ K : Int, fst - 1990 = K := ⟨_, rfl⟩
          have HR2 : Hid ((⟨M.vsa 0 (dig.take 1990 ++ [49]), K, 0, true⟩ : M.Nm) = r) := by
            show _ = _
            rw [← HR.out, M.nm, if_neg HN.out, if_neg (by omega), if_neg (by omega), if_pos (by rw [HND.out]; exact hcut), ← hK]
            congr 1
            omega
          have HX0 : Hid (dig.take 1990 ++ [49] ≠ []) := by show _ ≠ _; simp
          have HX1 : Hid ((dig.take 1990 ++ [49]).headD 0 ≠ 48) := by
            show _ ≠ _
            have h1 := HDH2.out
            have h2 := HN.out
            clear HR2 HR HN HDH HDH2 HDA HND Sb5
            cases dig with
            | nil => exact absurd rfl h2
            | cons c t => exact h1
          have HX2 : Hid (M.allD (dig.take 1990 ++ [49]) = true) := by
            show _ = _
            have h1 := HDA.out
            rw [← List.take_append_drop 1990 dig] at h1
            rw [M.allD_append, M.allD_left h1]
            rfl
          obtain ⟨ad, rfl⟩ := Sb5.ad h0
          obtain ⟨g, o, rfl, hgi, hwr⟩ := Ob5 _ rfl
          obtain ⟨hap, SX⟩ := room1 V5 g o nd c5 (i + 1) dig Sb5 Ob5 hcut
          have hsl : ∀ W, (Instr.slice 67 (.slice (some ⟨g, o, none⟩) nd c5) none (some (.int .i64 1990)) none).run Tryz.prog W = .ok (.slice (some ⟨g, o, none⟩) 1990 c5) W := fun W => slice_j _ nd c5 1990 (by have := Sb5.len; omega) (fun e => by cases e) W
          obtain ⟨V6, hV6⟩ : ∃ V6, (V5.alloc (.cells #[.int .u8 49] 5)).setCell ⟨g, o + 1990, none⟩ (.int .u8 49) = V6 := ⟨_, rfl⟩
          have o6 : ∀ b', b' ≠ g → V6.heap[b']? = (V5.alloc (.cells #[.int .u8 49] 5)).heap[b']? := by rw [← hV6]; exact fun b' hne => Below.heap_setCell _ _ _ b' hne
          have U6 : Up w V6 := by rw [← hV6]; exact (U.alloc _).setCell (p := ⟨g, o + 1990, none⟩) (by show w.heap.size ≤ g; omega) _
          have R6 := (R.up ((Up.refl _).alloc _)).oth o6 (by omega)
          have I6 := (I.up ((Up.refl _).alloc _)).oth o6 (by omega)
          rw [hV6] at SX hap
          clear HR HN HDH HDH2 HDA Sb5 Ob5 hwr R I U o6 hV6 i0 i1 i2 i3 i4 i5 f0 f1 f2 f3 f4 f5
          have HR := HR2
          clear HR2
          have SXH := Lib.hid SX
          clear SX
          obtain ⟨i0, i1, i2, i3, i4, i5⟩ := I6.six
          obtain ⟨f0, f1, f2, f3, f4, f5⟩ := I6.fsix
          go_upto_region 8 with (at_builtin; refine Lib.wpList_append_run _ rfl _ _ _ _ rfl _ _ rfl rfl _ _ (hap _) ?_)
          obtain ⟨V5', hV5⟩ : ∃ V5', V6.setCell ⟨i, 5, none⟩ (.bool true) = V5' := ⟨_, rfl⟩
          have o8 : ∀ b', b' ≠ i → V5'.heap[b']? = V6.heap[b']? := by rw [← hV5]; exact fun b' hne => Below.heap_setCell _ _ _ b' hne
          have U : Up w V5' := by rw [← hV5]; exact U6.setCell (p := ⟨i, 5, none⟩) (by show w.heap.size ≤ i; omega) _
          have R := R6.oth o8 (by omega)
          have I := I6.put 5 (.bool true)
          have SX : Sb V5' (some ⟨g, o, none⟩) 1991 c5 (dig.take 1990 ++ [49]) := SXH.out.oth o8 (fun ad e => by cases e; show g ≠ i; omega)
          rw [hV5] at I ⊢
          clear hV5 o8 R6 I6 U6 SXH i0 i1 i2 i3 i4 i5 f0 f1 f2 f3 f4 f5
          obtain ⟨S, hS⟩ : ∃ S : ByteArray, (⟨(dig.take 1990 ++ [49]).toArray⟩ : ByteArray) = S := ⟨_, rfl⟩
          have HS := Lib.hid hS
          have hcv := conv_sb SX (by omega) S HS
          have CPA := Lib.hid (parse_any V5' S (dig.take 1990 ++ [49]) (by rw [← hS]) HX0.out (by rw [SX.num]; omega) (.inl HX1.out) (EW.out.up U))
          obtain ⟨i0, i1, i2, i3, i4, i5⟩ := Ob.six (x0 := .int .i64 1) (x1 := .bool neg) (x2 := .slice none 0 0) (x3 := .int .i64 0) (x4 := .int .i64 0) (x5 := .bool true) I
          obtain ⟨f0, f1, f2, f3, f4, f5⟩ := I.fsix
          have uI : i < V5'.heap.size := I.lt
          have uR : w.heap.size + 1 < V5'.heap.size := R.lt
          clear hS SX
          go_upto_region 9 with (go_at_call 103; refine CPA.out.mono ?_; rintro _ V7 ⟨v7, rfl, ⟨A7, n7, c7, ys7, rfl, N7⟩, u7⟩; have I7 := I.up u7; obtain ⟨j0, j1, j2, j3, j4, j5⟩ := Ob.six (x0 := .int .i64 1) (x1 := .bool neg) (x2 := .slice none 0 0) (x3 := .int .i64 0) (x4 := .int .i64 0) (x5 := .bool true) I7; obtain ⟨g0, g1, g2, g3, g4, g5⟩ := I7.fsix)
          rw [HX2.out, if_pos rfl] at N7
          replace N7 : Nt V7 V5'.heap.size 2001 (.slice A7 n7 c7) (M.vsa 0 (dig.take 1990 ++ [49])) := ⟨_, _, _, _, rfl, N7⟩
          replace U := U.trans u7
          replace R := R.up u7
          clear CPA I i0 i1 i2 i3 i4 i5 f0 f1 f2 f3 f4 f5 hcv HS
          obtain ⟨V8, hV8⟩ : ∃ V8, V7.setCell ⟨i, 2, none⟩ (.slice A7 n7 c7) = V8 := ⟨_, rfl⟩
          have o8 : ∀ b', b' ≠ i → V8.heap[b']? = V7.heap[b']? := by rw [← hV8]; exact fun b' hne => Below.heap_setCell _ _ _ b' hne
          replace U : Up w V8 := by rw [← hV8]; exact U.setCell (p := ⟨i, 2, none⟩) (by show w.heap.size ≤ i; omega) _
          replace R := R.oth o8 (by omega)
          have N8 := N7.other o8 uI
          have I8 := I7.put 2 (.slice A7 n7 c7)
          rw [hV8] at I8 ⊢
          clear hV8 o8 N7 I7 j0 j1 j2 j3 j4 j5 g0 g1 g2 g3 g4 g5
          obtain ⟨j0, j1, j2, j3, j4, j5⟩ := Ob.six (x0 := .int .i64 1) (x1 := .bool neg) (x2 := .slice A7 n7 c7) (x3 := .int .i64 0) (x4 := .int .i64 0) (x5 := .bool true) I8
          obtain ⟨g0, g1, g2, g3, g4, g5⟩ := I8.fsix
          go_upto_region 15 with fail
          obtain ⟨V9, hV9⟩ : ∃ V9, V8.setCell ⟨i, 3, none⟩ (.int .i64 K) = V9 := ⟨_, rfl⟩
          have o8 : ∀ b', b' ≠ i → V9.heap[b']? = V8.heap[b']? := by rw [← hV9]; exact fun b' hne => Below.heap_setCell _ _ _ b' hne
          replace U : Up w V9 := by rw [← hV9]; exact U.setCell (p := ⟨i, 3, none⟩) (by show w.heap.size ≤ i; omega) _
          replace R := R.oth o8 (by omega)
          have N9 := N8.other o8 uI
          have I9 := I8.put 3 (.int .i64 K)
          rw [hV9] at I9 ⊢
          clear hV9 o8 N8 I8 j0 j1 j2 j3 j4 j5 g0 g1 g2 g3 g4 g5
          obtain ⟨j0, j1, j2, j3, j4, j5⟩ := Ob.six (x0 := .int .i64 1) (x1 := .bool neg) (x2 := .slice A7 n7 c7) (x3 := .int .i64 K) (x4 := .int .i64 0) (x5 := .bool true) I9
          go_wp2_with (refine store_ob2 rfl 51 (.tmp 2) (.tmp 67) rfl _ #[.int .i64 0, .bool false, .slice none 0 0, .int .i64 0, .int .i64 0, .bool false] #[.int .i64 1, .bool neg, .slice A7 n7 c7, .int .i64 K, .int .i64 0, .bool true] rfl rfl 6 (by kernel_rfl) rfl rfl (by simp [Value.oneCell']) w U (Nat.le_succ _) 51 R ?_; clear U; intro V10 Z9 U ho)
          obtain ⟨z0, z1, z2, z3, z4, z5⟩ := Z9.six
          refine bodyPost_ret (v := itv 1 neg (.slice A7 n7 c7) K 0 true) (by simp [results, Tryz.results78, go_sem, z0, z1, z2, z3, z4, z5]) rfl ?_
          rw [← HR.out]
          exact ⟨_, rfl, (N9.other ho uR).lower (by omega), U⟩
        · have d3 : decide ((nd : Int) > 1990) = false := decide_eq_false (by omega)
          obtain ⟨K, hK⟩ : ∃ K : Int, fst - ((nd : Int) - 1) = K := ⟨_, rfl⟩
          have HR2 : Hid ((⟨M.vsa 0 dig, K, 0, false⟩ : M.Nm) = r) := by
            show _ = _
            rw [← HR.out, M.nm, if_neg HN.out, if_neg (by omega), if_neg (by omega), if_neg (by rw [HND.out]; exact hcut), ← hK, HND.out]
            congr 1
            omega
          clear HR
          have HR := HR2
          clear HR2
          have HX0 := HN
          have HX1 := HDH2
          have HX2 := HDA
          have SX := Sb5
          clear HN HDH HDH2 HDA Sb5 Ob5 HND f0 f1 f2 f3 f4 f5 i0 i1 i2 i3 i4 i5
          obtain ⟨S, hS⟩ : ∃ S : ByteArray, (⟨(dig).toArray⟩ : ByteArray) = S := ⟨_, rfl⟩
          have HS := Lib.hid hS
          have hcv := conv_sb SX (by omega) S HS
          have CPA := Lib.hid (parse_any V5 S (dig) (by rw [← hS]) HX0.out (by rw [SX.num]; omega) (.inl HX1.out) (EW.out.up U))
          obtain ⟨i0, i1, i2, i3, i4, i5⟩ := Ob.six (x0 := .int .i64 1) (x1 := .bool neg) (x2 := .slice none 0 0) (x3 := .int .i64 0) (x4 := .int .i64 0) (x5 := .bool false) I
          obtain ⟨f0, f1, f2, f3, f4, f5⟩ := I.fsix
          have uI : i < V5.heap.size := I.lt
          have uR : w.heap.size + 1 < V5.heap.size := R.lt
          clear hS SX
          go_upto_region 9 with (go_at_call 103; refine CPA.out.mono ?_; rintro _ V7 ⟨v7, rfl, ⟨A7, n7, c7, ys7, rfl, N7⟩, u7⟩; have I7 := I.up u7; obtain ⟨j0, j1, j2, j3, j4, j5⟩ := Ob.six (x0 := .int .i64 1) (x1 := .bool neg) (x2 := .slice none 0 0) (x3 := .int .i64 0) (x4 := .int .i64 0) (x5 := .bool false) I7; obtain ⟨g0, g1, g2, g3, g4, g5⟩ := I7.fsix)
          rw [HX2.out, if_pos rfl] at N7
          replace N7 : Nt V7 V5.heap.size 2001 (.slice A7 n7 c7) (M.vsa 0 (dig)) := ⟨_, _, _, _, rfl, N7⟩
          replace U := U.trans u7
          replace R := R.up u7
          clear CPA I i0 i1 i2 i3 i4 i5 f0 f1 f2 f3 f4 f5 hcv HS
          obtain ⟨V8, hV8⟩ : ∃ V8, V7.setCell ⟨i, 2, none⟩ (.slice A7 n7 c7) = V8 := ⟨_, rfl⟩
          have o8 : ∀ b', b' ≠ i → V8.heap[b']? = V7.heap[b']? := by rw [← hV8]; exact fun b' hne => Below.heap_setCell _ _ _ b' hne
          replace U : Up w V8 := by rw [← hV8]; exact U.setCell (p := ⟨i, 2, none⟩) (by show w.heap.size ≤ i; omega) _
          replace R := R.oth o8 (by omega)
          have N8 := N7.other o8 uI
          have I8 := I7.put 2 (.slice A7 n7 c7)
          rw [hV8] at I8 ⊢
          clear hV8 o8 N7 I7 j0 j1 j2 j3 j4 j5 g0 g1 g2 g3 g4 g5
          obtain ⟨j0, j1, j2, j3, j4, j5⟩ := Ob.six (x0 := .int .i64 1) (x1 := .bool neg) (x2 := .slice A7 n7 c7) (x3 := .int .i64 0) (x4 := .int .i64 0) (x5 := .bool false) I8
          obtain ⟨g0, g1, g2, g3, g4, g5⟩ := I8.fsix
          go_upto_region 15 with fail
          obtain ⟨V9, hV9⟩ : ∃ V9, V8.setCell ⟨i, 3, none⟩ (.int .i64 K) = V9 := ⟨_, rfl⟩
          have o8 : ∀ b', b' ≠ i → V9.heap[b']? = V8.heap[b']? := by rw [← hV9]; exact fun b' hne => Below.heap_setCell _ _ _ b' hne
          replace U : Up w V9 := by rw [← hV9]; exact U.setCell (p := ⟨i, 3, none⟩) (by show w.heap.size ≤ i; omega) _
          replace R := R.oth o8 (by omega)
          have N9 := N8.other o8 uI
          have I9 := I8.put 3 (.int .i64 K)
          rw [hV9] at I9 ⊢
          clear hV9 o8 N8 I8 j0 j1 j2 j3 j4 j5 g0 g1 g2 g3 g4 g5
          obtain ⟨j0, j1, j2, j3, j4, j5⟩ := Ob.six (x0 := .int .i64 1) (x1 := .bool neg) (x2 := .slice A7 n7 c7) (x3 := .int .i64 K) (x4 := .int .i64 0) (x5 := .bool false) I9
          go_wp2_with (refine store_ob2 rfl 51 (.tmp 2) (.tmp 67) rfl _ #[.int .i64 0, .bool false, .slice none 0 0, .int .i64 0, .int .i64 0, .bool false] #[.int .i64 1, .bool neg, .slice A7 n7 c7, .int .i64 K, .int .i64 0, .bool false] rfl rfl 6 (by kernel_rfl) rfl rfl (by simp [Value.oneCell']) w U (Nat.le_succ _) 51 R ?_; clear U; intro V10 Z9 U ho)
          obtain ⟨z0, z1, z2, z3, z4, z5⟩ := Z9.six
          refine bodyPost_ret (v := itv 1 neg (.slice A7 n7 c7) K 0 false) (by simp [results, Tryz.results78, go_sem, z0, z1, z2, z3, z4, z5]) rfl ?_
          rw [← HR.out]
          exact ⟨_, rfl, (N9.other ho uR).lower (by omega), U⟩
end Go.Proofs.YtjmnobgllnaljaaGreatDoor
