/-
  nat.divideByWord: its contract.
-/
import Derived.Test.YtbbjlcgfaigmdaaGreatDoorUNa
import Derived.Test.YtbbjlcgfaigmdaaGreatDoorUMath2
import Derived.Deep.DeepCutAuto
import Derived.Deep.CutBlock
import Derived.Deep.LoopGhost
import Derived.Shelf.Strconv.AppendUint10
import Derived.Shelf.Strconv.AppendInt10
import Derived.Test.YtbbjlcgfaigmdaaGreatDoorUVsa
namespace Go.Proofs.YtbbjlcgfaigmdaaGreatDoor
open Go.RowKit Go.Shelf

end Go.Proofs.YtbbjlcgfaigmdaaGreatDoor
namespace Go.Proofs.YtbbjlcgfaigmdaaGreatDoor
open Go.RowKit Go.Shelf

/-- What is so behind a division from the highest word down to word k. -/
def M.DivInv (xs : List Nat) (by_ k left : Nat) (zs : List Nat) : Prop :=
  zs.length = xs.length ∧ left < by_ ∧ (∀ j, j < k → zs.getD j 0 = xs.getD j 0) ∧ M.val (xs.drop k) = M.val (zs.drop k) * by_ + left
theorem M.val_drop {xs : List Nat} {k : Nat} (h : k < xs.length) : M.val (xs.drop k) = xs.getD k 0 + 18446744073709551616 * M.val (xs.drop (k + 1)) := by
  rw [List.drop_eq_getElem_cons h, M.val_cons]
  simp [List.getD_eq_getElem?_getD, List.getElem?_eq_getElem h]
theorem M.DivInv.start (xs : List Nat) (by_ : Nat) (h : 0 < by_) : M.DivInv xs by_ xs.length 0 xs := by
  refine ⟨rfl, h, fun _ _ => rfl, ?_⟩
  rw [List.drop_of_length_le (Nat.le_refl _)]
  simp [M.val]
theorem M.DivInv.step {xs zs : List Nat} {by_ k left x : Nat} (h : M.DivInv xs by_ (k + 1) left zs) (hk : k < xs.length) (hx : xs.getD k 0 = x) :
    M.DivInv xs by_ k ((left * 18446744073709551616 + x) % by_) (zs.set k ((left * 18446744073709551616 + x) / by_)) := by
  obtain ⟨h1, h2, h3, h4⟩ := h
  have hb : 0 < by_ := by omega
  refine ⟨by simp [h1], Nat.mod_lt _ hb, fun j hj => ?_, ?_⟩
  · rw [M.getD_set_ne (by omega)]; exact h3 j (by omega)
  · rw [M.val_drop hk, M.val_drop (xs := zs.set k _) (by simpa [h1] using hk), M.getD_set (by omega), M.drop_set_lt (by omega), hx, h4, Nat.add_mul, Nat.mul_assoc]
    have := Nat.div_add_mod (left * 18446744073709551616 + x) by_
    rw [Nat.mul_comm by_] at this
    rw [Nat.mul_add]
    omega

section
variable {w : World} {lo n c b o : Nat} {xs : List Nat}
theorem Wd.stored (h : Wd w lo (some ⟨b, o, none⟩) n c xs) {i x : Nat} (hi : i < n) (hx : x < 18446744073709551616) :
    Wd (w.setCell ⟨b, o + i, none⟩ (u64 x)) lo (some ⟨b, o, none⟩) n c (xs.set i x) := by
  refine ⟨by simp [h.num], h.len, h.small, h.wds.set i hx, fun hn => ?_⟩
  obtain ⟨b', o', e, hb, hc⟩ := h.at_ hn
  simp only [Option.some.injEq, Addr.mk.injEq, and_true] at e
  obtain ⟨rfl, rfl⟩ := e
  refine ⟨b, o, rfl, hb, fun j hj => ?_⟩
  obtain ⟨k1, k2⟩ := hc j hj
  refine ⟨?_, by rw [World.frozen?_setCell]; exact k2⟩
  by_cases hij : i = j
  · subst hij
    rw [M.getD_set (by rw [h.num]; exact hi)]
    exact World.cell?_setCell_same w _ _ k1
  · rw [M.getD_set_ne hij, World.cell?_setCell_other]
    · exact k1
    · intro e
      injection e with _ e2 _
      omega
end

/-- Another block has been written. -/
theorem Wd.kept {w w' : World} {lo n c : Nat} {A : Option Addr} {xs : List Nat} {row : Option Nat} (h : Wd w lo A n c xs) (hg : w.grownBy w' row) (hne : 0 < n → ∀ b, A.map (·.block) = some b → row ≠ some b) : Wd w' lo A n c xs := by
  refine ⟨h.num, h.len, h.small, h.wds, fun hn => ?_⟩
  obtain ⟨b, o, rfl, hb, hc⟩ := h.at_ hn
  refine ⟨b, o, rfl, hb, fun j hj => ?_⟩
  obtain ⟨k1, k2⟩ := hc j hj
  have hbl := hg.block b (World.block_lt_of_cell? w _ k1) (fun e => hne hn b rfl e.symm)
  exact ⟨(World.cell?_of_block (w := w) hbl).trans k1, (World.frozen?_of_block (w := w) hbl).trans k2⟩

end Go.Proofs.YtbbjlcgfaigmdaaGreatDoor
/-
  nat.Div: its contract; of a divisor of more than one word, from divideLong's.
-/
namespace Go.Proofs.YtbbjlcgfaigmdaaGreatDoor
open Go.RowKit Go.Shelf

end Go.Proofs.YtbbjlcgfaigmdaaGreatDoor
/-
  nat.piecesOf: its contract.
-/
namespace Go.Proofs.YtbbjlcgfaigmdaaGreatDoor
open Go.RowKit Go.Shelf

namespace M
/-- The number of these pieces, the lowest first. -/
def pv : List Nat → Nat
  | [] => 0
  | p :: r => p + 10000000000000000000 * pv r
theorem pv_append (a b : List Nat) : pv (a ++ b) = pv a + 10000000000000000000 ^ a.length * pv b := by
  induction a with
  | nil => simp [pv]
  | cons x r ih =>
    simp only [List.cons_append, pv, ih, List.length_cons, Nat.pow_succ]
    rw [Nat.mul_add, Nat.add_assoc, ← Nat.mul_assoc, Nat.mul_comm (10000000000000000000 ^ r.length)]
/-- What is so while the pieces of a are taken, r the rest. -/
structure PInv (a : Nat) (ps : List Nat) (r : Nat) : Prop where
  eq : a = pv ps + 10000000000000000000 ^ ps.length * r
  lt : ∀ p ∈ ps, p < 10000000000000000000
  last : r = 0 → ps.getLast? ≠ some 0
theorem PInv.start (a : Nat) : PInv a [] a := ⟨by simp [pv], fun _ h => (by cases h), fun _ => by simp⟩
theorem PInv.step {a r : Nat} {ps : List Nat} (h : PInv a ps r) (hr : 0 < r) : PInv a (ps ++ [r % 10000000000000000000]) (r / 10000000000000000000) := by
  refine ⟨?_, fun p hp => ?_, fun h0 => ?_⟩
  · rw [h.eq, pv_append, List.length_append, List.length_singleton, Nat.pow_succ]
    simp only [pv, Nat.mul_zero, Nat.add_zero]
    rw [Nat.mul_assoc, Nat.add_assoc, ← Nat.mul_add, Nat.mod_add_div]
  · rcases List.mem_append.1 hp with e | e
    · exact h.lt p e
    · rw [List.mem_singleton.1 e]; exact Nat.mod_lt _ (by omega)
  · rw [List.getLast?_concat]
    intro e
    have : r % 10000000000000000000 = 0 := by simpa using e
    omega
theorem PInv.wds {a r : Nat} {ps : List Nat} (h : PInv a ps r) : Wds ps := fun p hp => Nat.lt_trans (h.lt p hp) (by omega)
end M

end Go.Proofs.YtbbjlcgfaigmdaaGreatDoor
/-
  nat.Text: its contract.
-/
namespace Go.Proofs.YtbbjlcgfaigmdaaGreatDoor
open Go.RowKit Go.Shelf Go.Sort

/-- The table of powers of ten that the library reads. -/
abbrev TabW (w : World) : Prop := Lib.TabIs Tryz.prog w "internal/strconv.uint64pow10" .u64 Lib.pow10Tab

end Go.Proofs.YtbbjlcgfaigmdaaGreatDoor
namespace Go.Proofs.YtbbjlcgfaigmdaaGreatDoor
open Go.RowKit Go.Shelf

namespace M
end M

/-- What a call of a text makes. -/
theorem TabW.up {w w' : World} (h : TabW w) (hu : Up w w') : TabW w' := Lib.tabBelow_of_tabIs h w' hu

theorem info_u8 : (Tryz.prog.info? 5).map (fun i => (i.zero, i.size, i.bytes)) = some (some (.int .u8 0), 1, 1) := by kernel_rfl

/-- Bytes that the call owns. -/
abbrev By (w : World) (base : Nat) (v : Value) (bs : List UInt8) : Prop := w.ownsRow base 5 1 v bs.length (Lib.byteCells bs)

theorem By.up {w w' : World} {base : Nat} {v : Value} {bs : List UInt8} (h : By w base v bs) (hu : Up w w') : By w' base v bs :=
  World.ownsRow.kept (row := none) h ⟨Below.os hu, Below.tape hu, Below.output hu, Below.size hu, fun j hj _ => Below.block hu j hj⟩ (by cases h : v.ownBlock <;> simp)
end Go.Proofs.YtbbjlcgfaigmdaaGreatDoor
/-
  nat.Sub: its contract.
-/
namespace Go.Proofs.YtbbjlcgfaigmdaaGreatDoor
open Go.RowKit Go.Shelf

set_option maxHeartbeats 400000 in
set_option maxRecDepth 100000 in
theorem add_any (w : World) (lo lo' s : Nat) (v v' : Value) (a b : Nat) (h : Nw w lo s v a) (h' : Nw w lo' s v' b) (hs : s ≤ 1000000000) :
    Calls Tryz.prog 144 #[v, v'] w (Res (s + 1) (a + b) w) := by
  obtain ⟨A, n, c, xs, rfl, hx, ha, hns⟩ := h
  obtain ⟨A', n', c', xs', rfl, hx', hb, hns'⟩ := h'
  have HA := Lib.hid ha
  have HB := Lib.hid hb
  clear ha hb
  go_enter Tryz.func144, Tryz.ntmps144
  go_wp2_with fail
  refine (trim_any w lo A n c xs hx).mono ?_
  rintro _ _ ⟨m, ys, rfl, rfl, hy, hny, hv, hmn⟩
  have HV : Hid (M.val ys = a) := hv.trans HA.out
  clear hx hv HA
  go_wp2_with fail
  refine (trim_any w lo' A' n' c' xs' hx').mono ?_
  rintro _ _ ⟨m', ys', rfl, rfl, hy', hny', hv', hmn'⟩
  have HV' : Hid (M.val ys' = b) := hv'.trans HB.out
  clear hx' hv' HB
  by_cases hm : m < m'
  · have hA := hy'
    have hB := hy
    have FIN : Hid (M.val ys' + M.val ys = a + b) := by
      show _ = _
      rw [HV.out, HV'.out, Nat.add_comm]
    clear HV HV' hy hy'
    have b1 := hA.len
    have b2 := hA.small
    have b3 := hB.len
    have b4 := hB.small
    go_wp2_with (at_make; refine wpList_make_wd _ rfl (.tmp 22) (.tmp 22) 39 rfl info_u64 Tryz.underlying39 ((m' : Int) + 1) ((m' : Int) + 1) (m' + 1) rfl rfl (by omega) (by omega) (by omega) ?_; intro w1 hown1 hg1)
    have hu1 : Up w w1 := (Up.refl w).grown hg1 (by simp)
    have hz1 : w.heap.size < w1.heap.size := (hown1.lt _ rfl).2
    go_loopw [6, 26] (fun c i wr => ∃ (k q : Nat) (zs : List Nat), k ≤ m' ∧ q ≤ 1 ∧ c = u64 q ∧ i = .int .i64 k ∧ Up w wr ∧ Ow wr w.heap.size (.slice (some ⟨w.heap.size, 0, none⟩) (m' + 1) (m' + 1)) (m' + 1) zs ∧ M.Wds zs ∧ Hid (M.val (zs.take k) + 18446744073709551616 ^ k * q = M.val (ys'.take k) + M.val (ys.take k))) (fun _ i _ => m' - (intOf i).toNat)
    case atStart => exact ⟨0, 0, _, by omega, by omega, rfl, rfl, hu1, hown1, M.Wds.replicate _, by simp [Hid, M.val]⟩
    case round =>
      obtain ⟨k, q, zs, hk, hq, rfl, rfl, hu, hown, hwd, HI⟩ := hrel
      have hcA := (hA.up hu).at_
      have hWB := hB.up hu
      have hzl := hown.num
      clear hown1 hg1 hu1 hz1
      by_cases hlt : k < m'
      · obtain ⟨bb, oo, rfl, _, hc⟩ := hcA (by omega)
        have hc1 := (hc k hlt).1
        obtain ⟨x, hx⟩ : ∃ x, ys'.getD k 0 = x := ⟨_, rfl⟩
        obtain ⟨y, hy⟩ : ∃ y, ys.getD k 0 = y := ⟨_, rfl⟩
        have hxb : x < 18446744073709551616 := by rw [← hx]; exact hA.wds.getD k
        have hyb : y < 18446744073709551616 := by rw [← hy]; exact hB.wds.getD k
        rw [hx] at hc1
        obtain ⟨s1, d1, hs1, hd1, he1, hrun⟩ := add64_ex x y q hxb hyb hq
        have hcz := hown.cellAt k (by omega)
        rw [cu_get (by omega)] at hcz
        have hfz := hown.frozenAt k
        have HE := Lib.hid (M.add_step (i := k) (s := s1) (d := d1) (zs := zs) (by omega) HI.out (by rw [hx, hy]; exact he1))
        have HX := Lib.hid hx
        have cw := Lib.hid (wordAt_nat wr _ _ _ _ _ hWB k (by omega) y hy)
        clear hx hy he1 hxb hyb hc hcA
        go_wp2_with (go_at_call 173; refine cw.out.mono ?_; rintro _ _ ⟨rfl, rfl⟩)
        go_roundw
        case rel =>
          obtain ⟨h1, h2⟩ := hown.stored k (u64 s1)
          rw [cu_set] at h1
          exact ⟨k + 1, d1, zs.set k s1, by omega, hd1, rfl, by go_num, hu.setCell (Nat.le_refl _) _, h1, hwd.set k hs1, HE.out⟩
        case measure => simp [intOf]; omega
      · have hkm : k = m' := by omega
        subst hkm
        have hcz := hown.cellAt k (by omega)
        rw [cu_get (by omega)] at hcz
        have hfz := hown.frozenAt k
        obtain ⟨h1, h2⟩ := hown.stored k (u64 q)
        rw [cu_set] at h1
        have hwd2 := Ow.wd_ h1 (hwd.set k (by omega)) (by omega)
        have hvs : M.val (zs.set k q) = a + b := by
          rw [M.val_set_last (by omega), HI.out, M.val_take_all (by have := hA.num; omega), M.val_take_all (by have := hB.num; omega)]
          exact FIN.out
        have HVS := Lib.hid hvs
        have hu2 := hu.setCell (p := ⟨w.heap.size, k, none⟩) (Nat.le_refl _) (u64 q)
        clear hvs h1 h2 hwd hown hWB hcA
        go_wp2_with fail
        refine (trim_any _ _ _ _ _ _ hwd2).mono ?_
        rintro _ _ ⟨m2, zz, rfl, rfl, hd2, hn2, hv2, hm2⟩
        have HV2 : Hid (M.val zz = a + b) := hv2.trans HVS.out
        clear hv2 hwd2
        go_wp2_with fail
        go_ret
        exact ⟨_, rfl, ⟨_, _, _, zz, rfl, hd2, HV2.out, by omega, hn2⟩, hu2⟩
  · have hA := hy
    have hB := hy'
    have FIN : Hid (M.val ys + M.val ys' = a + b) := by
      show _ = _
      rw [HV.out, HV'.out]
    clear HV HV' hy hy'
    have b1 := hA.len
    have b2 := hA.small
    have b3 := hB.len
    have b4 := hB.small
    go_wp2_with (at_make; refine wpList_make_wd _ rfl (.tmp 22) (.tmp 22) 39 rfl info_u64 Tryz.underlying39 ((m : Int) + 1) ((m : Int) + 1) (m + 1) rfl rfl (by omega) (by omega) (by omega) ?_; intro w1 hown1 hg1)
    have hu1 : Up w w1 := (Up.refl w).grown hg1 (by simp)
    have hz1 : w.heap.size < w1.heap.size := (hown1.lt _ rfl).2
    go_loopw [6, 26] (fun c i wr => ∃ (k q : Nat) (zs : List Nat), k ≤ m ∧ q ≤ 1 ∧ c = u64 q ∧ i = .int .i64 k ∧ Up w wr ∧ Ow wr w.heap.size (.slice (some ⟨w.heap.size, 0, none⟩) (m + 1) (m + 1)) (m + 1) zs ∧ M.Wds zs ∧ Hid (M.val (zs.take k) + 18446744073709551616 ^ k * q = M.val (ys.take k) + M.val (ys'.take k))) (fun _ i _ => m - (intOf i).toNat)
    case atStart => exact ⟨0, 0, _, by omega, by omega, rfl, rfl, hu1, hown1, M.Wds.replicate _, by simp [Hid, M.val]⟩
    case round =>
      obtain ⟨k, q, zs, hk, hq, rfl, rfl, hu, hown, hwd, HI⟩ := hrel
      have hcA := (hA.up hu).at_
      have hWB := hB.up hu
      have hzl := hown.num
      clear hown1 hg1 hu1 hz1
      by_cases hlt : k < m
      · obtain ⟨bb, oo, rfl, _, hc⟩ := hcA (by omega)
        have hc1 := (hc k hlt).1
        obtain ⟨x, hx⟩ : ∃ x, ys.getD k 0 = x := ⟨_, rfl⟩
        obtain ⟨y, hy⟩ : ∃ y, ys'.getD k 0 = y := ⟨_, rfl⟩
        have hxb : x < 18446744073709551616 := by rw [← hx]; exact hA.wds.getD k
        have hyb : y < 18446744073709551616 := by rw [← hy]; exact hB.wds.getD k
        rw [hx] at hc1
        obtain ⟨s1, d1, hs1, hd1, he1, hrun⟩ := add64_ex x y q hxb hyb hq
        have hcz := hown.cellAt k (by omega)
        rw [cu_get (by omega)] at hcz
        have hfz := hown.frozenAt k
        have HE := Lib.hid (M.add_step (i := k) (s := s1) (d := d1) (zs := zs) (by omega) HI.out (by rw [hx, hy]; exact he1))
        have HX := Lib.hid hx
        have cw := Lib.hid (wordAt_nat wr _ _ _ _ _ hWB k (by omega) y hy)
        clear hx hy he1 hxb hyb hc hcA
        go_wp2_with (go_at_call 173; refine cw.out.mono ?_; rintro _ _ ⟨rfl, rfl⟩)
        go_roundw
        case rel =>
          obtain ⟨h1, h2⟩ := hown.stored k (u64 s1)
          rw [cu_set] at h1
          exact ⟨k + 1, d1, zs.set k s1, by omega, hd1, rfl, by go_num, hu.setCell (Nat.le_refl _) _, h1, hwd.set k hs1, HE.out⟩
        case measure => simp [intOf]; omega
      · have hkm : k = m := by omega
        subst hkm
        have hcz := hown.cellAt k (by omega)
        rw [cu_get (by omega)] at hcz
        have hfz := hown.frozenAt k
        obtain ⟨h1, h2⟩ := hown.stored k (u64 q)
        rw [cu_set] at h1
        have hwd2 := Ow.wd_ h1 (hwd.set k (by omega)) (by omega)
        have hvs : M.val (zs.set k q) = a + b := by
          rw [M.val_set_last (by omega), HI.out, M.val_take_all (by have := hA.num; omega), M.val_take_all (by have := hB.num; omega)]
          exact FIN.out
        have HVS := Lib.hid hvs
        have hu2 := hu.setCell (p := ⟨w.heap.size, k, none⟩) (Nat.le_refl _) (u64 q)
        clear hvs h1 h2 hwd hown hWB hcA
        go_wp2_with fail
        refine (trim_any _ _ _ _ _ _ hwd2).mono ?_
        rintro _ _ ⟨m2, zz, rfl, rfl, hd2, hn2, hv2, hm2⟩
        have HV2 : Hid (M.val zz = a + b) := hv2.trans HVS.out
        clear hv2 hwd2
        go_wp2_with fail
        go_ret
        exact ⟨_, rfl, ⟨_, _, _, zz, rfl, hd2, HV2.out, by omega, hn2⟩, hu2⟩
end Go.Proofs.YtbbjlcgfaigmdaaGreatDoor
namespace Go.Proofs.YtbbjlcgfaigmdaaGreatDoor
open Go.RowKit Go.Shelf

end Go.Proofs.YtbbjlcgfaigmdaaGreatDoor
/-
  nat.Parse: its contract.
-/
namespace Go.Proofs.YtbbjlcgfaigmdaaGreatDoor
open Go.RowKit Go.Shelf

namespace M
theorem parseM (M : Nat) (hM : 9999999999999999999 ≤ M) (l : List UInt8) : ∀ acc k, acc < 10 ^ k → k + l.length ≤ 19 → Lib.parseUintM M acc l = if allD l = true then .ok (vsa acc l) else Lib.parseUintB 64 [] := by
  induction l with
  | nil => intro acc k _ _; rw [Lib.parseUintM, vsa_nil]; rfl
  | cons c r ih =>
    intro acc k hk hl
    rw [List.length_cons] at hl
    rw [Lib.parseUintM]
    by_cases hc : 48 ≤ c.toNat ∧ c.toNat ≤ 57
    · have hpow : 10 ^ (k + 1) ≤ 10 ^ 19 := Nat.pow_le_pow_right (by omega) (by omega)
      have h1 : acc * 10 + (c.toNat - 48) < 10 ^ (k + 1) := by rw [Nat.pow_succ]; omega
      rw [if_pos hc, if_neg (by rw [Nat.pow_succ] at hpow; omega), if_neg (by omega), ih _ (k + 1) h1 (by omega)]
      have : isD c = true := (isD_iff c).2 hc
      rw [vsa_cons]
      simp [allD, this]
    · rw [if_neg hc]
      have : isD c = false := by
        cases h : isD c
        · rfl
        · exact absurd ((isD_iff c).1 h) hc
      have e : allD (c :: r) = false := by simp [allD, this]
      rw [e]
      rfl
theorem parseB (l : List UInt8) (h0 : l ≠ []) (hl : l.length ≤ 19) : Lib.parseUintB 64 l = if allD l = true then .ok (vsa 0 l) else Lib.parseUintB 64 [] := by
  rw [Lib.parseUintB, if_neg h0]
  exact parseM _ (by omega) l 0 0 (by simp) (by omega)
end M

/-- The library's error is laid. -/
def ErrW (w : World) : Prop := ∃ tp p, w.var? Tryz.prog "strconv.ErrSyntax" = some #[.iface tp p]
theorem ErrW.up {w w' : World} (h : ErrW w) (hu : Up w w') : ErrW w' := by
  obtain ⟨tp, p, h⟩ := h
  refine ⟨tp, p, ?_⟩
  unfold World.var? at *
  cases hg : Tryz.prog.globalNamed "strconv.ErrSyntax" with
  | none => simp [hg] at h
  | some g =>
    simp only [hg, Option.bind_some] at h ⊢
    have hlt : g < w.heap.size := by
      rcases Nat.lt_or_ge g w.heap.size with h' | h'
      · exact h'
      · rw [Array.getElem?_eq_none h'] at h; simp at h
    rw [Below.block hu g hlt]
    exact h

/-- ParseUint of digits: their number. -/
def PuOk (u : Nat) (w : World) (e : Ending) (w' : World) : Prop := e = .returned (.tuple #[u64 u, .nilIface]) ∧ Up w w'
/-- ParseUint of other bytes: an error. -/
def PuNo (w : World) (e : Ending) (w' : World) : Prop := ∃ N, e = .returned (.tuple #[.int .u64 0, .iface 229 (.pointer (some ⟨N, 0, none⟩))]) ∧ Up w w'
theorem parseUint_ok (s : ByteArray) (l : List UInt8) (hl : s.data.toList = l) (h0 : l ≠ []) (h19 : l.length ≤ 19) (hd : M.allD l = true) (w : World) :
    Calls Tryz.prog 143 #[.string s, .int .i64 10, .int .i64 64] w (PuOk (M.vsa 0 l) w) := by
  have hsz : s.size = l.length := by rw [← hl]; exact (Array.length_toList).symm
  refine (Tryz.strconv_ParseUint_10_at64_ok s (by omega) (M.vsa 0 l) (by rw [hl, M.parseB l h0 h19, if_pos hd]) w).mono ?_
  rintro e w' ⟨he, hw⟩
  refine ⟨he, ?_⟩
  rcases hw with rfl | rfl
  · exact Up.refl _
  · exact Lib.bytesWorld_below w _ s
theorem parseUint_no (s : ByteArray) (l : List UInt8) (hl : s.data.toList = l) (h0 : l ≠ []) (h19 : l.length ≤ 19) (hd : M.allD l = false) (w : World) (hw : ErrW w) :
    Calls Tryz.prog 143 #[.string s, .int .i64 10, .int .i64 64] w (PuNo w) := by
  have hsz : s.size = l.length := by rw [← hl]; exact (Array.length_toList).symm
  obtain ⟨tp, p, hv⟩ := hw
  refine (Any.strconv_ParseUint_10_at64_syntax_var Tryz.laysPu14 s (by omega) (by rw [hl, M.parseB l h0 h19, if_neg (by rw [hd]; simp)]; rfl) tp p w hv).mono ?_
  rintro e w' ⟨N, he, _, _, hb⟩
  exact ⟨N, he, hb⟩

/-- What Parse comes to, of bytes that are no other number's. -/
def Parsed (l : List UInt8) (w : World) (e : Ending) (w' : World) : Prop := Opt 2001 (if M.allD l = true then M.vsa 0 l else 0) (M.allD l) w e w'

/-- What is so while a text is gone through by pieces: t is left, cs is behind. -/
def M.PsInv (l : List UInt8) (t : ByteArray) (cs : List UInt8) : Prop := l = cs ++ t.data.toList ∧ M.allD cs = true ∧ (cs = [] ∨ t.size % 19 = 0)
theorem M.PsInv.start {l : List UInt8} {s : ByteArray} (h : s.data.toList = l) : M.PsInv l s [] := ⟨by rw [h]; rfl, rfl, .inl rfl⟩
theorem M.PsInv.finish {l : List UInt8} {t : ByteArray} {cs : List UInt8} (h : M.PsInv l t cs) (h0 : t.size = 0) : M.allD l = true ∧ cs = l := by
  obtain ⟨h1, h2, _⟩ := h
  have : t.data.toList = [] := List.eq_nil_of_length_eq_zero (by rw [Array.length_toList]; exact h0)
  rw [this, List.append_nil] at h1
  exact ⟨by rw [h1]; exact h2, h1.symm⟩

theorem M.PsInv.no {l : List UInt8} {t : ByteArray} {cs : List UInt8} {z : Nat} (h : M.PsInv l t cs) (hd : M.allD (t.data.toList.take z) = false) : M.allD l = false := by
  rw [h.1, M.allD_append, ← List.take_append_drop z t.data.toList, M.allD_append, hd]
  simp
theorem M.PsInv.step {l : List UInt8} {t : ByteArray} {cs : List UInt8} {z : Nat} (h : M.PsInv l t cs) (hz : z = (t.size - 1) % 19 + 1) (h0 : 0 < t.size) (hd : M.allD (t.data.toList.take z) = true) :
    M.PsInv l (t.extract z t.size) (cs ++ t.data.toList.take z) ∧ M.vsa 0 (cs ++ t.data.toList.take z) = M.vsa 0 cs * 10000000000000000000 + M.vsa 0 (t.data.toList.take z) ∧ (t.extract z t.size).size = t.size - z := by
  obtain ⟨h1, h2, h3⟩ := h
  have hsz : (t.extract z t.size).size = t.size - z := by simp
  have hzl : z ≤ t.size := by omega
  refine ⟨⟨?_, ?_, .inr ?_⟩, ?_, hsz⟩
  · have e : (t.extract z t.size).data.toList = t.data.toList.drop z := by
      rw [Lib.extract_data]
      exact List.take_of_length_le (by rw [List.length_drop, Array.length_toList]; exact Nat.le_refl _)
    rw [e, List.append_assoc, List.take_append_drop]; exact h1
  · rw [M.allD_append, h2, hd]; rfl
  · rw [hsz]; omega
  · rw [M.vsa_append, M.vsa_acc]
    rcases h3 with h3 | h3
    · subst h3
      rw [M.vsa_nil, Nat.zero_mul, Nat.zero_mul]
    · have hl : (t.data.toList.take z).length = 19 := by
        rw [List.length_take, Array.length_toList]
        have : t.data.size = t.size := rfl
        omega
      rw [hl]

set_option maxHeartbeats 3200000 in
set_option maxRecDepth 100000 in
theorem parse_any (w : World) (s : ByteArray) (l : List UInt8) (hl : s.data.toList = l) (h0 : l ≠ []) (hlen : l.length ≤ 2000) (hz : l.headD 0 ≠ 48 ∨ l = [48]) (hEW : ErrW w) :
    Calls Tryz.prog 93 #[.string s] w (Parsed l w) := by
  have hsz : s.size = l.length := by rw [← hl]; exact (Array.length_toList).symm
  have hpos : 0 < s.size := by rw [hsz]; exact List.length_pos_iff.2 h0
  have hs2 : s.size ≤ 2000 := by omega
  have htl : s.toList = l := by rw [Lib.toList_data]; exact hl
  have hE : s.toList.isEmpty = false := by rw [htl]; cases l <;> simp_all
  have hT : ((((s[0]'hpos).toNat : Int) == 48) && !(s.toList == [48])) = false := by
    rcases hz with h | h
    · have : (s[0]'hpos) = l.headD 0 := by
        have h1 : (s[0]'hpos) = s.data.toList[0]'(show 0 < s.data.toList.length by rw [Array.length_toList]; exact hpos) := rfl
        rw [h1]
        cases l with
        | nil => exact absurd rfl h0
        | cons c r => simp [hl]
      have h2 : ((s[0]'hpos).toNat : Int) ≠ 48 := by
        rw [this]
        intro e
        apply h
        apply UInt8.toNat_inj.1
        have : (l.headD 0).toNat = 48 := by omega
        exact this
      simp [h2]
    · have e1 : (s.toList == [48]) = true := by rw [htl, h]; rfl
      rw [e1]; simp
  have HL := Lib.hid hl
  have HTL := Lib.hid htl
  have hxx : ∃ b1 b2, (((s[0]'hpos).toNat : Int) == 48) = b1 ∧ (s.toList == [48]) = b2 := ⟨_, _, rfl, rfl⟩
  obtain ⟨b1, b2, hb1, hb2⟩ := hxx
  rw [hb1, hb2] at hT
  have HSZ := Lib.hid hsz
  have HNE := Lib.hid h0
  clear hz htl hl hlen hsz h0
  have hd2 : decide ((2000 : Int) < (s.size : Int)) = false := by simp; omega
  go_enter Tryz.func93, Tryz.ntmps93
  cases b1 <;> cases b2 <;> simp at hT
  all_goals
    go_wp2_with fail
  all_goals
    go_loopg [0, 4] s.size (fun g st v wr => ∃ (t : ByteArray) (cs : List UInt8), st = .string t ∧ t.size ≤ g ∧ t.size ≤ 2000 ∧ Up w wr ∧ Nt wr w.heap.size cs.length v (M.vsa 0 cs) ∧ M.PsInv l t cs)
    case atStart => exact ⟨s, [], rfl, Nat.le_refl _, hs2, Up.refl _, Nt.nil _ _ _, M.PsInv.start HL.out⟩
    case round =>
      obtain ⟨t, cs, rfl, htg, ht2, hu, hv, HP⟩ := hrel
      by_cases ht0 : t.size = 0
      · go_wp2_with fail
        go_ret2
        obtain ⟨p1, p2⟩ := HP.finish ht0
        subst p2
        have hlc : cs.length ≤ 2001 := by have := HSZ.out; omega
        refine ⟨u4, ?_, ?_, hu⟩
        · rw [p1]; rfl
        · rw [if_pos p1]; exact hv.more hlc
      · obtain ⟨z, hz, hz1, hz19, hzt⟩ : ∃ z : Nat, ((t.size : Int) - 1) % 19 + 1 = (z : Int) ∧ 1 ≤ z ∧ z ≤ 19 ∧ z ≤ t.size := ⟨(t.size - 1) % 19 + 1, by omega, by omega, by omega, by omega⟩
        have hpos2 : 0 < t.size := by omega
        have hzz : z = (t.size - 1) % 19 + 1 := by omega
        obtain ⟨pl, hpl⟩ : ∃ pl, t.data.toList.take z = pl := ⟨_, rfl⟩
        obtain ⟨P, hPe⟩ : ∃ P, t.extract 0 z = P := ⟨_, rfl⟩
        have hPl : P.data.toList = pl := by rw [← hPe, Lib.extract_data, List.drop_zero, Nat.sub_zero, hpl]
        have htl : t.data.toList.length = t.size := Array.length_toList
        have hpll : pl.length = z := by rw [← hpl, List.length_take, htl]; omega
        have hpl0 : pl ≠ [] := by intro e; rw [e] at hpll; simp at hpll; omega
        have hcl : cs.length + t.size ≤ 2000 := by
          have := congrArg List.length HP.1
          rw [List.length_append, htl] at this
          have := HSZ.out
          omega
        rcases hd : M.allD pl with _ | _
        · have hno := HP.no (by rw [hpl]; exact hd)
          have PW := Lib.hid (parseUint_no P pl hPl hpl0 (by omega) hd wr (hEW.up hu))
          have HNO := Lib.hid hno
          have HPE := Lib.hid hPe
          clear hno hd hpl hPl hpl0 hPe hzz htl hpll hv HP
          go_wp2_with (go_at_call 143; rw [HPE.out]; refine PW.out.mono ?_; rintro _ w2 ⟨N, rfl, hu2⟩)
          go_ret2
          refine ⟨.slice none 0 0, ?_, ?_, hu.trans hu2⟩
          · rw [HNO.out]; rfl
          · rw [if_neg (by rw [HNO.out]; simp)]; exact Nt.nil _ _ _
        · obtain ⟨s1, s2, s3⟩ := HP.step hzz hpos2 (by rw [hpl]; exact hd)
          rw [hpl] at s1 s2
          have PW := Lib.hid (parseUint_ok P pl hPl hpl0 (by omega) hd wr)
          have hub : M.vsa 0 pl < 18446744073709551616 := by
            have h1 := M.vsa_lt pl hd
            have h2 : 10 ^ pl.length ≤ 10 ^ 19 := Nat.pow_le_pow_right (by omega) (by omega)
            omega
          have hfit : Hid (M.vsa 0 (cs ++ pl) < 18446744073709551616 ^ (cs ++ pl).length) := by
            have h1 := M.vsa_lt (cs ++ pl) (by rw [M.allD_append, HP.2.1, hd]; rfl)
            have h2 : 10 ^ (cs ++ pl).length ≤ 18446744073709551616 ^ (cs ++ pl).length := Nat.pow_le_pow_left (by omega) _
            exact Nat.lt_of_lt_of_le h1 h2
          generalize M.vsa 0 pl = u at *
          have S1 := Lib.hid s1
          have S2 := Lib.hid s2
          have S3 := Lib.hid s3
          have HUB := Lib.hid hub
          have HPE := Lib.hid hPe
          have hp10 : (10000000000000000000 : Nat) < 18446744073709551616 := by omega
          clear s1 s2 s3 hub hd hpl hPl hpl0 hPe hzz htl hpll HP
          go_wp2_with (go_at_call 143; rw [HPE.out]; refine PW.out.mono ?_; rintro _ w2 ⟨rfl, hu2⟩)
          have OW := of_any w2 10000000000000000000 hp10
          simp only [u64, Int.cast_ofNat_Int] at OW
          refine OW.mono ?_
          rintro _ w3 ⟨v3, rfl, h3, hu3⟩
          have hv3 := (hv.up hu2).up hu3
          clear OW hv
          go_wp2_with fail
          refine (mul_any w3 _ _ _ _ u4 v3 _ _ hv3.nw h3.nw (by omega) (by omega)).mono ?_
          rintro _ w4 ⟨v4, rfl, h4, hu4⟩
          clear h3 hv3
          go_wp2_with fail
          refine (of_any w4 u HUB.out).mono ?_
          rintro _ w5 ⟨v5, rfl, h5, hu5⟩
          have h4b := h4.up hu5
          clear h4
          go_wp2_with fail
          refine (add_any w5 _ _ (cs.length + 1) v4 v5 _ _ h4b.nw (h5.nw.more (by omega)) (by omega)).mono ?_
          rintro _ w6 ⟨v6, rfl, h6, hu6⟩
          have hu26 : Up wr w6 := hu2.trans (hu3.trans (hu4.trans (hu5.trans hu6)))
          have h6b : Nt w6 w.heap.size (cs ++ pl).length v6 (M.vsa 0 (cs ++ pl)) := by
            rw [← S2.out] at h6
            exact (h6.fit hfit.out).lower (Nat.le_trans hu.size (Nat.le_trans hu2.size (Nat.le_trans hu3.size (Nat.le_trans hu4.size hu5.size))))
          clear h6 h5 h4b hu2 hu3 hu4 hu5 hu6
          go_wp2_with fail
          go_roundg (t.size - z)
          case measure => omega
          case rel => exact ⟨t.extract z t.size, cs ++ pl, rfl, by rw [S3.out]; exact Nat.le_refl _, by rw [S3.out]; omega, hu.trans hu26, h6b, S1.out⟩

end Go.Proofs.YtbbjlcgfaigmdaaGreatDoor
/-
  few; what each law shows first.
-/
namespace Go.Proofs.YtbbjlcgfaigmdaaGreatDoor
open Go.RowKit Go.Shelf

namespace M
theorem pv_ge {ps : List Nat} (h : ps ≠ []) (hl : ps.getLast? ≠ some 0) : 10000000000000000000 ^ (ps.length - 1) ≤ pv ps := by
  obtain ⟨b, x, rfl⟩ : ∃ b x, ps = b ++ [x] := ⟨ps.dropLast, ps.getLast h, (List.dropLast_concat_getLast h).symm⟩
  have hx : 0 < x := by
    rw [List.getLast?_concat] at hl
    exact Nat.pos_of_ne_zero (fun e => hl (by rw [e]))
  rw [pv_append]
  simp only [pv, Nat.mul_zero, Nat.add_zero, List.length_append, List.length_singleton, Nat.add_sub_cancel]
  calc 10000000000000000000 ^ b.length = 10000000000000000000 ^ b.length * 1 := (Nat.mul_one _).symm
    _ ≤ 10000000000000000000 ^ b.length * x := Nat.mul_le_mul_left _ hx
    _ ≤ _ := Nat.le_add_left _ _
theorem PInv.len {a r s : Nat} {ps : List Nat} (h : PInv a ps r) (ha : a < 18446744073709551616 ^ s) : ps.length ≤ 2 * s := by
  have h1 : (18446744073709551616 : Nat) ^ s ≤ 10000000000000000000 ^ (2 * s) := by
    rw [Nat.pow_mul]
    exact Nat.pow_le_pow_left (by omega) _
  rcases Nat.lt_or_ge (2 * s) ps.length with h2 | h2
  · exfalso
    have h3 : 10000000000000000000 ^ (ps.length - 1) ≤ a := by
      rw [h.eq]
      rcases Nat.eq_zero_or_pos r with h0 | h0
      · have := pv_ge (by intro e; rw [e] at h2; simp at h2) (h.last h0)
        omega
      · have h4 : 10000000000000000000 ^ ps.length * 1 ≤ 10000000000000000000 ^ ps.length * r := Nat.mul_le_mul_left _ h0
        have h5 : 10000000000000000000 ^ (ps.length - 1) ≤ 10000000000000000000 ^ ps.length := Nat.pow_le_pow_right (by omega) (by omega)
        omega
    have h6 : 10000000000000000000 ^ (2 * s) ≤ 10000000000000000000 ^ (ps.length - 1) := Nat.pow_le_pow_right (by omega) (by omega)
    omega
  · exact h2
end M

theorem Nw.lt {w : World} {lo s : Nat} {v : Value} {a : Nat} (h : Nw w lo s v a) : a < 18446744073709551616 ^ s := by
  obtain ⟨A, n, c, xs, _, h1, h2, h3⟩ := h
  have h4 := M.val_lt h1.wds
  rw [h2, h1.num] at h4
  exact Nat.lt_of_lt_of_le h4 (Nat.pow_le_pow_right (by omega) h3)
theorem lit1 (w : World) (x : Nat) (X : Int) (hX : X = (x : Int)) (hx : x < 18446744073709551616) :
    Nw (w.alloc (.cells #[.int .u64 X] 23)) w.heap.size 1 (.slice (some ⟨w.heap.size, 0, none⟩) 1 1) x := by
  subst hX
  have hown : Ow (w.alloc (.cells #[u64 x] 23)) w.heap.size (.slice (some ⟨w.heap.size, 0, none⟩) 1 1) 1 [x] := World.ownsRow_lit w #[u64 x] 1 (Nat.le_refl _) (by simp only [maxLen]; omega) rfl
  have := Ow.nw hown (M.Wds.cons hx M.Wds.nil) (by omega)
  rwa [show M.val [x] = x from by simp [M.val]] at this
end Go.Proofs.YtbbjlcgfaigmdaaGreatDoor
