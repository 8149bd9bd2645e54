/-
  The reference's Times: its contract.
-/
import Derived.Test.YteeepfhjbemgoaaDoorRcmp
namespace Go.Proofs.YteeepfhjbemgoaaDoor
open Go.RowKit Go.Shelf

namespace M
theorem vh_set : ∀ (zs : List Nat) (i x : Nat), i < zs.length → vh (zs.set i x) + 4294967296 ^ i * zs.getD i 0 = vh zs + 4294967296 ^ i * x
  | [], i, x, h => by simp at h
  | z :: zs, 0, x, _ => by simp [vh]; omega
  | z :: zs, i + 1, x, h => by
    have := vh_set zs i x (by simpa using h)
    simp only [List.set_cons_succ, vh, List.getD_cons_succ, Nat.pow_succ]
    have e1 : 4294967296 ^ i * 4294967296 * zs.getD i 0 = 4294967296 * (4294967296 ^ i * zs.getD i 0) := by rw [Nat.mul_comm (4294967296 ^ i), Nat.mul_assoc]
    have e2 : 4294967296 ^ i * 4294967296 * x = 4294967296 * (4294967296 ^ i * x) := by rw [Nat.mul_comm (4294967296 ^ i), Nat.mul_assoc]
    rw [e1, e2]
    omega
theorem vh_take_succ : ∀ (a : List Nat) (k : Nat), vh (a.take (k + 1)) = vh (a.take k) + 4294967296 ^ k * a.getD k 0
  | [], k => by simp [vh]
  | x :: r, 0 => by simp [vh]
  | x :: r, k + 1 => by
    rw [List.take_succ_cons, List.take_succ_cons, vh, vh, vh_take_succ r k, List.getD_cons_succ, Nat.mul_add, Nat.pow_succ, Nat.mul_comm (4294967296 ^ k) 4294967296, Nat.mul_assoc, Nat.add_assoc]
theorem Hs.set {a : List Nat} (h : Hs a) (i : Nat) {x : Nat} (hx : x < 4294967296) : Hs (a.set i x) := fun y hy => by
  rcases List.mem_or_eq_of_mem_set hy with h1 | h1
  · exact h y h1
  · rw [h1]; exact hx
theorem Hs.replicate (n : Nat) : Hs (List.replicate n 0) := fun y hy => by
  rw [List.mem_replicate] at hy; omega
/-- What is so between two rounds of the inner loop: x is the word, zs0 what stood there at first. -/
structure TIn (zs0 : List Nat) (x i m k cy : Nat) (ys zs : List Nat) : Prop where
  eq : vh zs + 4294967296 ^ (i + k) * cy = vh zs0 + 4294967296 ^ i * (x * vh (ys.take k))
  far : ∀ j, i + k ≤ j → zs.getD j 0 = zs0.getD j 0
  cy_lt : cy < 4294967296
  last : m < k → cy = 0
  k_le : k ≤ m + 1
theorem TIn.start (zs0 : List Nat) (x i m : Nat) (ys : List Nat) : TIn zs0 x i m 0 0 ys zs0 :=
  ⟨by simp [vh], fun _ _ => rfl, by omega, fun _ => rfl, by omega⟩
theorem mul_lt_hs {x y : Nat} (hx : x < 4294967296) (hy : y < 4294967296) : x * y ≤ 18446744065119617025 := by
  have := Nat.mul_le_mul (Nat.le_sub_one_of_lt hx) (Nat.le_sub_one_of_lt hy)
  simpa using this
theorem TIn.step {zs0 : List Nat} {x i m k cy : Nat} {ys zs : List Nat} (h : TIn zs0 x i m k cy ys zs) (hx : x < 4294967296) (hm : ys.length = m) (hy : Hs ys) (hz0 : ∀ j, i + m ≤ j → zs0.getD j 0 = 0) (hzs : Hs zs)
    (hgo : k < m ∨ 0 < cy) (hlen : i + m < zs.length) {y z t : Nat} (hyk : ys.getD k 0 = y) (hzk : zs.getD (i + k) 0 = z) (ht : x * y + z + cy = t) :
    t < 18446744073709551616 ∧ t / 4294967296 < 4294967296 ∧ i + k < zs.length ∧ TIn zs0 x i m (k + 1) (t / 4294967296) ys (zs.set (i + k) (t % 4294967296)) := by
  have hyb : y < 4294967296 := by rw [← hyk]; exact hy.getD k
  have hzb : z < 4294967296 := by rw [← hzk]; exact hzs.getD _
  have hxy := mul_lt_hs hx hyb
  have hcy := h.cy_lt
  have hkm : k ≤ m := by
    rcases hgo with h1 | h1
    · omega
    · rcases Nat.lt_or_ge m k with h2 | h2
      · have := h.last h2; omega
      · exact h2
  have hik : i + k < zs.length := by omega
  have ht1 : t < 18446744073709551616 := by omega
  refine ⟨ht1, by omega, hik, ?_, fun j hj => ?_, by omega, fun hmk => ?_, by omega⟩
  · have a1 := vh_set zs (i + k) (t % 4294967296) hik
    have a2 := h.eq
    rw [hzk] at a1
    rw [vh_take_succ, hyk]
    have e1 : 4294967296 ^ (i + (k + 1)) * (t / 4294967296) + 4294967296 ^ (i + k) * (t % 4294967296) = 4294967296 ^ (i + k) * t := by
      rw [← Nat.add_assoc, Nat.pow_succ, Nat.mul_assoc, ← Nat.mul_add]
      congr 1
      omega
    have e2 : 4294967296 ^ (i + k) * t = 4294967296 ^ (i + k) * (x * y) + 4294967296 ^ (i + k) * z + 4294967296 ^ (i + k) * cy := by
      rw [← ht, Nat.mul_add, Nat.mul_add]
    have e3 : 4294967296 ^ i * (x * (vh (ys.take k) + 4294967296 ^ k * y)) = 4294967296 ^ i * (x * vh (ys.take k)) + 4294967296 ^ (i + k) * (x * y) := by
      rw [Nat.mul_add, Nat.mul_add, Nat.pow_add, Nat.mul_left_comm x, Nat.mul_assoc]
    rw [e3]
    omega
  · rw [getD_set_ne' (by omega)]
    exact h.far j (by omega)
  · have hkm2 : k = m := by omega
    subst hkm2
    have hy0 : y = 0 := by rw [← hyk, List.getD_eq_getElem?_getD, List.getElem?_eq_none (by omega)]; rfl
    have hz00 : z = 0 := by rw [← hzk, h.far _ (by omega), hz0 _ (by omega)]
    subst hy0 hz00
    have : t = cy := by rw [← ht]; simp
    omega
/-- What is so between two rounds of the outer loop. -/
structure TOut (xs ys : List Nat) (m i : Nat) (zs : List Nat) : Prop where
  eq : vh zs = vh (xs.take i) * vh ys
  far : ∀ j, i + m ≤ j → zs.getD j 0 = 0
theorem TOut.start (xs ys : List Nat) (m L : Nat) : TOut xs ys m 0 (List.replicate L 0) := by
  have hz : ∀ j, (List.replicate L 0).getD j 0 = 0 := fun j => by
    rw [List.getD_eq_getElem?_getD, List.getElem?_replicate]
    split <;> rfl
  exact ⟨by rw [vh_noughts hz]; simp [vh], fun j _ => hz j⟩
theorem TOut.step {xs ys : List Nat} {m i : Nat} {zs0 zs : List Nat} (h : TOut xs ys m i zs0) {x k : Nat} (hx : xs.getD i 0 = x) (hm : ys.length = m) (hin : TIn zs0 x i m k 0 ys zs) (hk : m ≤ k) : TOut xs ys m (i + 1) zs := by
  have h1 := hin.eq
  have h2 := hin.k_le
  refine ⟨?_, fun j hj => ?_⟩
  · rw [vh_take_succ, hx, Nat.add_mul, ← h.eq]
    rw [List.take_of_length_le (by omega)] at h1
    rw [Nat.mul_assoc]
    omega
  · rw [hin.far j (by omega)]
    exact h.far j (by omega)
theorem TOut.fin {xs ys : List Nat} {m n : Nat} {zs : List Nat} (h : TOut xs ys m n zs) (hn : xs.length = n) : vh zs = vh xs * vh ys := by
  rw [h.eq, List.take_of_length_le (by omega)]
end M
end Go.Proofs.YteeepfhjbemgoaaDoor
namespace Go.Proofs.YteeepfhjbemgoaaDoor
open Go.RowKit Go.Shelf

theorem wrap_n (z : Int) (t : Nat) (h : z = (t : Int)) (ht : t < 18446744073709551616) : IntKind.u64.wrap z = (t : Int) := by
  subst h
  rw [IntKind.wrap_u64]; omega

set_option maxHeartbeats 2000000 in
set_option maxRecDepth 100000 in
theorem times_any (w : World) (lo lo' : Nat) (A A' : Option Addr) (n c m c' : Nat) (xs ys : List Nat) (hx : Wd w lo A n c xs) (hy : Wd w lo' A' m c' ys) (hhx : M.Hs xs) (hhy : M.Hs ys) (hn : n ≤ 100000000) (hm : m ≤ 100000000) :
    Calls Tryd.prog 63 #[.slice A n c, .slice A' m c'] w (Rh (n + m + 1) (M.vh xs * M.vh ys) w) := by
  obtain ⟨L, hL⟩ : ∃ L, n + m + 1 = L := ⟨_, rfl⟩
  have qL : (n : Int) + (m : Int) + 1 = (L : Int) := by omega
  rw [hL]
  have HL := Lib.hid hL
  have hLb : L ≤ 200000001 := by omega
  clear hL
  have b1 := hx.len
  have b2 := hy.len
  go_enter Tryd.func63, Tryd.ntmps63
  go_wp2_with (at_make; refine wpList_make_wd _ rfl (.tmp 15) (.tmp 15) 22 rfl info_u64 Tryd.underlying22 (L : Int) (L : Int) L rfl rfl (by omega) (by omega) (by omega) ?_; intro w1 hown1 hg1)
  have hu1 : Up w w1 := (Up.refl w).grown hg1 (by simp)
  have hst := Lib.hid (M.TOut.start xs ys m L)
  have hst2 : Hid (M.Hs (List.replicate L 0)) := M.Hs.replicate L
  go_loopw [6] (fun iv wr => ∃ (i : Nat) (zs : List Nat), i ≤ n ∧ iv = .int .i64 i ∧ Up w wr ∧ Ow wr w.heap.size (.slice (some ⟨w.heap.size, 0, none⟩) L L) L zs ∧ Hid (M.Hs zs) ∧ Hid (M.TOut xs ys m i zs)) (fun iv _ => n - (intOf iv).toNat)
  case atStart => exact ⟨0, _, by omega, rfl, hu1, hown1, hst2, hst⟩
  case round =>
    obtain ⟨i, zs0, hi, rfl, hu, hown, HH, HO⟩ := hrel
    clear hown1 hg1 hu1 hst hst2
    by_cases hlt : i < n
    · obtain ⟨x, hxk⟩ : ∃ x, xs.getD i 0 = x := ⟨_, rfl⟩
      have hxb : x < 4294967296 := by rw [← hxk]; exact hhx.getD i
      have HX := Lib.hid hxk
      have hcA := hx.at_
      obtain ⟨bb, oo, rfl, _, hc⟩ := hcA (by omega)
      have hc1 := (hc i hlt).1
      rw [hxk] at hc1
      have HC := Lib.hid hc1
      clear hxk hc hcA
      go_wp2_with fail
      have hs0 := Lib.hid (M.TIn.start zs0 x i m ys)
      go_loopw [7, 8] (fun cv kv wi => ∃ (k cy : Nat) (zs : List Nat), k ≤ m + 1 ∧ cy < 4294967296 ∧ cv = u64 cy ∧ kv = .int .i64 k ∧ Up w wi ∧ Ow wi w.heap.size (.slice (some ⟨w.heap.size, 0, none⟩) L L) L zs ∧ Hid (M.Hs zs) ∧ Hid (M.TIn zs0 x i m k cy ys zs)) (fun _ kv _ => m + 1 - (intOf kv).toNat)
      case atStart => exact ⟨0, 0, zs0, by omega, by omega, rfl, rfl, hu, hown, HH, hs0⟩
      case round =>
        obtain ⟨k, cy, zs, hk, hcy, rfl, rfl, hu2, hown2, HH2, HI⟩ := hrel
        have hzl2 := hown2.num
        clear hs0 hown HH hu
        by_cases hkm : k < m
        · obtain ⟨P, hP⟩ : ∃ P, i + k = P := ⟨_, rfl⟩
          have qP : (i : Int) + (k : Int) = (P : Int) := by omega
          obtain ⟨y, hyk⟩ : ∃ y, ys.getD k 0 = y := ⟨_, rfl⟩
          obtain ⟨z, hzk⟩ : ∃ z, zs.getD P 0 = z := ⟨_, rfl⟩
          obtain ⟨p, hp⟩ : ∃ p, x * y = p := ⟨_, rfl⟩
          obtain ⟨t, ht⟩ : ∃ t, p + z + cy = t := ⟨_, rfl⟩
          have hyb : y < 4294967296 := by rw [← hyk]; exact hhy.getD k
          have hzb : z < 4294967296 := by rw [← hzk]; exact HH2.out.getD P
          have hpb : p ≤ 18446744065119617025 := by rw [← hp]; exact M.mul_lt_hs hxb hyb
          obtain ⟨s1, s2, s3, s4⟩ := HI.out.step (y := y) (z := z) (t := t) hxb hy.num hhy HO.out.far HH2.out (.inl hkm) (by rw [hzl2, ← HL.out]; omega) hyk (by rw [hP]; exact hzk) (by rw [hp]; exact ht)
          rw [hP] at s3 s4
          obtain ⟨T0, hT0⟩ : ∃ T0, t % 4294967296 = T0 := ⟨_, rfl⟩
          obtain ⟨T1, hT1⟩ : ∃ T1, t / 4294967296 = T1 := ⟨_, rfl⟩
          rw [hT0, hT1] at s4
          rw [hT1] at s2
          have hT0b : T0 < 4294967296 := by omega
          have e1 : IntKind.u64.wrap ((x : Int) * (y : Int)) = (p : Int) := wrap_n _ p (by rw [← hp]; simp) (by omega)
          have e2 : IntKind.u64.wrap ((p : Int) + (z : Int)) = ((p : Int) + (z : Int)) := by rw [wrap_n _ (p + z) (by omega) (by omega)]; omega
          have e3 : IntKind.u64.wrap ((p : Int) + (z : Int) + (cy : Int)) = (t : Int) := wrap_n _ t (by omega) s1
          have e4 : (t : Int) % 4294967296 = (T0 : Int) := by omega
          have e5 : (t : Int).tmod 4294967296 = (T0 : Int) := by rw [Int.tmod_eq_emod_of_nonneg (by omega)]; exact e4
          have e6 : (t : Int) / 4294967296 = (T1 : Int) := by omega
          have hPL : P < L := by rw [← hzl2]; exact s3
          have hcz := hown2.cellAt P (by omega)
          rw [cu_get (by omega), hzk] at hcz
          have hfz := hown2.frozenAt P
          have hc1 : wr.cell? ⟨bb, oo + i, none⟩ = some (u64 x) := (Below.cell hu2 (World.block_lt_of_cell? _ _ HC.out)).trans HC.out
          have cg : ∀ q, Calls Tryd.prog 104 #[.slice A' m c', .int .i64 k] (wr.drewN q) (Same (u64 y) (wr.drewN q)) := fun q => by
            have := get_any (wr.drewN q) lo' A' m c' ys (hy.up (hu2.drewN q)) k _ rfl
            rwa [hyk] at this
          have CG := Lib.hid cg
          have HE := Lib.hid s4
          have HS4 : Hid (M.Hs (zs.set P T0)) := HH2.out.set P hT0b
          have hk1 : k + 1 ≤ m + 1 := s4.k_le
          clear hp ht hyk hzk hyb hpb s1 s3 s4 hT0 hT1 hP cg HI HO HX HC hx hy hhx hhy
          go_wp2_with fail
          go_quiet ((go_at_call 104; exact Same.quiet (CG.out _)))
          go_wp2_with fail
          go_roundw
          case rel =>
            obtain ⟨h1, _⟩ := (Ow.up hown2 ((Up.refl wr).drewN nq)).stored P (u64 T0)
            rw [cu_set] at h1
            exact ⟨k + 1, T1, _, hk1, s2, rfl, by go_num, (hu2.drewN nq).setCell (Nat.le_refl _) _, h1, HS4, HE⟩
          case measure => simp [intOf]; omega
        · rcases Nat.eq_zero_or_pos cy with hcy0 | hcy0
          · subst hcy0
            have HE := Lib.hid (HO.out.step HX.out hy.num HI.out (by omega))
            clear HI HO
            go_wp2_with fail
            go_roundw
            case rel => exact ⟨i + 1, zs, by omega, by go_num, hu2, hown2, HH2, HE⟩
            case measure => simp [intOf]; omega
          · obtain ⟨P, hP⟩ : ∃ P, i + k = P := ⟨_, rfl⟩
            have qP : (i : Int) + (k : Int) = (P : Int) := by omega
            obtain ⟨y, hyk⟩ : ∃ y, ys.getD k 0 = y := ⟨_, rfl⟩
            obtain ⟨z, hzk⟩ : ∃ z, zs.getD P 0 = z := ⟨_, rfl⟩
            obtain ⟨p, hp⟩ : ∃ p, x * y = p := ⟨_, rfl⟩
            obtain ⟨t, ht⟩ : ∃ t, p + z + cy = t := ⟨_, rfl⟩
            have hyb : y < 4294967296 := by rw [← hyk]; exact hhy.getD k
            have hzb : z < 4294967296 := by rw [← hzk]; exact HH2.out.getD P
            have hpb : p ≤ 18446744065119617025 := by rw [← hp]; exact M.mul_lt_hs hxb hyb
            obtain ⟨s1, s2, s3, s4⟩ := HI.out.step (y := y) (z := z) (t := t) hxb hy.num hhy HO.out.far HH2.out (.inr hcy0) (by rw [hzl2, ← HL.out]; omega) hyk (by rw [hP]; exact hzk) (by rw [hp]; exact ht)
            rw [hP] at s3 s4
            obtain ⟨T0, hT0⟩ : ∃ T0, t % 4294967296 = T0 := ⟨_, rfl⟩
            obtain ⟨T1, hT1⟩ : ∃ T1, t / 4294967296 = T1 := ⟨_, rfl⟩
            rw [hT0, hT1] at s4
            rw [hT1] at s2
            have hT0b : T0 < 4294967296 := by omega
            have e1 : IntKind.u64.wrap ((x : Int) * (y : Int)) = (p : Int) := wrap_n _ p (by rw [← hp]; simp) (by omega)
            have e2 : IntKind.u64.wrap ((p : Int) + (z : Int)) = ((p : Int) + (z : Int)) := by rw [wrap_n _ (p + z) (by omega) (by omega)]; omega
            have e3 : IntKind.u64.wrap ((p : Int) + (z : Int) + (cy : Int)) = (t : Int) := wrap_n _ t (by omega) s1
            have e4 : (t : Int) % 4294967296 = (T0 : Int) := by omega
            have e5 : (t : Int).tmod 4294967296 = (T0 : Int) := by rw [Int.tmod_eq_emod_of_nonneg (by omega)]; exact e4
            have e6 : (t : Int) / 4294967296 = (T1 : Int) := by omega
            have hPL : P < L := by rw [← hzl2]; exact s3
            have hcz := hown2.cellAt P (by omega)
            rw [cu_get (by omega), hzk] at hcz
            have hfz := hown2.frozenAt P
            have hc1 : wr.cell? ⟨bb, oo + i, none⟩ = some (u64 x) := (Below.cell hu2 (World.block_lt_of_cell? _ _ HC.out)).trans HC.out
            have cg : ∀ q, Calls Tryd.prog 104 #[.slice A' m c', .int .i64 k] (wr.drewN q) (Same (u64 y) (wr.drewN q)) := fun q => by
              have := get_any (wr.drewN q) lo' A' m c' ys (hy.up (hu2.drewN q)) k _ rfl
              rwa [hyk] at this
            have CG := Lib.hid cg
            have HE := Lib.hid s4
            have HS4 : Hid (M.Hs (zs.set P T0)) := HH2.out.set P hT0b
            have hk1 : k + 1 ≤ m + 1 := s4.k_le
            clear hp ht hyk hzk hyb hpb s1 s3 s4 hT0 hT1 hP cg HI HO HX HC hx hy hhx hhy
            go_wp2_with fail
            go_quiet ((go_at_call 104; exact Same.quiet (CG.out _)))
            go_wp2_with fail
            go_roundw
            case rel =>
              obtain ⟨h1, _⟩ := (Ow.up hown2 ((Up.refl wr).drewN nq)).stored P (u64 T0)
              rw [cu_set] at h1
              exact ⟨k + 1, T1, _, hk1, s2, rfl, by go_num, (hu2.drewN nq).setCell (Nat.le_refl _) _, h1, HS4, HE⟩
            case measure => simp [intOf]; omega
    · have hin : i = n := by omega
      subst hin
      have hvv := HO.out.fin hx.num
      obtain hwd := Ow.wd_ hown HH.out.wds (by omega)
      have HV := Lib.hid hvv
      clear hvv hown HO
      go_wp2_with fail
      refine (rtrim_any _ _ _ _ _ _ hwd).mono ?_
      rintro _ _ ⟨mm, rfl, rfl, hmm, hnm, hmn, hzz⟩
      have HZ := Lib.hid ((M.vh_take hzz).trans HV.out)
      clear hzz
      go_wp2_with fail
      go_ret
      exact ⟨_, rfl, ⟨_, mm, _, _, rfl, hmm, HH.out.take mm, HZ.out, hmn, hnm⟩, hu⟩
end Go.Proofs.YteeepfhjbemgoaaDoor
