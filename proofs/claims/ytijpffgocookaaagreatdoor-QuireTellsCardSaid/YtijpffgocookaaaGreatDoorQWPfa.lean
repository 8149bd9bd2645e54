import Derived.Test.YtijpffgocookaaaGreatDoorQWPm
import Derived.Test.YtijpffgocookaaaGreatDoorQWObm
import Derived.Laws.IdiomStrings
import Derived.OwnWalk
set_option maxHeartbeats 32000000
set_option linter.unusedVariables false
set_option linter.unusedSimpArgs false
namespace Go.Proofs.YtijpffgocookaaaGreatDoor
open Go.RowKit
namespace M
def vl (l : List Nat) : Nat := l.foldl (fun a b => 2 * a + b) 0
theorem vl_snoc (l : List Nat) (b : Nat) : vl (l ++ [b]) = 2 * vl l + b := by simp [vl, List.foldl_append]
theorem snoc_ind {α : Type} {p : List α → Prop} (h0 : p []) (h1 : ∀ l a, p l → p (l ++ [a])) (l : List α) : p l := by
 have h : ∀ m : List α, p m.reverse := by
  intro m
  induction m with
  | nil => exact h0
  | cons a m ih => rw [List.reverse_cons]; exact h1 _ _ ih
 have := h l.reverse
 rwa [List.reverse_reverse] at this
theorem vl_app (l m : List Nat) : vl (l ++ m) = vl l * 2 ^ m.length + vl m := by
 refine snoc_ind (p := fun m => vl (l ++ m) = vl l * 2 ^ m.length + vl m) (by simp [vl]) ?_ m
 ·intro m b ih
  rw [← List.append_assoc, vl_snoc, vl_snoc, ih, List.length_append, List.length_singleton, p2s, Nat.mul_add]
  rw [Nat.mul_left_comm]
  omega
theorem vl_lt {l : List Nat} (h : ∀ b ∈ l, b < 2) : vl l < 2 ^ l.length := by
 revert h
 refine snoc_ind (p := fun l => (∀ b ∈ l, b < 2) → vl l < 2 ^ l.length) (fun _ => by simp [vl]) ?_ l
 ·intro m b ih h
  have h1 := ih (fun x hx => h x (by simp [hx]))
  have h2 := h b (by simp)
  rw [vl_snoc, List.length_append, List.length_singleton, p2s]
  omega
def bl : Nat → Nat → List Nat
 | 0, _ => []
 | n + 1, k => bl n (k / 2) ++ [k % 2]
theorem bl_len : ∀ n k, (bl n k).length = n
 | 0, _ => rfl
 | n + 1, k => by rw [bl, List.length_append, bl_len n]; rfl
theorem bl_two : ∀ n k, ∀ b ∈ bl n k, b < 2
 | 0, _ => by simp [bl]
 | n + 1, k => by
  intro b hb
  rw [bl, List.mem_append] at hb
  rcases hb with hb | hb
  ·exact bl_two n _ b hb
  ·simp at hb; omega
theorem vl_bl : ∀ n k, vl (bl n k) = k % 2 ^ n
 | 0, k => by simp [bl, vl, Nat.mod_one]
 | n + 1, k => by
  rw [bl, vl_snoc, vl_bl n, p2s, Nat.mod_mul]
  omega
theorem bl_app : ∀ m n k, bl (n + m) k = bl n (k / 2 ^ m) ++ bl m k
 | 0, n, k => by simp [bl]
 | m + 1, n, k => by
  rw [show n + (m + 1) = (n + m) + 1 by omega, bl, bl_app m n, bl, List.append_assoc, Nat.div_div_eq_div_mul, p2s]
theorem bl_vl {l : List Nat} (h : ∀ b ∈ l, b < 2) : bl l.length (vl l) = l := by
 revert h
 refine snoc_ind (p := fun l => (∀ b ∈ l, b < 2) → bl l.length (vl l) = l) (fun _ => rfl) ?_ l
 ·intro m b ih h
  have h1 := ih (fun x hx => h x (by simp [hx]))
  have h2 := h b (by simp)
  rw [List.length_append, List.length_singleton, bl, vl_snoc, show (2 * vl m + b) / 2 = vl m by omega, show (2 * vl m + b) % 2 = b by omega, h1]
end M
structure St (s : ByteArray) (l : List Nat) : Prop where
 size : s.size = l.length
 at_ : ∀ (i : Nat) (h : i < s.size), (s[i]).toNat = 48 + l.getD i 0
 two : ∀ b ∈ l, b < 2
theorem St.bit {s : ByteArray} {l : List Nat} (h : St s l) (i : Nat) : l.getD i 0 < 2 := by
 rw [List.getD_eq_getElem?_getD]
 rcases Nat.lt_or_ge i l.length with hi | hi
 ·rw [List.getElem?_eq_getElem hi]
  exact h.two _ (List.getElem_mem hi)
 ·rw [List.getElem?_eq_none hi]
  decide
theorem rnum_any (w : World) (s : ByteArray) (l : List Nat) (h : St s l) (hl : l.length ≤ 64) (z : Nat) (hz : Hid (M.vl l = z)) : Calls Tryz.prog 173 #[.string s] w (Same (u64 z) w) := by
 have H := Lib.hid h
 have HL := Lib.hid hl
 have hsz : s.size ≤ 64 := by rw [h.size]; exact hl
 clear h hl
 go_enter Tryz.func173, Tryz.ntmps173
 go_wp2_with fail
 go_loop [3, 4] (fun xv iv => ∃ (x i : Nat), xv = u64 x ∧ iv = .int .i64 (i : Int) ∧ i ≤ s.size ∧ Hid (x = M.vl (l.take i))) (fun _ iv => s.size - (intOf iv).toNat)
 case atStart => exact ⟨0, 0, rfl, rfl, Nat.zero_le _, rfl⟩
 case round =>
  obtain ⟨x, i, rfl, rfl, hi, HX⟩ := hrel
  by_cases hlt : i < s.size
  ·have h := H.out
   obtain ⟨b, hb⟩ : ∃ b, l.getD i 0 = b := ⟨_, rfl⟩
   have hb2 := h.bit i
   have hat := h.at_ i hlt
   rw [hb] at hb2 hat
   have hc : ((s[i]).toNat : Int) = 48 + (b : Int) := by omega
   have htake : l.take (i + 1) = l.take i ++ [b] := by
    rw [List.take_add_one, ← hb, List.getD_eq_getElem?_getD, List.getElem?_eq_getElem (by have := h.size; omega)]
    rfl
   have hx64 : 2 * x + b < 18446744073709551616 := by
    have h1 : M.vl (l.take (i + 1)) < 2 ^ (l.take (i + 1)).length := M.vl_lt (fun y hy => h.two y (List.mem_of_mem_take hy))
    have h2 : (l.take (i + 1)).length ≤ 64 := by rw [List.length_take]; have := HL.out; omega
    have h3 : 2 ^ (l.take (i + 1)).length ≤ 2 ^ 64 := M.p2le h2
    have h4 : (2 : Nat) ^ 64 = 18446744073709551616 := by decide
    rw [htake, M.vl_snoc, ← HX.out] at h1
    rw [← htake] at h1
    omega
   have HX2 : Hid (2 * x + b = M.vl (l.take (i + 1))) := by rw [Hid, htake, M.vl_snoc, HX.out]
   have e3 : (48 + (b : Int)) - 48 = (b : Int) := by omega
   have e4 : IntKind.u8.wrap (b : Int) = (b : Int) := by show (b : Int) % 256 = _; omega
   have e5 : IntKind.u64.wrap (b : Int) = (b : Int) := by rw [IntKind.wrap_u64]; omega
   clear h hb hat htake HX
   go_wp2_with fail
   go_round
   case rel => exact ⟨2 * x + b, i + 1, by go_num, by go_num, hlt, HX2⟩
   case measure => simp [intOf]; omega
  ·have hF : x = z := by
    rw [HX.out, ← hz.out, show i = l.length by have := H.out.size; omega, List.take_length]
   subst hF
   clear HX hz
   go_wp2_with fail
   go_ret
   exact ⟨rfl, rfl⟩
theorem cell_lit1 (w : World) (v : Value) (t : TypeId) : (w.alloc (.cells #[v] t)).cell? ((⟨w.heap.size, 0, none⟩ : Addr).add 0) = some v := by
 show (match (w.heap.push (.cells #[v] t))[w.heap.size]? with | some (.cells c _ _) => c[0 + 0]? | _ => none) = _
 simp
def dg (b : Nat) : ByteArray := ⟨#[UInt8.ofNat (48 + b)]⟩
theorem bit_up (w w' : World) (b : Nat) (hb : b < 10) (S : ByteArray) (hS : dg b = S) (Z : Int) (hZ : Z = 48 + (b : Int)) (hu : Up (w.alloc (.cells #[.int .u8 Z] 5)) w') :
  (convert 201 9 (.slice (some ⟨w.heap.size, 0, none⟩) 1 1)).run Tryz.prog w' = .ok (.string S) w' := by
 subst hZ hS
 have hz : (48 : Int) + (b : Int) = ((UInt8.ofNat (48 + b)).toNat : Int) := by
  rw [show (UInt8.ofNat (48 + b)).toNat = (48 + b) % 256 from rfl]; omega
 rw [hz] at hu
 have h1 := cell_lit1 w (.int .u8 ((UInt8.ofNat (48 + b)).toNat : Int)) 5
 have h2 := Below.cell hu (World.block_lt_of_cell? _ _ h1)
 rw [h1] at h2
 exact run_convert_bytes_back _ 201 9 5 ⟨w.heap.size, 0, none⟩ 1 [UInt8.ofNat (48 + b)] Tryz.underlying201 Tryz.underlying5 Tryz.underlying9 (fun j hj => by
  have : j = 0 := by simpa using hj
  subst this
  exact h2)
theorem St.dg {b : Nat} (h : b < 2) : St (dg b) [b] := by
 refine ⟨rfl, fun i hi => ?_, fun x hx => by simp at hx; omega⟩
 have h1 : (Go.Proofs.YtijpffgocookaaaGreatDoor.dg b).size = 1 := rfl
 obtain rfl : i = 0 := by omega
 show (UInt8.ofNat (48 + b)).toNat = 48 + b
 rw [show (UInt8.ofNat (48 + b)).toNat = (48 + b) % 256 from rfl]; omega
theorem St.nil : St ⟨#[]⟩ [] := ⟨rfl, fun i h => absurd h (Nat.not_lt_zero i), fun x hx => by cases hx⟩
theorem St.app {s t : ByteArray} {l m : List Nat} (h : St s l) (k : St t m) : St (s ++ t) (l ++ m) := by
 have h1 := h.size
 have h2 := k.size
 have hsz : (s ++ t).size = s.size + t.size := ByteArray.size_append
 refine ⟨by rw [hsz, List.length_append, h1, h2], fun i hi => ?_, fun x hx => ?_⟩
 ·rcases Nat.lt_or_ge i s.size with hl | hl
  ·rw [ByteArray.getElem_append_left hl, h.at_ i hl, List.getD_eq_getElem?_getD, List.getD_eq_getElem?_getD, List.getElem?_append_left (by omega)]
  ·rw [ByteArray.getElem_append_right hl, k.at_ (i - s.size) (by omega), List.getD_eq_getElem?_getD, List.getD_eq_getElem?_getD, List.getElem?_append_right (by omega), h1]
 ·rw [List.mem_append] at hx
  rcases hx with hx | hx
  ·exact h.two x hx
  ·exact k.two x hx
set_option maxRecDepth 100000 in
theorem rbits_in (w : World) (n k : Nat) (hn : 2 ≤ n) (hn2 : n ≤ 64) (h0 : 0 < k) (hk : k < 18446744073709551616) :
  Calls Tryz.prog 172 #[.int .i64 ((n : Int) + 1), u64 k] w (fun e w' => ∃ s, e = .returned (.tuple #[.string s, .bool (decide (k < 2 ^ n))]) ∧ St s (M.bl n k) ∧ Up w w') := by
 have d1 : decide ((n : Int) + 1 < 3) = false := decide_eq_false (by omega)
 have d2 : decide (65 < (n : Int) + 1) = false := decide_eq_false (by omega)
 have d3 : ((k : Int) == 0) = false := by rw [beq_eq_false_iff_ne]; omega
 go_enter Tryz.func172, Tryz.ntmps172
 go_wp2_with fail
 go_loopw [1, 6, 7] (fun kv sv iv wr => ∃ (i y : Nat) (s : ByteArray), i ≤ n ∧ kv = u64 y ∧ sv = .string s ∧ iv = .int .i64 ((i : Int) + 1) ∧ St s (M.bl i k) ∧ Up w wr ∧ Hid (y = k / 2 ^ i)) (fun _ _ iv _ => n + 2 - (intOf iv).toNat)
 case atStart => exact ⟨0, k, _, by omega, rfl, rfl, by go_num, St.nil, Up.refl _, by show _ = _; simp⟩
 case round =>
  obtain ⟨i, y, s, hi, rfl, rfl, rfl, HS, U, HY⟩ := hrel
  have HS2 := Lib.hid HS
  have hsz : s.size ≤ 64 := by rw [HS.size, M.bl_len]; omega
  by_cases hlt : i < n
  ·have d : decide ((i : Int) + 1 < (n : Int) + 1) = true := decide_eq_true (by omega)
   have hyb : y < 18446744073709551616 := by rw [HY.out]; exact Nat.lt_of_le_of_lt (Nat.div_le_self _ _) hk
   obtain ⟨b, hb⟩ : ∃ b, y % 2 = b := ⟨_, rfl⟩
   obtain ⟨y', hy'⟩ : ∃ y', y / 2 = y' := ⟨_, rfl⟩
   have q1 : (y : Int) % 2 = (b : Int) := by omega
   have q2 : (y : Int) / 2 = (y' : Int) := by omega
   have q3 : b < 2 := by omega
   obtain ⟨S, hS⟩ : ∃ S, dg b = S := ⟨_, rfl⟩
   have hst : St S [b] := by rw [← hS]; exact St.dg q3
   have hc := bit_up wr _ b (by omega) S hS (48 + (b : Int)) rfl (Up.refl _)
   have hS1 : S.size = 1 := hst.size
   have HST := Lib.hid hst
   have HY2 : Hid (y' = k / 2 ^ (i + 1)) := by
    show _ = _
    rw [← hy', HY.out, Nat.pow_succ, Nat.div_div_eq_div_mul]
   have HN : Hid (St (S ++ s) (M.bl (i + 1) k)) := by
    have h1 := (HST.out).app (HS2.out)
    have h2 := M.bl_app i 1 k
    rw [Nat.add_comm 1 i] at h2
    have h3 : M.bl 1 (k / 2 ^ i) = [b] := by rw [← HY.out]; simp [M.bl, hb]
    show St _ _
    rw [h2, h3]
    exact h1
   clear HS hS hst HY hb hy'
   go_wp2_with fail
   go_roundw
   case rel => exact ⟨i + 1, y', S ++ s, hlt, rfl, rfl, by go_num, HN.out, U.alloc _, HY2⟩
   case measure => simp [intOf]; omega
  ·obtain rfl : i = n := by omega
   have d : decide ((i : Int) + 1 < (i : Int) + 1) = false := decide_eq_false (by omega)
   have hy0 : ((y : Int) == 0) = decide (k < 2 ^ i) := by
    rw [Bool.eq_iff_iff, decide_eq_true_iff, beq_iff_eq, HY.out]
    have h1 : k / 2 ^ i = 0 ↔ k < 2 ^ i := Nat.div_eq_zero_iff_lt (M.p2 i)
    rw [← h1]
    omega
   clear HS HY hlt
   go_wp2_with fail
   go_ret2
   exact ⟨s, rfl, HS2.out, U⟩
namespace M
theorem vl_rep0 : ∀ n, vl (List.replicate n 0) = 0
 | 0 => rfl
 | n + 1 => by rw [List.replicate_succ', vl_snoc, vl_rep0 n]
theorem vl_rep1 : ∀ n, vl (List.replicate n 1) + 1 = 2 ^ n
 | 0 => rfl
 | n + 1 => by rw [List.replicate_succ', vl_snoc, p2s, ← vl_rep1 n]; omega
theorem bl_of {n k : Nat} {l : List Nat} (h : ∀ b ∈ l, b < 2) (hn : l.length = n) (hk : vl l = k) : bl n k = l := by
 subst hn hk
 exact bl_vl h
theorem Ps.bits {n k r q : Nat} {R : Int} (h : Ps n k R r q) :
  (∃ b g, b < 2 ∧ 1 ≤ g ∧ g + 1 + r = n ∧ bl n k = List.replicate g b ++ ([1 - b] ++ bl r q) ∧ ((b = 0 ∧ R = -(g : Int)) ∨ (b = 1 ∧ R = (g : Int) - 1))) ∨ (bl n k = List.replicate n 1 ∧ 2 ≤ n ∧ r = 0 ∧ q = 0 ∧ R = (n : Int) - 1) := by
 obtain ⟨hq, h | h | h⟩ := h
 ·obtain ⟨rfl, h1, rfl⟩ := h
  refine .inl ⟨0, n - 1 - r, by decide, by omega, by omega, ?_, .inl ⟨rfl, by omega⟩⟩
  refine bl_of (fun b hb => ?_) (by simp [bl_len]; omega) ?_
  ·simp only [List.mem_append, List.mem_replicate, List.mem_singleton] at hb
   rcases hb with ⟨_, rfl⟩ | rfl | hb
   ·decide
   ·decide
   ·exact bl_two _ _ b hb
  ·rw [vl_app, vl_rep0, vl_app, vl_bl, bl_len, Nat.mod_eq_of_lt hq]
   simp [vl]
 ·obtain ⟨h0, h1, rfl⟩ := h
  refine .inl ⟨1, n - 1 - r, by decide, by omega, by omega, ?_, .inr ⟨rfl, by omega⟩⟩
  refine bl_of (fun b hb => ?_) (by simp [bl_len]; omega) ?_
  ·simp only [List.mem_append, List.mem_replicate, List.mem_singleton] at hb
   rcases hb with ⟨_, rfl⟩ | rfl | hb
   ·decide
   ·decide
   ·exact bl_two _ _ b hb
  ·rw [vl_app, vl_app, vl_bl, bl_len, Nat.mod_eq_of_lt hq]
   have e := vl_rep1 (n - 1 - r)
   have e2 : 2 ^ n = 2 ^ (n - 1 - r) * 2 ^ (r + 1) := by rw [← Nat.pow_add, show n - 1 - r + (r + 1) = n by omega]
   have e3 : ([1 - 1] ++ bl r q).length = r + 1 := by rw [List.length_append, bl_len]; simp; omega
   rw [e3]
   rw [← e, Nat.add_mul, Nat.one_mul] at e2
   simp [vl] at e2 ⊢
   omega
 ·obtain ⟨h0, rfl, h1, rfl⟩ := h
  have h2 : q = 0 := by simpa using hq
  refine .inr ⟨bl_of (fun b hb => ?_) (by simp) ?_, h1, rfl, h2, rfl⟩
  ·rw [List.mem_replicate] at hb
   omega
  ·have := vl_rep1 n
   omega
theorem vl_ex {r q : Nat} (h : q < 2 ^ r) : vl ((bl r q ++ [0, 0]).take 2) = ex r q := by
 rcases (show r = 0 ∨ r = 1 ∨ 2 ≤ r by omega) with rfl | rfl | h2
 ·obtain rfl : q = 0 := by simpa using h
  decide
 ·have : q < 2 := by simpa using h
  rcases (show q = 0 ∨ q = 1 by omega) with rfl | rfl <;> decide
 ·obtain ⟨b, rfl⟩ : ∃ b, r = b + 2 := ⟨r - 2, by omega⟩
  have e := bl_app b 2 q
  rw [Nat.add_comm 2 b] at e
  rw [e, List.append_assoc, List.take_append_of_le_length (by rw [bl_len]; omega), List.take_of_length_le (by rw [bl_len]; omega), vl_bl]
  unfold ex
  rw [if_pos h2, Nat.add_sub_cancel]
  apply Nat.mod_eq_of_lt
  rw [Nat.div_lt_iff_lt_mul (p2 b)]
  rw [p2s, p2s] at h
  omega
theorem vl_fr {r q : Nat} (h : 2 ≤ r) : vl ((bl r q).drop 2) = fr r q := by
 obtain ⟨b, rfl⟩ : ∃ b, r = b + 2 := ⟨r - 2, by omega⟩
 have e := bl_app b 2 q
 rw [Nat.add_comm 2 b] at e
 rw [e, List.drop_append_of_le_length (by rw [bl_len]; omega), List.drop_of_length_le (by rw [bl_len]; omega), List.nil_append, vl_bl]
 rfl
end M
theorem St.ext {s : ByteArray} {l : List Nat} (h : St s l) (i j : Nat) (hj : j ≤ s.size) : St (s.extract i j) ((l.drop i).take (j - i)) := by
 have hs := h.size
 have hz : (s.extract i j).size = j - i := by rw [ByteArray.size_extract]; omega
 refine ⟨by rw [hz, List.length_take, List.length_drop]; omega, fun k hk => ?_, fun x hx => h.two x (List.mem_of_mem_drop (List.mem_of_mem_take hx))⟩
 rw [ByteArray.getElem_extract, h.at_ (i + k) (by omega), List.getD_eq_getElem?_getD, List.getD_eq_getElem?_getD, List.getElem?_take_of_lt (by omega), List.getElem?_drop]
theorem St.noughts : St ⟨#[48, 48]⟩ [0, 0] := by
 refine ⟨rfl, fun i hi => ?_, fun x hx => by simp at hx; omega⟩
 have h2 : (⟨#[48, 48]⟩ : ByteArray).size = 2 := rfl
 rcases (show i = 0 ∨ i = 1 by omega) with rfl | rfl <;> rfl
abbrev fdv (R E : Int) (F : Nat) (B : Int) : Value := .agg #[.int .i64 R, .int .i64 E, u64 F, .int .i64 B]
theorem St.get {s : ByteArray} {l : List Nat} (h : St s l) {i b : Nat} (hi : i < s.size) (hb : l.getD i 0 = b) : ((s[i]).toNat : Int) = 48 + (b : Int) := by
 have := h.at_ i hi
 rw [hb] at this
 omega
theorem rep_get {g b r : Nat} {m : List Nat} {i : Nat} (h : i < g) : (List.replicate g b ++ m).getD i r = b := by
 rw [List.getD_eq_getElem?_getD, List.getElem?_append_left (by simpa using h)]
 simp [h]
theorem rep_end {g b r c : Nat} {m : List Nat} : (List.replicate g b ++ ([c] ++ m)).getD g r = c := by
 rw [List.getD_eq_getElem?_getD, List.getElem?_append_right (by simp)]
 simp
set_option maxRecDepth 100000 in
theorem rsplit_run (w : World) (n k r q : Nat) (R : Int) (hn : n ≤ 64) (hP : M.Ps n k R r q) (b g : Nat) (hb : b < 2) (hg : 1 ≤ g) (hgr : g + 1 + r = n) (hbl : M.bl n k = List.replicate g b ++ ([1 - b] ++ M.bl r q)) (hR : (b = 0 ∧ R = -(g : Int)) ∨ (b = 1 ∧ R = (g : Int) - 1)) (E F : Nat) (B : Int) (hE : Hid (M.ex r q = E)) (hF : Hid (M.fr r q = F)) (hB : Hid (((r - 2 : Nat) : Int) = B)) :
  Calls Tryz.prog 153 #[.int .i64 ((n : Int) + 1), u64 k] w (fun e w' => e = .returned (.tuple #[fdv R E F B, .bool true]) ∧ Up w w') := by
 have rg := hP.rng
 have h64 : 2 ^ n ≤ 18446744073709551616 := M.p2le (b := 64) hn
 have hk2 : decide (k < 2 ^ n) = true := decide_eq_true rg.2.1
 have CB := Lib.hid (fun W => rbits_in W n k rg.2.2.1 hn rg.1 (by omega))
 rw [hk2, hbl] at CB
 obtain ⟨c, hc⟩ : ∃ c, 1 - b = c := ⟨_, rfl⟩
 rw [hc] at CB
 have hcb : ((48 + (c : Int)) == 48 + (b : Int)) = false := by rw [beq_eq_false_iff_ne]; omega
 have HQ := Lib.hid hP.1
 have HQ0 : Hid (r = 0 → q = 0) := fun e => by have := hP.1; rw [e] at this; simpa using this
 clear rg h64 hk2 hbl hP
 go_enter Tryz.func153, Tryz.ntmps153
 go_wp2_with fail
 refine (CB.out _).mono ?_
 rintro _ w1 ⟨s, rfl, HS, U1⟩
 have U : Up w w1 := ((Up.refl w).alloc _).trans U1
 have a := (Ob.mk_ w 168 #[.int .i64 0, .int .i64 0, .int .u64 0, .int .i64 0]).up U1
 have hsz : s.size = n := by rw [HS.size]; simp [M.bl_len]; omega
 have hpos : 0 < s.size := by omega
 have h0 := HS.get hpos (rep_get (by omega))
 have HS2 := Lib.hid HS
 have HST : Hid (St (s.extract (g + 1) n) (M.bl r q)) := by
  have h := HS.ext (g + 1) n (by omega)
  have e : ((List.replicate g b ++ ([c] ++ M.bl r q)).drop (g + 1)).take (n - (g + 1)) = M.bl r q := by
   rw [← List.append_assoc, List.drop_append_of_le_length (by simp), List.drop_of_length_le (by simp), List.nil_append, List.take_of_length_le (by rw [M.bl_len]; omega)]
  rw [e] at h
  exact h
 clear HS CB U1
 go_wp2_with fail
 go_loopw [8] (fun jv wr => ∃ j : Nat, j ≤ g ∧ jv = .int .i64 (j : Int) ∧ Up w1 wr) (fun jv _ => g - (intOf jv).toNat)
 case atStart => exact ⟨0, by omega, rfl, Up.refl _⟩
 case round =>
  obtain ⟨j, hj, rfl, U2⟩ := hrel
  have hjs : j < s.size := by omega
  have hjn : j < n := by omega
  rcases (show j < g ∨ j = g by omega) with hlt | rfl
  ·have hjb := HS2.out.get hjs (rep_get hlt)
   go_wp2_with fail
   go_quiet (fail)
   go_wp2_with fail
   go_roundw
   case rel => exact ⟨j + 1, hlt, by go_num, by first | exact U2 | exact U2.drewN _⟩
   case measure => simp [intOf]; omega
  ·have hjb := HS2.out.get hjs rep_end
   go_wp2_with fail
   go_quiet (fail)
   obtain ⟨wq, hwq⟩ : ∃ wq, wr.drewN nq = wq := ⟨_, rfl⟩
   have Uq : Up w wq := by rw [← hwq]; exact (U.trans U2).drewN _
   replace a := (a.up U2).drewN nq
   rw [hwq] at a ⊢
   clear hwq U U2 hjb hj
   rcases hR with ⟨rfl, rfl⟩ | ⟨rfl, rfl⟩
   ·rcases (show r = 0 ∨ (1 ≤ r ∧ r ≤ 2) ∨ 3 ≤ r by omega) with h | h | h
    ·obtain rfl : r = 0 := h
     have CE := Lib.hid (fun W => rnum_any W _ _ ((St.nil.app St.noughts).ext 0 2 (by decide)) (by decide) 0 (by show _ = _; decide))
     obtain rfl : E = 0 := by rw [← hE.out, show q = 0 from HQ0.out rfl]; rfl
     obtain rfl : F = 0 := by rw [← hF.out, show q = 0 from HQ0.out rfl]; rfl
     obtain rfl : B = 0 := by rw [← hB.out]; rfl
     go_wp2_with fail
     refine (CE.out _).mono ?_
     rintro _ _ ⟨rfl, rfl⟩
     go_wp2_with (refine store_ob rfl 168 (.tmp 4) (.tmp 71) rfl _ _ #[.int .i64 (-(j : Int)), .int .i64 0, .int .u64 0, .int .i64 (0)] rfl rfl 4 (by kernel_rfl) rfl rfl (by simp [Value.oneCell']) w (Uq.alloc _) (Nat.le_refl _) 168 (a.up ((Up.refl _).alloc _)) ?_; clear Uq; intro V z Uv)
     obtain ⟨z0, z1, z2, z3⟩ := z.g4
     refine bodyPost_ret (v := .tuple #[fdv (-(j : Int)) 0 0 (0), .bool true]) (by simp [results, Tryz.results153, go_sem, z0, z1, z2, z3]) rfl ?_
     exact ⟨rfl, Uv⟩
    ·have hT := HST.out
     obtain ⟨T, hTT⟩ : ∃ T, s.extract (j + 1) n = T := ⟨_, rfl⟩
     rw [hTT] at hT
     have hTs : T.size = r := by rw [hT.size, M.bl_len]
     have CE := Lib.hid (fun W => rnum_any W _ _ ((hT.app St.noughts).ext 0 2 (by rw [ByteArray.size_append]; exact Nat.le_add_left 2 _)) (by first | (simp; done) | (simp; omega)) (M.ex r q) (by show _ = _; rw [List.drop_zero]; exact M.vl_ex HQ.out))
     obtain rfl : F = 0 := by rw [← hF.out]; unfold M.fr; rw [show r - 2 = 0 by omega]; exact Nat.mod_one q
     obtain rfl : B = 0 := by rw [← hB.out]; omega
     have hr3 : ¬ 2 < r := by omega
     have hE3 : E ≤ 3 := by rw [← hE.out]; exact M.ex_le HQ.out
     rw [hE.out] at CE
     clear hT
     go_wp2_with fail
     refine (CE.out _).mono ?_
     rintro _ _ ⟨rfl, rfl⟩
     go_wp2_with (refine store_ob rfl 168 (.tmp 4) (.tmp 71) rfl _ _ #[.int .i64 (-(j : Int)), .int .i64 (E : Int), .int .u64 0, .int .i64 (0)] rfl rfl 4 (by kernel_rfl) rfl rfl (by simp [Value.oneCell']) w (Uq.alloc _) (Nat.le_refl _) 168 (a.up ((Up.refl _).alloc _)) ?_; clear Uq; intro V z Uv)
     obtain ⟨z0, z1, z2, z3⟩ := z.g4
     refine bodyPost_ret (v := .tuple #[fdv (-(j : Int)) (E : Int) 0 (0), .bool true]) (by simp [results, Tryz.results153, go_sem, z0, z1, z2, z3]) rfl ?_
     exact ⟨rfl, Uv⟩
    ·have hT := HST.out
     obtain ⟨T, hTT⟩ : ∃ T, s.extract (j + 1) n = T := ⟨_, rfl⟩
     rw [hTT] at hT
     have hTs : T.size = r := by rw [hT.size, M.bl_len]
     have CE := Lib.hid (fun W => rnum_any W _ _ ((hT.app St.noughts).ext 0 2 (by rw [ByteArray.size_append]; exact Nat.le_add_left 2 _)) (by first | (simp; done) | (simp; omega)) (M.ex r q) (by show _ = _; rw [List.drop_zero]; exact M.vl_ex HQ.out))
     have CF := Lib.hid (fun W => rnum_any W _ _ (hT.ext 2 r (by omega)) (by simp [M.bl_len]; omega) (M.fr r q) (by show _ = _; rw [List.take_of_length_le (by simp [M.bl_len])]; exact M.vl_fr (by omega)))
     rw [hF.out] at CF
     obtain rfl : B = (r : Int) - 2 := by rw [← hB.out]; omega
     have hr3 : 2 < r := by omega
     have hE3 : E ≤ 3 := by rw [← hE.out]; exact M.ex_le HQ.out
     rw [hE.out] at CE
     clear hT
     go_wp2_with fail
     refine (CE.out _).mono ?_
     rintro _ _ ⟨rfl, rfl⟩
     go_wp2_with fail
     refine (CF.out _).mono ?_
     rintro _ _ ⟨rfl, rfl⟩
     go_wp2_with (refine store_ob rfl 168 (.tmp 4) (.tmp 71) rfl _ _ #[.int .i64 (-(j : Int)), .int .i64 (E : Int), .int .u64 (F : Int), .int .i64 ((r : Int) - 2)] rfl rfl 4 (by kernel_rfl) rfl rfl (by simp [Value.oneCell']) w (Uq.alloc _) (Nat.le_refl _) 168 (a.up ((Up.refl _).alloc _)) ?_; clear Uq; intro V z Uv)
     obtain ⟨z0, z1, z2, z3⟩ := z.g4
     refine bodyPost_ret (v := .tuple #[fdv (-(j : Int)) (E : Int) F ((r : Int) - 2), .bool true]) (by simp [results, Tryz.results153, go_sem, z0, z1, z2, z3]) rfl ?_
     exact ⟨rfl, Uv⟩
   ·rcases (show r = 0 ∨ (1 ≤ r ∧ r ≤ 2) ∨ 3 ≤ r by omega) with h | h | h
    ·obtain rfl : r = 0 := h
     have CE := Lib.hid (fun W => rnum_any W _ _ ((St.nil.app St.noughts).ext 0 2 (by decide)) (by decide) 0 (by show _ = _; decide))
     obtain rfl : E = 0 := by rw [← hE.out, show q = 0 from HQ0.out rfl]; rfl
     obtain rfl : F = 0 := by rw [← hF.out, show q = 0 from HQ0.out rfl]; rfl
     obtain rfl : B = 0 := by rw [← hB.out]; rfl
     go_wp2_with fail
     refine (CE.out _).mono ?_
     rintro _ _ ⟨rfl, rfl⟩
     go_wp2_with (refine store_ob rfl 168 (.tmp 4) (.tmp 71) rfl _ _ #[.int .i64 ((j : Int) - 1), .int .i64 0, .int .u64 0, .int .i64 (0)] rfl rfl 4 (by kernel_rfl) rfl rfl (by simp [Value.oneCell']) w (Uq.alloc _) (Nat.le_refl _) 168 (a.up ((Up.refl _).alloc _)) ?_; clear Uq; intro V z Uv)
     obtain ⟨z0, z1, z2, z3⟩ := z.g4
     refine bodyPost_ret (v := .tuple #[fdv ((j : Int) - 1) 0 0 (0), .bool true]) (by simp [results, Tryz.results153, go_sem, z0, z1, z2, z3]) rfl ?_
     exact ⟨rfl, Uv⟩
    ·have hT := HST.out
     obtain ⟨T, hTT⟩ : ∃ T, s.extract (j + 1) n = T := ⟨_, rfl⟩
     rw [hTT] at hT
     have hTs : T.size = r := by rw [hT.size, M.bl_len]
     have CE := Lib.hid (fun W => rnum_any W _ _ ((hT.app St.noughts).ext 0 2 (by rw [ByteArray.size_append]; exact Nat.le_add_left 2 _)) (by first | (simp; done) | (simp; omega)) (M.ex r q) (by show _ = _; rw [List.drop_zero]; exact M.vl_ex HQ.out))
     obtain rfl : F = 0 := by rw [← hF.out]; unfold M.fr; rw [show r - 2 = 0 by omega]; exact Nat.mod_one q
     obtain rfl : B = 0 := by rw [← hB.out]; omega
     have hr3 : ¬ 2 < r := by omega
     have hE3 : E ≤ 3 := by rw [← hE.out]; exact M.ex_le HQ.out
     rw [hE.out] at CE
     clear hT
     go_wp2_with fail
     refine (CE.out _).mono ?_
     rintro _ _ ⟨rfl, rfl⟩
     go_wp2_with (refine store_ob rfl 168 (.tmp 4) (.tmp 71) rfl _ _ #[.int .i64 ((j : Int) - 1), .int .i64 (E : Int), .int .u64 0, .int .i64 (0)] rfl rfl 4 (by kernel_rfl) rfl rfl (by simp [Value.oneCell']) w (Uq.alloc _) (Nat.le_refl _) 168 (a.up ((Up.refl _).alloc _)) ?_; clear Uq; intro V z Uv)
     obtain ⟨z0, z1, z2, z3⟩ := z.g4
     refine bodyPost_ret (v := .tuple #[fdv ((j : Int) - 1) (E : Int) 0 (0), .bool true]) (by simp [results, Tryz.results153, go_sem, z0, z1, z2, z3]) rfl ?_
     exact ⟨rfl, Uv⟩
    ·have hT := HST.out
     obtain ⟨T, hTT⟩ : ∃ T, s.extract (j + 1) n = T := ⟨_, rfl⟩
     rw [hTT] at hT
     have hTs : T.size = r := by rw [hT.size, M.bl_len]
     have CE := Lib.hid (fun W => rnum_any W _ _ ((hT.app St.noughts).ext 0 2 (by rw [ByteArray.size_append]; exact Nat.le_add_left 2 _)) (by first | (simp; done) | (simp; omega)) (M.ex r q) (by show _ = _; rw [List.drop_zero]; exact M.vl_ex HQ.out))
     have CF := Lib.hid (fun W => rnum_any W _ _ (hT.ext 2 r (by omega)) (by simp [M.bl_len]; omega) (M.fr r q) (by show _ = _; rw [List.take_of_length_le (by simp [M.bl_len])]; exact M.vl_fr (by omega)))
     rw [hF.out] at CF
     obtain rfl : B = (r : Int) - 2 := by rw [← hB.out]; omega
     have hr3 : 2 < r := by omega
     have hE3 : E ≤ 3 := by rw [← hE.out]; exact M.ex_le HQ.out
     rw [hE.out] at CE
     clear hT
     go_wp2_with fail
     refine (CE.out _).mono ?_
     rintro _ _ ⟨rfl, rfl⟩
     go_wp2_with fail
     refine (CF.out _).mono ?_
     rintro _ _ ⟨rfl, rfl⟩
     go_wp2_with (refine store_ob rfl 168 (.tmp 4) (.tmp 71) rfl _ _ #[.int .i64 ((j : Int) - 1), .int .i64 (E : Int), .int .u64 (F : Int), .int .i64 ((r : Int) - 2)] rfl rfl 4 (by kernel_rfl) rfl rfl (by simp [Value.oneCell']) w (Uq.alloc _) (Nat.le_refl _) 168 (a.up ((Up.refl _).alloc _)) ?_; clear Uq; intro V z Uv)
     obtain ⟨z0, z1, z2, z3⟩ := z.g4
     refine bodyPost_ret (v := .tuple #[fdv ((j : Int) - 1) (E : Int) F ((r : Int) - 2), .bool true]) (by simp [results, Tryz.results153, go_sem, z0, z1, z2, z3]) rfl ?_
     exact ⟨rfl, Uv⟩
def Fdb (R E : Int) (F : Nat) (B : Int) (t : Bool) (w : World) (e : Ending) (w' : World) : Prop := e = .returned (.tuple #[fdv R E F B, .bool t]) ∧ Up w w'
set_option maxRecDepth 100000 in
theorem rsplit_full (w : World) (n k : Nat) (hn : n ≤ 64) (hn2 : 2 ≤ n) (hk : k < 2 ^ n) (hk0 : 0 < k) (hbl : M.bl n k = List.replicate n 1) :
  Calls Tryz.prog 153 #[.int .i64 ((n : Int) + 1), u64 k] w (Fdb ((n : Int) - 1) 0 0 0 true w) := by
 have h64 : 2 ^ n ≤ 18446744073709551616 := M.p2le (b := 64) hn
 have hk2 : decide (k < 2 ^ n) = true := decide_eq_true hk
 have CB := Lib.hid (fun W => rbits_in W n k hn2 hn hk0 (by omega))
 rw [hk2, hbl] at CB
 clear h64 hk2 hbl hk hk0
 go_enter Tryz.func153, Tryz.ntmps153
 go_wp2_with fail
 refine (CB.out _).mono ?_
 rintro _ w1 ⟨s, rfl, HS, U1⟩
 have U : Up w w1 := ((Up.refl w).alloc _).trans U1
 have a := (Ob.mk_ w 168 #[.int .i64 0, .int .i64 0, .int .u64 0, .int .i64 0]).up U1
 have hsz : s.size = n := by rw [HS.size]; simp
 have hpos : 0 < s.size := by omega
 have hg : ∀ (j : Nat), j < n → (List.replicate n 1).getD j 0 = 1 := fun j hj => by simp [List.getD_eq_getElem?_getD, hj]
 have h0 := HS.get hpos (hg 0 (by omega))
 have HS2 := Lib.hid HS
 have HG := Lib.hid hg
 clear HS CB U1 hg
 go_wp2_with fail
 go_loopw [8] (fun jv wr => ∃ j : Nat, j ≤ n ∧ jv = .int .i64 (j : Int) ∧ Up w1 wr) (fun jv _ => n - (intOf jv).toNat)
 case atStart => exact ⟨0, by omega, rfl, Up.refl _⟩
 case round =>
  obtain ⟨j, hj, rfl, U2⟩ := hrel
  rcases (show j < n ∨ j = n by omega) with hlt | rfl
  ·have hjs : j < s.size := by omega
   have hjb := HS2.out.get hjs (HG.out j hlt)
   go_wp2_with fail
   go_quiet (fail)
   go_wp2_with fail
   go_roundw
   case rel => exact ⟨j + 1, hlt, by go_num, by first | exact U2 | exact U2.drewN _⟩
   case measure => simp [intOf]; omega
  ·go_wp2_with fail
   go_quiet (fail)
   obtain ⟨wq, hwq⟩ : ∃ wq, wr.drewN nq = wq := ⟨_, rfl⟩
   have Uq : Up w wq := by rw [← hwq]; exact (U.trans U2).drewN _
   replace a := (a.up U2).drewN nq
   rw [hwq] at a ⊢
   clear hwq U U2 hj
   have CE := Lib.hid (fun W => rnum_any W _ _ ((St.nil.app St.noughts).ext 0 2 (by decide)) (by decide) 0 (by show _ = _; decide))
   go_wp2_with fail
   refine (CE.out _).mono ?_
   rintro _ _ ⟨rfl, rfl⟩
   go_wp2_with (refine store_ob rfl 168 (.tmp 4) (.tmp 71) rfl _ _ #[.int .i64 ((j : Int) - 1), .int .i64 0, .int .u64 0, .int .i64 (0)] rfl rfl 4 (by kernel_rfl) rfl rfl (by simp [Value.oneCell']) w (Uq.alloc _) (Nat.le_refl _) 168 (a.up ((Up.refl _).alloc _)) ?_; clear Uq; intro V z Uv)
   obtain ⟨z0, z1, z2, z3⟩ := z.g4
   refine bodyPost_ret (v := .tuple #[fdv ((j : Int) - 1) 0 0 (0), .bool true]) (by simp [results, Tryz.results153, go_sem, z0, z1, z2, z3]) rfl ?_
   exact ⟨rfl, Uv⟩
theorem rsplit_in (w : World) (n k r q : Nat) (R : Int) (hn : n ≤ 64) (h : M.Ps n k R r q) (E F : Nat) (B : Int) (hE : Hid (M.ex r q = E)) (hF : Hid (M.fr r q = F)) (hB : Hid (((r - 2 : Nat) : Int) = B)) :
  Calls Tryz.prog 153 #[.int .i64 ((n : Int) + 1), u64 k] w (Fdb R E F B true w) := by
 have rg := h.rng
 rcases h.bits with ⟨b, g, hb, hg, hgr, hbl, hR⟩ | ⟨hbl, h2, rfl, rfl, rfl⟩
 ·exact rsplit_run w n k r q R hn h b g hb hg hgr hbl hR E F B hE hF hB
 ·obtain rfl : E = 0 := hE.out.symm
  obtain rfl : F = 0 := hF.out.symm
  obtain rfl : B = 0 := hB.out.symm
  exact rsplit_full w n k hn h2 rg.2.1 rg.1 hbl
def V3 (m : Nat) (z : Int) (t : Bool) (w : World) (e : Ending) (w' : World) : Prop := e = .returned (.tuple #[u64 m, .int .i64 z, .bool t]) ∧ Up w w'
set_option maxRecDepth 100000 in
theorem rvalue_in (w : World) (n k r q : Nat) (R : Int) (hn : n ≤ 64) (h : M.Ps n k R r q) (X m t : Nat) (hX : Hid (2 ^ (r - 2) + M.fr r q = X)) (hm : Hid (X = m * 2 ^ t)) (hodd : m % 2 = 1) (z : Int) (hz : Hid (4 * R + M.ex r q - (r - 2 : Nat) + t = z)) :
    Calls Tryz.prog 110 #[.int .i64 ((n : Int) + 1), u64 k] w (V3 m z true w) := by
  have rg := h.rng
  obtain ⟨E, hE⟩ : ∃ E, M.ex r q = E := ⟨_, rfl⟩
  have hE3 : E ≤ 3 := by rw [← hE]; exact M.ex_le h.1
  obtain ⟨F, hF⟩ : ∃ F, M.fr r q = F := ⟨_, rfl⟩
  obtain ⟨B, hB⟩ : ∃ B, r - 2 = B := ⟨_, rfl⟩
  have hFB : F < 2 ^ B := by rw [← hF, ← hB]; exact M.fr_lt r q
  have hB62 : B ≤ 62 := by omega
  have CS := Lib.hid (fun W => rsplit_in W n k r q R hn h E F (B : Int) (Lib.hid hE) (Lib.hid hF) (Lib.hid (by rw [hB])))
  have hX2 := hX.out
  have hz2 := hz.out
  rw [hF, hB] at hX2
  rw [hE, hB] at hz2
  have p62 : 2 ^ B ≤ 2 ^ 62 := M.p2le hB62
  have c62 : (2 : Nat) ^ 62 = 4611686018427387904 := by decide
  have HX2 := Lib.hid hX2
  have HZ2 := Lib.hid hz2
  have bX : X < 9223372036854775808 := by omega
  have bF : F < 4611686018427387904 := by omega
  have tX : t ≤ 64 := by
    have h1 : 2 ^ t ≤ X := by rw [hm.out]; exact Nat.le_mul_of_pos_left _ (by omega)
    have h2 : t < 64 := M.p2inj (by have : (2 : Nat) ^ 64 = 18446744073709551616 := by decide
                                    omega)
    omega
  have R1 : -64 ≤ R := by omega
  have R2 : R ≤ 64 := by omega
  clear hX hz hX2 hz2 hE hF hB hFB p62 c62 h rg
  go_enter Tryz.func110, Tryz.ntmps110
  go_wp2_with fail
  refine (CS.out _).mono ?_
  rintro _ w1 ⟨rfl, U⟩
  clear CS
  go_wp2_with fail
  obtain ⟨V, hV⟩ : ∃ V, w1.alloc (.cells #[.int .i64 R, .int .i64 E, .int .u64 F, .int .i64 B] 168) = V := ⟨_, rfl⟩
  have a : Ob V w1.heap.size 168 #[.int .i64 R, .int .i64 E, .int .u64 F, .int .i64 B] := by rw [← hV]; exact Ob.mk_ _ _ _
  replace U : Up w V := by rw [← hV]; exact U.alloc _
  rw [hV]
  clear hV
  obtain ⟨a0, a1, a2, a3⟩ := a.g4
  go_wp2_with fail
  go_loop [10, 11] (fun ov iv => ∃ o i : Nat, ov = u64 o ∧ iv = .int .i64 (i : Int) ∧ i ≤ B ∧ o ≤ 4611686018427387904 ∧ Hid (o = 2 ^ i)) (fun _ iv => B - (intOf iv).toNat)
  case atStart => exact ⟨1, 0, rfl, rfl, by omega, by omega, rfl⟩
  case round =>
    obtain ⟨o, i, rfl, rfl, hi, ho, HO⟩ := hrel
    by_cases hlt : i < B
    · have HO2 : Hid (2 * o = 2 ^ (i + 1)) := by show _ = _; rw [HO.out, M.p2s]
      have ho2 : 2 * o ≤ 4611686018427387904 := by
        have h1 : 2 ^ (i + 1) ≤ 2 ^ 62 := M.p2le (by omega)
        have h2 := HO2.out
        have h3 : (2 : Nat) ^ 62 = 4611686018427387904 := by decide
        omega
      clear HO
      go_wp2_with fail
      go_round
      case rel => exact ⟨2 * o, i + 1, by go_num, by go_num, hlt, ho2, HO2⟩
      case measure => simp [intOf]; omega
    · have hX' : F + o = X := by
        have := HX2.out
        rw [HO.out, show i = B by omega]
        omega
      have hXi : (F : Int) + (o : Int) = (X : Int) := by omega
      clear HO hi
      have hX0 : 0 < X := by
        rw [hm.out]
        exact Nat.mul_pos (by omega) (M.p2 t)
      obtain ⟨e0, he0⟩ : ∃ e0, 4 * R + (E : Int) - (B : Int) = e0 := ⟨_, rfl⟩
      have be0 : -1000 ≤ e0 ∧ e0 ≤ 1000 := by omega
      have HE0 := Lib.hid he0
      have b4 : IntKind.i64.wrap (4 * R) = 4 * R := by simp [IntKind.wrap, IntKind.bits, IntKind.signed]; omega
      go_wp2_with fail
      go_loop [9, 12] (fun xv ev => ∃ (x : Nat) (y : Int) (s : Nat), xv = u64 x ∧ ev = .int .i64 y ∧ s ≤ t ∧ x ≤ X ∧ 0 < x ∧ Hid (x = m * 2 ^ (t - s)) ∧ y = e0 + s) (fun xv _ => (intOf xv).toNat)
      case atStart => exact ⟨X, e0, 0, by go_num, by first | rfl | (rw [HE0.out]) | (simp [HE0.out]), by omega, Nat.le_refl _, hX0, by show _ = _; rw [hm.out]; rfl, by omega⟩
      case round =>
        obtain ⟨x, y, s, rfl, rfl, hs, hxX, hx0, HX, hy⟩ := hrel
        by_cases hst : s < t
        · obtain ⟨x', hx'⟩ : ∃ x', x / 2 = x' := ⟨_, rfl⟩
          have h2 : x = 2 * (m * 2 ^ (t - (s + 1))) := by
            rw [HX.out, show t - s = (t - (s + 1)) + 1 by omega, M.p2s]
            ac_rfl
          have HX3 : Hid (x' = m * 2 ^ (t - (s + 1))) := by show _ = _; omega
          have q1 : (x : Int) % 2 = 0 := by omega
          have q2 : (x : Int) / 2 = (x' : Int) := by omega
          have q3 : x' < x ∧ 0 < x' := by omega
          clear h2 hx' HX
          go_wp2_with fail
          go_round
          case rel => exact ⟨x', y + 1, s + 1, rfl, by go_num, hst, by omega, q3.2, HX3, by omega⟩
          case measure => simp [intOf]; omega
        · have hxm : x = m := by rw [HX.out, show t - s = 0 by omega]; simp
          have q1 : (x : Int) % 2 = 1 := by omega
          have hyz : y = z := by have := HZ2.out; have := HE0.out; omega
          subst hxm hyz
          clear HX
          go_wp2_with fail
          go_ret3
          exact ⟨rfl, U⟩
namespace M
def IsK (n k m : Nat) (z : Int) : Prop := m % 2 = 1 ∧ ∃ (R : Int) (r q t : Nat), Ps n k R r q ∧ 2 ^ (r - 2) + fr r q = m * 2 ^ t ∧ 4 * R + ex r q - (r - 2 : Nat) + t = z
theorem IsK.rng {n k m : Nat} {z : Int} (hn : n ≤ 64) (h : IsK n k m z) : 0 < k ∧ k < 2 ^ n ∧ -1000 ≤ z ∧ z ≤ 1000 ∧ 0 < m ∧ m < 9223372036854775808 := by
  obtain ⟨ho, R, r, q, t, h1, h2, rfl⟩ := h
  have rg := h1.rng
  have h3 := ex_le h1.1
  have h4 := fr_lt r q
  have p62 : 2 ^ (r - 2) ≤ 2 ^ 62 := p2le (by omega)
  have c62 : (2 : Nat) ^ 62 = 4611686018427387904 := by decide
  have p1 : m ≤ m * 2 ^ t := Nat.le_mul_of_pos_right _ (p2 t)
  have p3 : 2 ^ t ≤ m * 2 ^ t := Nat.le_mul_of_pos_left _ (by omega)
  have t64 : t < 64 := p2inj (by have : (2 : Nat) ^ 64 = 18446744073709551616 := by decide
                                 omega)
  refine ⟨rg.1, rg.2.1, by omega, by omega, by omega, by omega⟩
theorem isk_ex {n k : Nat} (hn : 2 ≤ n) (h0 : 0 < k) (hk : k < 2 ^ n) : ∃ m z, IsK n k m z := by
 obtain ⟨R, r, q, h⟩ := ps_ex hn h0 hk
 obtain ⟨m, t, h1, h2⟩ := odd_ex (2 ^ (r - 2) + fr r q) (by have := p2 (r - 2); omega)
 exact ⟨m, _, h2, R, r, q, t, h, h1, rfl⟩
def vz (m : Nat) (z : Int) : Nat := m * 2 ^ (z + 1000).toNat
theorem IsK.vx {n k m : Nat} {z : Int} (hn : n ≤ 64) (h : IsK n k m z) : ∃ R r q, Ps n k R r q ∧ vx R r q = vz m z := by
 have g := h.rng hn
 obtain ⟨ho, R, r, q, t, h1, h2, h3⟩ := h
 refine ⟨R, r, q, h1, ?_⟩
 have rg := h1.rng
 have h4 := ex_le h1.1
 rw [vx_fields hn h1, h2, vz, Nat.mul_assoc, ← Nat.pow_add]
 congr 2
 omega
theorem isk_lt {n k k' m m' : Nat} {z z' : Int} (hn : n ≤ 64) (h : IsK n k m z) (h' : IsK n k' m' z') (hk : k < k') : vz m z < vz m' z' := by
 obtain ⟨R, r, q, a, b⟩ := h.vx hn
 obtain ⟨R', r', q', a', b'⟩ := h'.vx hn
 rw [← b, ← b']
 exact vx_lt hn a a' hk
theorem isk_uniq {n k m m' : Nat} {z z' : Int} (h : IsK n k m z) (h' : IsK n k m' z') : m = m' ∧ z = z' := by
 obtain ⟨ho, R, r, q, t, h1, h2, h3⟩ := h
 obtain ⟨ho', R', r', q', t', h1', h2', h3'⟩ := h'
 obtain ⟨rfl, rfl, rfl⟩ := ps_uniq h1 h1'
 obtain ⟨rfl, rfl⟩ := odd_uniq ho ho' (h2.symm.trans h2')
 exact ⟨rfl, by omega⟩
end M
theorem rvalue_k (w : World) (n k m : Nat) (z : Int) (hn : n ≤ 64) (h : M.IsK n k m z) : Calls Tryz.prog 110 #[.int .i64 ((n : Int) + 1), u64 k] w (V3 m z true w) := by
 obtain ⟨ho, R, r, q, t, h1, h2, h3⟩ := h
 exact rvalue_in w n k r q R hn h1 _ m t (Lib.hid rfl) (Lib.hid h2) ho z (Lib.hid h3)
structure Kr (n m : Nat) (z : Int) (key i : Nat) : Prop where
 fit : key + 2 ^ i ≤ 2 ^ n
 all : ∀ k, M.IsK n k m z → key ≤ k ∧ k < key + 2 ^ i
theorem Kr.start {n m : Nat} {z : Int} (hn : n ≤ 64) : Kr n m z 0 n := ⟨by omega, fun k h => ⟨Nat.zero_le _, by have := h.rng hn; omega⟩⟩
theorem Kr.stay {n m key i m' : Nat} {z z' : Int} (hn : n ≤ 64) (h : Kr n m z key (i + 1)) (h' : M.IsK n (key + 2 ^ i) m' z') (hv : M.vz m z < M.vz m' z') : Kr n m z key i := by
 have p := M.p2s i
 have f := h.fit
 refine ⟨by omega, fun k hk => ⟨(h.all k hk).1, ?_⟩⟩
 rcases Nat.lt_trichotomy k (key + 2 ^ i) with e | e | e
 ·exact e
 ·subst e
  obtain ⟨rfl, rfl⟩ := M.isk_uniq hk h'
  omega
 ·have := M.isk_lt hn h' hk e
  omega
namespace M
def IsF (n k : Nat) (R E : Int) (F : Nat) (B : Int) : Prop := ∃ r q, Ps n k R r q ∧ (ex r q : Int) = E ∧ fr r q = F ∧ ((r - 2 : Nat) : Int) = B
end M
def Jn (n : Nat) (R E : Int) (F : Nat) (B : Int) (w : World) (e : Ending) (w' : World) : Prop :=
 ∃ (k : Nat) (t : Bool), e = .returned (.tuple #[u64 k, .bool t]) ∧ Up w w' ∧ k < 18446744073709551616 ∧ (t = true → M.IsF n k R E F B) ∧ ∀ k', M.IsF n k' R E F B → t = true ∧ k = k'
theorem Jn.none {n F : Nat} {R E B : Int} {w w' : World} (U : Up w w') (h : ∀ k', ¬ M.IsF n k' R E F B) : Jn n R E F B w (.returned (.tuple #[u64 0, .bool false])) w' :=
 ⟨0, false, rfl, U, by decide, (fun h => by cases h), fun k' hk => absurd hk (h k')⟩
def Vn (m : Nat) (z x : Int) (w : World) (e : Ending) (w' : World) : Prop := e = .returned (.tuple #[u64 m, .int .i64 z, .int .i64 x]) ∧ Up w w'
def bad (wd : Int) (k : Nat) : Prop := wd < 3 ∨ 65 < wd ∨ k = 0 ∨ 2 ^ (wd - 1).toNat ≤ k
end Go.Proofs.YtijpffgocookaaaGreatDoor
