/-
  The reference of layer 5: bits as a text.
-/
import Derived.Test.YtjcbncfpcechnaaDoorPm
import Derived.Test.YtjcbncfpcechnaaDoorMem
import Derived.Laws.IdiomStrings
namespace Go.Proofs.YtjcbncfpcechnaaDoor
open Go.RowKit

namespace M
/-- The number of these bits, the highest first. -/
def vl (l : List Nat) : Nat := l.foldl (fun a b => 2 * a + b) 0
theorem vl_snoc (l : List Nat) (b : Nat) : vl (l ++ [b]) = 2 * vl l + b := by simp [vl, List.foldl_append]
theorem snoc_ind {α : Type} {p : List α → Prop} (h0 : p []) (h1 : ∀ l a, p l → p (l ++ [a])) (l : List α) : p l := by
  have h : ∀ m : List α, p m.reverse := by
    intro m
    induction m with
    | nil => exact h0
    | cons a m ih => rw [List.reverse_cons]; exact h1 _ _ ih
  have := h l.reverse
  rwa [List.reverse_reverse] at this
theorem vl_app (l m : List Nat) : vl (l ++ m) = vl l * 2 ^ m.length + vl m := by
  refine snoc_ind (p := fun m => vl (l ++ m) = vl l * 2 ^ m.length + vl m) (by simp [vl]) ?_ m
  · intro m b ih
    rw [← List.append_assoc, vl_snoc, vl_snoc, ih, List.length_append, List.length_singleton, p2s, Nat.mul_add]
    rw [Nat.mul_left_comm]
    omega
theorem vl_lt {l : List Nat} (h : ∀ b ∈ l, b < 2) : vl l < 2 ^ l.length := by
  revert h
  refine snoc_ind (p := fun l => (∀ b ∈ l, b < 2) → vl l < 2 ^ l.length) (fun _ => by simp [vl]) ?_ l
  · intro m b ih h
    have h1 := ih (fun x hx => h x (by simp [hx]))
    have h2 := h b (by simp)
    rw [vl_snoc, List.length_append, List.length_singleton, p2s]
    omega
/-- The n bits of k. -/
def bl : Nat → Nat → List Nat
  | 0, _ => []
  | n + 1, k => bl n (k / 2) ++ [k % 2]
theorem bl_len : ∀ n k, (bl n k).length = n
  | 0, _ => rfl
  | n + 1, k => by rw [bl, List.length_append, bl_len n]; rfl
theorem bl_two : ∀ n k, ∀ b ∈ bl n k, b < 2
  | 0, _ => by simp [bl]
  | n + 1, k => by
    intro b hb
    rw [bl, List.mem_append] at hb
    rcases hb with hb | hb
    · exact bl_two n _ b hb
    · simp at hb; omega
theorem vl_bl : ∀ n k, vl (bl n k) = k % 2 ^ n
  | 0, k => by simp [bl, vl, Nat.mod_one]
  | n + 1, k => by
    rw [bl, vl_snoc, vl_bl n, p2s, Nat.mod_mul]
    omega
theorem bl_app : ∀ m n k, bl (n + m) k = bl n (k / 2 ^ m) ++ bl m k
  | 0, n, k => by simp [bl]
  | m + 1, n, k => by
    rw [show n + (m + 1) = (n + m) + 1 by omega, bl, bl_app m n, bl, List.append_assoc, Nat.div_div_eq_div_mul, p2s]
theorem bl_vl {l : List Nat} (h : ∀ b ∈ l, b < 2) : bl l.length (vl l) = l := by
  revert h
  refine snoc_ind (p := fun l => (∀ b ∈ l, b < 2) → bl l.length (vl l) = l) (fun _ => rfl) ?_ l
  · intro m b ih h
    have h1 := ih (fun x hx => h x (by simp [hx]))
    have h2 := h b (by simp)
    rw [List.length_append, List.length_singleton, bl, vl_snoc, show (2 * vl m + b) / 2 = vl m by omega, show (2 * vl m + b) % 2 = b by omega, h1]
end M

/-- The text s is of these bits. -/
structure St (s : ByteArray) (l : List Nat) : Prop where
  size : s.size = l.length
  at_ : ∀ (i : Nat) (h : i < s.size), (s[i]).toNat = 48 + l.getD i 0
  two : ∀ b ∈ l, b < 2
theorem St.bit {s : ByteArray} {l : List Nat} (h : St s l) (i : Nat) : l.getD i 0 < 2 := by
  rw [List.getD_eq_getElem?_getD]
  rcases Nat.lt_or_ge i l.length with hi | hi
  · rw [List.getElem?_eq_getElem hi]
    exact h.two _ (List.getElem_mem hi)
  · rw [List.getElem?_eq_none hi]
    decide

set_option maxHeartbeats 1000000 in
theorem rnum_any (w : World) (s : ByteArray) (l : List Nat) (h : St s l) (hl : l.length ≤ 64) (z : Nat) (hz : Hid (M.vl l = z)) : Calls Tryd.prog 68 #[.string s] w (Same (u64 z) w) := by
  have H := Lib.hid h
  have HL := Lib.hid hl
  have hsz : s.size ≤ 64 := by rw [h.size]; exact hl
  clear h hl
  go_enter Tryd.func68, Tryd.ntmps68
  go_wp2_with fail
  go_loop [3, 4] (fun xv iv => ∃ (x i : Nat), xv = u64 x ∧ iv = .int .i64 (i : Int) ∧ i ≤ s.size ∧ Hid (x = M.vl (l.take i))) (fun _ iv => s.size - (intOf iv).toNat)
  case atStart => exact ⟨0, 0, rfl, rfl, Nat.zero_le _, rfl⟩
  case round =>
    obtain ⟨x, i, rfl, rfl, hi, HX⟩ := hrel
    by_cases hlt : i < s.size
    · have h := H.out
      obtain ⟨b, hb⟩ : ∃ b, l.getD i 0 = b := ⟨_, rfl⟩
      have hb2 := h.bit i
      have hat := h.at_ i hlt
      rw [hb] at hb2 hat
      have hc : ((s[i]).toNat : Int) = 48 + (b : Int) := by omega
      have htake : l.take (i + 1) = l.take i ++ [b] := by
        rw [List.take_add_one, ← hb, List.getD_eq_getElem?_getD, List.getElem?_eq_getElem (by have := h.size; omega)]
        rfl
      have hx64 : 2 * x + b < 18446744073709551616 := by
        have h1 : M.vl (l.take (i + 1)) < 2 ^ (l.take (i + 1)).length := M.vl_lt (fun y hy => h.two y (List.mem_of_mem_take hy))
        have h2 : (l.take (i + 1)).length ≤ 64 := by rw [List.length_take]; have := HL.out; omega
        have h3 : 2 ^ (l.take (i + 1)).length ≤ 2 ^ 64 := M.p2le h2
        have h4 : (2 : Nat) ^ 64 = 18446744073709551616 := by decide
        rw [htake, M.vl_snoc, ← HX.out] at h1
        rw [← htake] at h1
        omega
      have HX2 : Hid (2 * x + b = M.vl (l.take (i + 1))) := by rw [Hid, htake, M.vl_snoc, HX.out]
      have e3 : (48 + (b : Int)) - 48 = (b : Int) := by omega
      have e4 : IntKind.u8.wrap (b : Int) = (b : Int) := by show (b : Int) % 256 = _; omega
      have e5 : IntKind.u64.wrap (b : Int) = (b : Int) := by rw [IntKind.wrap_u64]; omega
      clear h hb hat htake HX
      go_wp2_with fail
      go_round
      case rel => exact ⟨2 * x + b, i + 1, by go_num, by go_num, hlt, HX2⟩
      case measure => simp [intOf]; omega
    · have hF : x = z := by
        rw [HX.out, ← hz.out, show i = l.length by have := H.out.size; omega, List.take_length]
      subst hF
      clear HX hz
      go_wp2_with fail
      go_ret
      exact ⟨rfl, rfl⟩

theorem cell_lit1 (w : World) (v : Value) (t : TypeId) : (w.alloc (.cells #[v] t)).cell? ((⟨w.heap.size, 0, none⟩ : Addr).add 0) = some v := by
  show (match (w.heap.push (.cells #[v] t))[w.heap.size]? with | some (.cells c _ _) => c[0 + 0]? | _ => none) = _
  simp
/-- A digit's text. -/
def dg (b : Nat) : ByteArray := ⟨#[UInt8.ofNat (48 + b)]⟩
theorem bit_up (w w' : World) (b : Nat) (hb : b < 10) (S : ByteArray) (hS : dg b = S) (Z : Int) (hZ : Z = 48 + (b : Int)) (hu : Up (w.alloc (.cells #[.int .u8 Z] 5)) w') :
    (convert 94 9 (.slice (some ⟨w.heap.size, 0, none⟩) 1 1)).run Tryd.prog w' = .ok (.string S) w' := by
  subst hZ hS
  have hz : (48 : Int) + (b : Int) = ((UInt8.ofNat (48 + b)).toNat : Int) := by
    rw [show (UInt8.ofNat (48 + b)).toNat = (48 + b) % 256 from rfl]; omega
  rw [hz] at hu
  have h1 := cell_lit1 w (.int .u8 ((UInt8.ofNat (48 + b)).toNat : Int)) 5
  have h2 := Below.cell hu (World.block_lt_of_cell? _ _ h1)
  rw [h1] at h2
  exact run_convert_bytes_back _ 94 9 5 ⟨w.heap.size, 0, none⟩ 1 [UInt8.ofNat (48 + b)] Tryd.underlying94 Tryd.underlying5 Tryd.underlying9 (fun j hj => by
    have : j = 0 := by simpa using hj
    subst this
    exact h2)
theorem St.dg {b : Nat} (h : b < 2) : St (dg b) [b] := by
  refine ⟨rfl, fun i hi => ?_, fun x hx => by simp at hx; omega⟩
  have h1 : (Go.Proofs.YtjcbncfpcechnaaDoor.dg b).size = 1 := rfl
  obtain rfl : i = 0 := by omega
  show (UInt8.ofNat (48 + b)).toNat = 48 + b
  rw [show (UInt8.ofNat (48 + b)).toNat = (48 + b) % 256 from rfl]; omega
theorem St.nil : St ⟨#[]⟩ [] := ⟨rfl, fun i h => absurd h (Nat.not_lt_zero i), fun x hx => by cases hx⟩
theorem St.app {s t : ByteArray} {l m : List Nat} (h : St s l) (k : St t m) : St (s ++ t) (l ++ m) := by
  have h1 := h.size
  have h2 := k.size
  have hsz : (s ++ t).size = s.size + t.size := ByteArray.size_append
  refine ⟨by rw [hsz, List.length_append, h1, h2], fun i hi => ?_, fun x hx => ?_⟩
  · rcases Nat.lt_or_ge i s.size with hl | hl
    · rw [ByteArray.getElem_append_left hl, h.at_ i hl, List.getD_eq_getElem?_getD, List.getD_eq_getElem?_getD, List.getElem?_append_left (by omega)]
    · rw [ByteArray.getElem_append_right hl, k.at_ (i - s.size) (by omega), List.getD_eq_getElem?_getD, List.getD_eq_getElem?_getD, List.getElem?_append_right (by omega), h1]
  · rw [List.mem_append] at hx
    rcases hx with hx | hx
    · exact h.two x hx
    · exact k.two x hx

set_option maxHeartbeats 2000000 in
set_option maxRecDepth 100000 in
theorem rbits_in (w : World) (n k : Nat) (hn : 2 ≤ n) (hn2 : n ≤ 64) (h0 : 0 < k) (hk : k < 18446744073709551616) :
    Calls Tryd.prog 67 #[.int .i64 ((n : Int) + 1), u64 k] w (fun e w' => ∃ s, e = .returned (.tuple #[.string s, .bool (decide (k < 2 ^ n))]) ∧ St s (M.bl n k) ∧ Up w w') := by
  have d1 : decide ((n : Int) + 1 < 3) = false := decide_eq_false (by omega)
  have d2 : decide (65 < (n : Int) + 1) = false := decide_eq_false (by omega)
  have d3 : ((k : Int) == 0) = false := by rw [beq_eq_false_iff_ne]; omega
  go_enter Tryd.func67, Tryd.ntmps67
  go_wp2_with fail
  go_loopw [1, 6, 7] (fun kv sv iv wr => ∃ (i y : Nat) (s : ByteArray), i ≤ n ∧ kv = u64 y ∧ sv = .string s ∧ iv = .int .i64 ((i : Int) + 1) ∧ St s (M.bl i k) ∧ Up w wr ∧ Hid (y = k / 2 ^ i)) (fun _ _ iv _ => n + 2 - (intOf iv).toNat)
  case atStart => exact ⟨0, k, _, by omega, rfl, rfl, by go_num, St.nil, Up.refl _, by show _ = _; simp⟩
  case round =>
    obtain ⟨i, y, s, hi, rfl, rfl, rfl, HS, U, HY⟩ := hrel
    have HS2 := Lib.hid HS
    have hsz : s.size ≤ 64 := by rw [HS.size, M.bl_len]; omega
    by_cases hlt : i < n
    · have d : decide ((i : Int) + 1 < (n : Int) + 1) = true := decide_eq_true (by omega)
      have hyb : y < 18446744073709551616 := by rw [HY.out]; exact Nat.lt_of_le_of_lt (Nat.div_le_self _ _) hk
      obtain ⟨b, hb⟩ : ∃ b, y % 2 = b := ⟨_, rfl⟩
      obtain ⟨y', hy'⟩ : ∃ y', y / 2 = y' := ⟨_, rfl⟩
      have q1 : (y : Int) % 2 = (b : Int) := by omega
      have q2 : (y : Int) / 2 = (y' : Int) := by omega
      have q3 : b < 2 := by omega
      obtain ⟨S, hS⟩ : ∃ S, dg b = S := ⟨_, rfl⟩
      have hst : St S [b] := by rw [← hS]; exact St.dg q3
      have hc := bit_up wr _ b (by omega) S hS (48 + (b : Int)) rfl (Up.refl _)
      have hS1 : S.size = 1 := hst.size
      have HST := Lib.hid hst
      have HY2 : Hid (y' = k / 2 ^ (i + 1)) := by
        show _ = _
        rw [← hy', HY.out, Nat.pow_succ, Nat.div_div_eq_div_mul]
      have HN : Hid (St (S ++ s) (M.bl (i + 1) k)) := by
        have h1 := (HST.out).app (HS2.out)
        have h2 := M.bl_app i 1 k
        rw [Nat.add_comm 1 i] at h2
        have h3 : M.bl 1 (k / 2 ^ i) = [b] := by rw [← HY.out]; simp [M.bl, hb]
        show St _ _
        rw [h2, h3]
        exact h1
      clear HS hS hst HY hb hy'
      go_wp2_with fail
      go_roundw
      case rel => exact ⟨i + 1, y', S ++ s, hlt, rfl, rfl, by go_num, HN.out, U.alloc _, HY2⟩
      case measure => simp [intOf]; omega
    · obtain rfl : i = n := by omega
      have d : decide ((i : Int) + 1 < (i : Int) + 1) = false := decide_eq_false (by omega)
      have hy0 : ((y : Int) == 0) = decide (k < 2 ^ i) := by
        rw [Bool.eq_iff_iff, decide_eq_true_iff, beq_iff_eq, HY.out]
        have h1 : k / 2 ^ i = 0 ↔ k < 2 ^ i := Nat.div_eq_zero_iff_lt (M.p2 i)
        rw [← h1]
        omega
      clear HS HY hlt
      go_wp2_with fail
      go_ret2
      exact ⟨s, rfl, HS2.out, U⟩
set_option maxHeartbeats 1000000 in
theorem rbits_out (w : World) (wd : Int) (k : Nat) (h : wd < 3 ∨ 65 < wd ∨ k = 0) :
    Calls Tryd.prog 67 #[.int .i64 wd, u64 k] w (Same (.tuple #[.string ⟨#[]⟩, .bool false]) w) := by
  rcases (show wd < 3 ∨ (3 ≤ wd ∧ 65 < wd) ∨ (3 ≤ wd ∧ wd ≤ 65 ∧ k = 0) by omega) with h | ⟨h, h'⟩ | ⟨h, h', rfl⟩
  · have d1 : decide (wd < 3) = true := decide_eq_true h
    go_enter Tryd.func67, Tryd.ntmps67
    go_wp2_with fail
    go_ret2
    exact ⟨rfl, rfl⟩
  · have d1 : decide (wd < 3) = false := decide_eq_false (by omega)
    have d2 : decide (65 < wd) = true := decide_eq_true h'
    go_enter Tryd.func67, Tryd.ntmps67
    go_wp2_with fail
    go_ret2
    exact ⟨rfl, rfl⟩
  · have d1 : decide (wd < 3) = false := decide_eq_false (by omega)
    have d2 : decide (65 < wd) = false := decide_eq_false (by omega)
    go_enter Tryd.func67, Tryd.ntmps67
    go_wp2_with fail
    go_ret2
    exact ⟨rfl, rfl⟩
end Go.Proofs.YtjcbncfpcechnaaDoor
