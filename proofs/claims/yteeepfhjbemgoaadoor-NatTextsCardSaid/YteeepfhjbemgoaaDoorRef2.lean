/-
  The reference's Up, Down, Bits, Bit: their contracts.
-/
import Derived.Test.YteeepfhjbemgoaaDoorTimes
import Derived.Test.YteeepfhjbemgoaaDoorUse
import Derived.Deep.QuietTactic
namespace Go.Proofs.YteeepfhjbemgoaaDoor
open Go.RowKit Go.Shelf

namespace M
theorem pow_half (m : Nat) : (4294967296 : Nat) ^ m = 2 ^ (32 * m) := by rw [Nat.pow_mul]
theorem vh_lt {a : List Nat} (h : Hs a) : vh a < 4294967296 ^ a.length := by
  induction a with
  | nil => simp [vh]
  | cons x r ih =>
    have h1 := ih (fun y hy => h y (List.mem_cons_of_mem _ hy))
    have h2 := h x (by simp)
    simp only [vh, List.length_cons, Nat.pow_succ]
    calc x + 4294967296 * vh r < 4294967296 + 4294967296 * vh r := by omega
      _ = 4294967296 * (vh r + 1) := by rw [Nat.mul_add, Nat.mul_one, Nat.add_comm]
      _ ≤ 4294967296 * 4294967296 ^ r.length := Nat.mul_le_mul_left _ h1
      _ = _ := Nat.mul_comm _ _
theorem vh_snoc (a : List Nat) (x : Nat) : vh (a ++ [x]) = vh a + 4294967296 ^ a.length * x := by
  rw [vh_append]; simp [vh]
theorem Hs.nil : Hs [] := fun _ h => by cases h
theorem Hs.snoc {a : List Nat} {x : Nat} (h : Hs a) (hx : x < 4294967296) : Hs (a ++ [x]) := by
  intro y hy
  rcases List.mem_append.1 hy with e | e
  · exact h y e
  · rw [List.mem_singleton.1 e]; exact hx
theorem Hs.drop {a : List Nat} (h : Hs a) (k : Nat) : Hs (a.drop k) := fun x hx => h x (List.mem_of_mem_drop hx)
theorem vh_split (a : List Nat) (k : Nat) (hk : k ≤ a.length) : vh a = vh (a.take k) + 4294967296 ^ k * vh (a.drop k) := by
  have h := vh_append (a.take k) (a.drop k)
  rw [List.take_append_drop, List.length_take, Nat.min_eq_left hk] at h
  exact h
theorem vh_replicate (n : Nat) : vh (List.replicate n 0) = 0 := by
  induction n with
  | zero => rfl
  | succ n ih => simp [List.replicate_succ, vh, ih]

/-- What is so while half words are moved up. -/
structure UInv (S s : Nat) (xs : List Nat) (k c : Nat) (hs : List Nat) : Prop where
  half : Hs hs
  len : hs.length = S + k
  car : c < 4294967296
  eq : vh hs + 4294967296 ^ (S + k) * c = 4294967296 ^ S * (vh (xs.take k) * 2 ^ s)
theorem UInv.start (S s : Nat) (xs : List Nat) : UInv S s xs 0 0 (List.replicate S 0) := by
  refine ⟨fun y hy => by rw [(List.mem_replicate.1 hy).2]; omega, by simp, by omega, ?_⟩
  rw [vh_replicate]; simp [vh]
theorem UInv.step {S s : Nat} {xs : List Nat} {k c : Nat} {hs : List Nat} (h : UInv S s xs k c hs) {x t : Nat} (hx : xs.getD k 0 = x) (ht : x * 2 ^ s + c = t) (hb : t / 4294967296 < 4294967296) :
    UInv S s xs (k + 1) (t / 4294967296) (hs ++ [t % 4294967296]) := by
  obtain ⟨h1, h2, h3, h4⟩ := h
  refine ⟨h1.snoc (Nat.mod_lt _ (by omega)), by simp [h2]; omega, hb, ?_⟩
  rw [vh_snoc, h2, vh_take_succ xs k, hx, Nat.add_mul, Nat.mul_add, ← h4, show S + (k + 1) = S + k + 1 from rfl, Nat.pow_succ, Nat.mul_assoc (4294967296 ^ (S + k))]
  have e1 : 4294967296 ^ S * (4294967296 ^ k * x * 2 ^ s) = 4294967296 ^ (S + k) * (x * 2 ^ s) := by rw [Nat.pow_add]; simp only [Nat.mul_assoc]
  have e2 : 4294967296 ^ (S + k) * (t % 4294967296) + 4294967296 ^ (S + k) * (4294967296 * (t / 4294967296)) = 4294967296 ^ (S + k) * (x * 2 ^ s) + 4294967296 ^ (S + k) * c := by
    rw [← Nat.mul_add, ← Nat.mul_add, ht]
    congr 1
    omega
  rw [e1]
  omega
theorem UInv.fin {S s : Nat} {xs : List Nat} {c : Nat} {hs : List Nat} (h : UInv S s xs xs.length c hs) {N : Nat} (hN : N = 32 * S + s) : vh (hs ++ [c]) = vh xs * 2 ^ N ∧ Hs (hs ++ [c]) := by
  obtain ⟨h1, h2, h3, h4⟩ := h
  refine ⟨?_, h1.snoc h3⟩
  rw [vh_snoc, h2, h4, List.take_length, hN, Nat.pow_add, ← pow_half, Nat.mul_left_comm]

/-- The half words moved down by fewer than 32 bits. -/
def dn (s : Nat) : List Nat → List Nat
  | [] => []
  | x :: r => ((x + r.getD 0 0 * 4294967296) / 2 ^ s % 4294967296) :: dn s r
theorem dn_length (s : Nat) : ∀ xs, (dn s xs).length = xs.length
  | [] => rfl
  | x :: r => by rw [dn, List.length_cons, List.length_cons, dn_length s r]
theorem dn_getD (s : Nat) : ∀ (xs : List Nat) (j : Nat), j < xs.length → (dn s xs).getD j 0 = (xs.getD j 0 + xs.getD (j + 1) 0 * 4294967296) / 2 ^ s % 4294967296
  | [], j, h => by simp at h
  | x :: r, 0, _ => by rw [dn, List.getD_cons_zero, List.getD_cons_zero, List.getD_cons_succ]
  | x :: r, j + 1, h => by
    rw [dn, List.getD_cons_succ, dn_getD s r j (by simpa using h), List.getD_cons_succ, List.getD_cons_succ]
theorem dn_hs (s : Nat) : ∀ xs, Hs (dn s xs)
  | [] => Hs.nil
  | x :: r => by
    intro y hy
    rw [dn, List.mem_cons] at hy
    rcases hy with rfl | hy
    · exact Nat.mod_lt _ (by omega)
    · exact dn_hs s r y hy
theorem vh_dn (s : Nat) (hs : s < 32) : ∀ xs, Hs xs → vh (dn s xs) = vh xs / 2 ^ s
  | [], _ => by simp [dn, vh]
  | x :: r, h => by
    have hx : x < 4294967296 := h x (by simp)
    have hr : Hs r := fun y hy => h y (List.mem_cons_of_mem _ hy)
    have hB : (4294967296 : Nat) = 2 ^ s * 2 ^ (32 - s) := by rw [← Nat.pow_add, show s + (32 - s) = 32 from by omega]
    have hp : 0 < 2 ^ s := Nat.pow_pos (by omega)
    rw [dn, vh, vh, vh_dn s hs r hr]
    have e1 : (x + 4294967296 * vh r) / 2 ^ s / 4294967296 = vh r / 2 ^ s := by
      rw [Nat.div_div_eq_div_mul, Nat.mul_comm (2 ^ s) 4294967296, ← Nat.div_div_eq_div_mul, Nat.add_mul_div_left _ _ (by omega), Nat.div_eq_of_lt hx, Nat.zero_add]
    have e2 : (x + 4294967296 * vh r) / 2 ^ s % 4294967296 = (x + r.getD 0 0 * 4294967296) / 2 ^ s % 4294967296 := by
      rw [vh_eq r, Nat.mul_add, ← Nat.add_assoc, Nat.mul_comm 4294967296 (r.getD 0 0)]
      have : 4294967296 * (4294967296 * vh r.tail) = 2 ^ s * (4294967296 * (2 ^ (32 - s) * vh r.tail)) := by
        generalize vh r.tail = v
        rw [show (4294967296 : Nat) * (4294967296 * v) = 2 ^ s * 2 ^ (32 - s) * (4294967296 * v) from by rw [← hB], Nat.mul_assoc, Nat.mul_left_comm (2 ^ (32 - s))]
      rw [this, Nat.add_mul_div_left _ _ hp, Nat.add_mul_mod_self_left]
    have e3 := Nat.mod_add_div ((x + 4294967296 * vh r) / 2 ^ s) 4294967296
    rw [e1, e2] at e3
    exact e3
theorem vh_drop {xs : List Nat} (h : Hs xs) (S : Nat) : vh (xs.drop S) = vh xs / 4294967296 ^ S := by
  rcases Nat.lt_or_ge xs.length S with h0 | h0
  · rw [List.drop_of_length_le (by omega)]
    have h1 := vh_lt h
    have h2 : 4294967296 ^ xs.length ≤ 4294967296 ^ S := Nat.pow_le_pow_right (by omega) (by omega)
    rw [Nat.div_eq_of_lt (by omega)]; rfl
  · have h1 := vh_split xs S h0
    have h2 := vh_lt (h.take S)
    rw [List.length_take, Nat.min_eq_left h0] at h2
    rw [h1, Nat.add_mul_div_left _ _ (Nat.pow_pos (by omega)), Nat.div_eq_of_lt h2, Nat.zero_add]
theorem vh_dn_drop {xs : List Nat} (h : Hs xs) {S s N : Nat} (hs : s < 32) (hN : N = 32 * S + s) : vh (dn s (xs.drop S)) = vh xs / 2 ^ N := by
  rw [vh_dn s hs _ (h.drop S), vh_drop h, Nat.div_div_eq_div_mul, hN, Nat.pow_add, pow_half]
theorem vh_getD {a : List Nat} (h : Hs a) (q : Nat) : vh a / 4294967296 ^ q % 4294967296 = a.getD q 0 := by
  rw [← vh_drop h, vh_eq, Nat.add_mul_mod_self_left, List.getD_eq_getElem?_getD, List.getElem?_drop, Nat.add_zero, ← List.getD_eq_getElem?_getD]
  exact Nat.mod_eq_of_lt (h.getD q)
theorem vh_bit {a : List Nat} (h : Hs a) (i : Nat) : (a.getD (i / 32) 0 / 2 ^ (i % 32) % 2 = 1) = ((vh a).testBit i = true) := by
  rw [← vh_getD h, Nat.testBit_eq_decide_div_mod_eq, decide_eq_true_eq]
  have e : vh a / 2 ^ i = vh a / 4294967296 ^ (i / 32) / 2 ^ (i % 32) := by
    rw [Nat.div_div_eq_div_mul, pow_half, ← Nat.pow_add, Nat.div_add_mod]
  rw [e]
  generalize vh a / 4294967296 ^ (i / 32) = V
  have hB : (4294967296 : Nat) = 2 ^ (i % 32) * 2 ^ (32 - i % 32) := by rw [← Nat.pow_add, show i % 32 + (32 - i % 32) = 32 from by omega]
  have e2 : V / 2 ^ (i % 32) % 2 = V % 4294967296 / 2 ^ (i % 32) % 2 := by
    conv => rhs; rw [hB, Nat.mod_mul_right_div_self]
    obtain ⟨d, hd⟩ : ∃ d, 2 ^ (32 - i % 32) = 2 * d := ⟨2 ^ (31 - i % 32), by rw [← Nat.pow_succ', show (31 - i % 32).succ = 32 - i % 32 from by omega]⟩
    rw [hd, Nat.mod_mul_right_mod]
  rw [e2]
theorem bits_top32 {v x m : Nat} (hv : v < 4294967296 ^ m) (hx : x ≠ 0) : bits (v + 4294967296 ^ m * x) = 32 * m + bits x := by
  have h1 := bits_le hx
  have h2 := bits_lt x
  have h3 := bits_pos hx
  rw [pow_half] at hv ⊢
  have e : 32 * m + bits x = (32 * m + (bits x - 1)) + 1 := by omega
  rw [e]
  apply bits_of
  · rw [Nat.pow_add]
    exact Nat.le_trans (Nat.mul_le_mul_left _ h1) (Nat.le_add_left _ _)
  · rw [show 32 * m + (bits x - 1) + 1 = 32 * m + bits x from by omega, Nat.pow_add]
    calc v + 2 ^ (32 * m) * x < 2 ^ (32 * m) + 2 ^ (32 * m) * x := by omega
      _ = 2 ^ (32 * m) * (x + 1) := by rw [Nat.mul_add, Nat.mul_one, Nat.add_comm]
      _ ≤ _ := Nat.mul_le_mul_left _ h2
theorem vh_top {xs : List Nat} {m x : Nat} (h : Hs xs) (hn : Nrm xs) (hl : xs.length = m + 1) (hx : xs.getD m 0 = x) : bits (vh xs) = 32 * m + bits x := by
  have h1 := vh_split xs m (by omega)
  have h2 := vh_lt (h.take m)
  rw [List.length_take, Nat.min_eq_left (by omega)] at h2
  have h3 : xs.drop m = [x] := by
    rw [List.drop_eq_getElem_cons (by omega), List.drop_of_length_le (by omega)]
    rw [List.getD_eq_getElem?_getD, List.getElem?_eq_getElem (by omega)] at hx
    simpa using hx
  rw [h3] at h1
  simp only [vh, Nat.mul_zero, Nat.add_zero] at h1
  have hx0 : x ≠ 0 := by rw [← hx]; exact top_ne hn hl
  rw [h1]
  exact bits_top32 h2 hx0
end M
end Go.Proofs.YteeepfhjbemgoaaDoor
namespace Go.Proofs.YteeepfhjbemgoaaDoor
open Go.RowKit Go.Shelf

theorem M.getD_drop' (zs : List Nat) (i j : Nat) : (zs.drop i).getD j 0 = zs.getD (i + j) 0 := by
  simp [List.getD_eq_getElem?_getD, List.getElem?_drop]
/-- Trim of a row of half words: a normal number. -/
theorem trim_hs (w : World) (lo s : Nat) (A : Option Addr) (n c : Nat) (xs : List Nat) (h : Wd w lo A n c xs) (hh : M.Hs xs) (a : Nat) (ha : Hid (M.vh xs = a)) (hs : n ≤ s) :
    Calls Tryd.prog 56 #[.slice A n c] w (fun e w' => ∃ v, e = .returned v ∧ w = w' ∧ Nh w lo s v a) :=
  (rtrim_any w lo A n c xs h).mono fun _ _ ⟨m, he, hw, hm, hnm, hmn, hzz⟩ => ⟨_, he, hw, A, m, c, _, rfl, hm, hh.take m, (M.vh_take hzz).trans ha.out, by omega, hnm⟩

set_option maxHeartbeats 2000000 in
set_option maxRecDepth 100000 in
theorem up_any (w : World) (lo : Nat) (A : Option Addr) (n c : Nat) (xs : List Nat) (hx : Wd w lo A n c xs) (hh : M.Hs xs) (hn : n ≤ 100000000) (N : Nat) (hN : N ≤ 10000000) :
    Calls Tryd.prog 118 #[.slice A n c, .int .i64 N] w (Rh (n + N / 32 + 1) (M.vh xs * 2 ^ N) w) := by
  obtain ⟨S, hS⟩ : ∃ S, N / 32 = S := ⟨_, rfl⟩
  obtain ⟨s, hs⟩ : ∃ s, N % 32 = s := ⟨_, rfl⟩
  have hs32 : s < 32 := by omega
  have hSb : S ≤ 1000000 := by omega
  have HN : Hid (N = 32 * S + s) := by show _ = _; omega
  have q1 : (N : Int) / 32 = (S : Int) := by omega
  have q2 : (N : Int) % 32 = (s : Int) := by omega
  have q3 : (N : Int).tdiv 32 = (S : Int) := by rw [Int.tdiv_eq_ediv_of_nonneg (by omega)]; exact q1
  have q4 : (N : Int).tmod 32 = (s : Int) := by rw [Int.tmod_eq_emod_of_nonneg (by omega)]; exact q2
  rw [hS]
  clear hS hs
  have b1 := hx.len
  have hxl := Lib.hid hx.num
  go_enter Tryd.func118, Tryd.ntmps118
  go_wp2_with (at_make; refine wpList_make_wd _ rfl (.tmp 10) (.tmp 10) 22 rfl info_u64 Tryd.underlying22 (S : Int) (S : Int) S rfl rfl (by omega) (by omega) (by omega) ?_; intro w1 hown1 hg1)
  have hu1 : Up w w1 := (Up.refl w).grown hg1 (by simp)
  have hz1 : w.heap.size ≤ w1.heap.size := Up.size hu1
  have hst := Lib.hid (M.UInv.start S s xs)
  go_loopw [5, 6, 7] (fun sv cv iv wr => ∃ (k cy : Nat) (hs : List Nat), k ≤ n ∧ cy < 4294967296 ∧ cv = u64 cy ∧ iv = .int .i64 k ∧ Up w wr ∧ w.heap.size ≤ wr.heap.size ∧ Ow wr w.heap.size sv (S + k) hs ∧ Hid (M.UInv S s xs k cy hs)) (fun _ _ iv _ => n - (intOf iv).toNat)
  case atStart => exact ⟨0, 0, _, by omega, by omega, rfl, rfl, hu1, hz1, hown1, hst⟩
  case round =>
    obtain ⟨k, cy, hs, hk, hcy, rfl, rfl, hu, hsz, hown, HI⟩ := hrel
    have hcA := (hx.up hu).at_
    clear hst hown1 hu1 hg1 hz1
    by_cases hlt : k < n
    · obtain ⟨bb, oo, rfl, _, hc⟩ := hcA (by omega)
      have hc1 := (hc k hlt).1
      obtain ⟨x, hxk⟩ : ∃ x, xs.getD k 0 = x := ⟨_, rfl⟩
      have hxb : x < 4294967296 := by rw [← hxk]; exact hh.getD k
      rw [hxk] at hc1
      have hp : (2 : Nat) ^ s ≤ 2 ^ 31 := Nat.pow_le_pow_right (by omega) (by omega)
      have hxs : x * 2 ^ s ≤ 4294967295 * 2147483648 := Nat.mul_le_mul (by omega) hp
      obtain ⟨Y, hY⟩ : ∃ Y, x * 2 ^ s = Y := ⟨_, rfl⟩
      have qY : (x : Int) * 2 ^ s = (Y : Int) := by rw [← hY]; simp
      obtain ⟨t, ht⟩ : ∃ t, Y + cy = t := ⟨_, rfl⟩
      have qt : (Y : Int) + (cy : Int) = (t : Int) := by omega
      rw [hY] at hxs
      have htb : t < 18446744073709551616 := by omega
      have HS := HI.out.step (x := x) (t := t) hxk (by rw [hY]; exact ht) (by omega)
      obtain ⟨T0, hT0⟩ : ∃ T0, t % 4294967296 = T0 := ⟨_, rfl⟩
      obtain ⟨T1, hT1⟩ : ∃ T1, t / 4294967296 = T1 := ⟨_, rfl⟩
      rw [hT0, hT1] at HS
      have qT0 : (t : Int) % 4294967296 = (T0 : Int) := by omega
      have qT0' : (t : Int).tmod 4294967296 = (T0 : Int) := by rw [Int.tmod_eq_emod_of_nonneg (by omega)]; exact qT0
      have qT1 : (t : Int) / 4294967296 = (T1 : Int) := by omega
      have hT0b : T0 < 18446744073709551616 := by omega
      have hT1b : T1 < 4294967296 := HS.car
      have HE := Lib.hid HS
      have hYb : Y < 18446744073709551616 := by omega
      have hu2 : Up wr (wr.alloc (.cells #[.int .u64 (T0 : Int)] 41)) := (Up.refl wr).alloc _
      have hown2 := Ow.up hown hu2
      have hw2 := lit1_wd wr T0 _ rfl hT0b
      clear hc hcA hxk hp hxs hY ht hT0 hT1 HS HI
      go_wp2_with (at_builtin; refine wpList_append_wd _ rfl (.tmp 28) (.tmp 31) _ rfl info_u64 w.heap.size Tryd.underlying22 _ (S + k) hs rfl hown2 _ _ 1 1 [T0] rfl hw2 (by omega) (Nat.le_trans hsz (Up.size hu2)) ?_; intro v3 w3 hown3 hg3 hat3)
      have hu3 : Up w w3 := (hu.trans hu2).grown hg3 (fun b hb => (World.ownsRow.lt hown2 b hb).1)
      go_roundw
      case rel => exact ⟨k + 1, T1, _, by omega, hT1b, by go_num, by go_num, hu3, hu3.size, hown3, HE⟩
      case measure => simp [intOf]; omega
    · have hkn : k = n := by omega
      subst hkn
      have HF := HI.out
      rw [← hxl.out] at HF
      obtain ⟨f1, f2⟩ := HF.fin HN.out
      have HV := Lib.hid f1
      have hu2 : Up wr (wr.alloc (.cells #[.int .u64 (cy : Int)] 41)) := (Up.refl wr).alloc _
      have hown2 := Ow.up hown hu2
      have hw2 := lit1_wd wr cy _ rfl (by omega)
      clear HF f1 hcA HI hown
      go_wp2_with (at_builtin; refine wpList_append_wd _ rfl (.tmp 35) (.tmp 37) _ rfl info_u64 w.heap.size Tryd.underlying22 _ (S + k) hs rfl hown2 _ _ 1 1 [cy] rfl hw2 (by omega) (Nat.le_trans hsz (Up.size hu2)) ?_; intro v3 w3 hown3 hg3 hat3)
      have hu3 : Up w w3 := (hu.trans hu2).grown hg3 (fun b hb => (World.ownsRow.lt hown2 b hb).1)
      obtain ⟨A3, c3, rfl, hwd3⟩ := Ow.wd hown3 f2.wds (by omega)
      refine (trim_hs _ _ (k + S + 1) _ _ _ _ hwd3 f2 _ HV (by omega)).mono ?_
      rintro _ _ ⟨v4, rfl, rfl, h4⟩
      go_wp2_with fail
      go_ret
      exact ⟨_, rfl, h4, hu3⟩

end Go.Proofs.YteeepfhjbemgoaaDoor
