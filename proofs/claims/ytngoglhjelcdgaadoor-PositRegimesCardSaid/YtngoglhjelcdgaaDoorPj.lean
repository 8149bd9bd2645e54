/-
  The reference of layer 5: Join.
-/
import Derived.Test.YtngoglhjelcdgaaDoorPs2
import Derived.OwnWalk
namespace Go.Proofs.YtngoglhjelcdgaaDoor
open Go.RowKit

namespace M
/-- The magnitude k of n bits has these fields. -/
def IsF (n k : Nat) (R E : Int) (F : Nat) (B : Int) : Prop := ∃ r q, Ps n k R r q ∧ (ex r q : Int) = E ∧ fr r q = F ∧ ((r - 2 : Nat) : Int) = B
def lead (R : Int) : List Nat := if 0 ≤ R then List.replicate (R + 1).toNat 1 ++ [0] else List.replicate (-R).toNat 0 ++ [1]
/-- The bits that fields are put together of. -/
def jl (R : Int) (E F B : Nat) : List Nat := lead R ++ ([E / 2, E % 2] ++ bl B F)
theorem bl_mod (b q : Nat) : bl b (q % 2 ^ b) = bl b q := by
  have h := bl_vl (bl_two b q)
  rw [bl_len, vl_bl] at h
  exact h
theorem behind {r q : Nat} (h : q < 2 ^ r) : ([ex r q / 2, ex r q % 2] ++ bl (r - 2) (fr r q)).take r = bl r q := by
  have h3 := ex_le h
  rcases (show r = 0 ∨ r = 1 ∨ 2 ≤ r by omega) with rfl | rfl | h2
  · simp [bl]
  · have : q < 2 := by simpa using h
    rcases (show q = 0 ∨ q = 1 by omega) with rfl | rfl <;> decide
  · obtain ⟨b, rfl⟩ : ∃ b, r = b + 2 := ⟨r - 2, by omega⟩
    rw [List.take_of_length_le (by simp [bl_len])]
    have e := bl_app b 2 q
    rw [Nat.add_comm 2 b] at e
    rw [e, Nat.add_sub_cancel]
    have e1 : ex (b + 2) q = q / 2 ^ b := by unfold ex; rw [if_pos h2, Nat.add_sub_cancel]
    have e2 : fr (b + 2) q = q % 2 ^ b := rfl
    rw [e1] at h3 ⊢
    rw [e2, bl_mod]
    congr 1
    obtain ⟨z, hz⟩ : ∃ z, q / 2 ^ b = z := ⟨_, rfl⟩
    rw [hz] at h3 ⊢
    rcases (show z = 0 ∨ z = 1 ∨ z = 2 ∨ z = 3 by omega) with rfl | rfl | rfl | rfl <;> decide
theorem jl_of {n k r q : Nat} {R : Int} (h : Ps n k R r q) : n ≤ (jl R (ex r q) (fr r q) (r - 2)).length ∧ (jl R (ex r q) (fr r q) (r - 2)).take n = bl n k := by
  have hq := h.1
  have hb := behind hq
  have hl : r ≤ ([ex r q / 2, ex r q % 2] ++ bl (r - 2) (fr r q)).length := by rw [List.length_append, bl_len]; simp; omega
  obtain ⟨tail, ht⟩ : ∃ l, [ex r q / 2, ex r q % 2] ++ bl (r - 2) (fr r q) = l := ⟨_, rfl⟩
  rw [ht] at hb hl
  unfold jl lead
  rw [ht]
  rcases h.bits with ⟨b, g, _, hg, hgr, hbl, ⟨rfl, rfl⟩ | ⟨rfl, rfl⟩⟩ | ⟨hbl, h2, rfl, rfl, rfl⟩
  · rw [if_neg (by omega), hbl]
    have e : (- -(g : Int)).toNat = g := by omega
    rw [e, ← hgr]
    refine ⟨by simp; omega, ?_⟩
    rw [List.append_assoc, List.take_append, List.take_append, List.length_replicate, show g + 1 + r - g = r + 1 by omega, List.take_of_length_le (by simp; omega)]
    simp [hb]
  · rw [if_pos (by omega), hbl]
    have e : ((g : Int) - 1 + 1).toNat = g := by omega
    rw [e, ← hgr]
    refine ⟨by simp; omega, ?_⟩
    rw [List.append_assoc, List.take_append, List.take_append, List.length_replicate, show g + 1 + r - g = r + 1 by omega, List.take_of_length_le (by simp; omega)]
    simp [hb]
  · rw [if_pos (by omega), hbl]
    have e : ((n : Int) - 1 + 1).toNat = n := by omega
    rw [e]
    refine ⟨by first | (simp; done) | (simp; omega), ?_⟩
    rw [List.append_assoc, List.take_append_of_le_length (by simp), List.take_of_length_le (by simp)]
theorem IsF.rng {n k F : Nat} {R E B : Int} (hn : n ≤ 64) (h : IsF n k R E F B) : 0 < k ∧ k < 2 ^ n ∧ -64 ≤ R ∧ R ≤ 64 ∧ 0 ≤ E ∧ E ≤ 3 ∧ 0 ≤ B ∧ B ≤ 62 ∧ F < 2 ^ B.toNat := by
  obtain ⟨r, q, h1, rfl, rfl, rfl⟩ := h
  have rg := h1.rng
  have h3 := ex_le h1.1
  have h4 := fr_lt r q
  refine ⟨rg.1, rg.2.1, by omega, by omega, by omega, by omega, by omega, by omega, ?_⟩
  rwa [Int.toNat_natCast]
theorem IsF.key {n k F E B : Nat} {R : Int} (h : IsF n k R E F B) : n ≤ (jl R E F B).length ∧ vl ((jl R E F B).take n) = k := by
  obtain ⟨r, q, h1, h2, rfl, h4⟩ := h
  have e1 : ex r q = E := by omega
  have e2 : r - 2 = B := by omega
  obtain ⟨a, b⟩ := jl_of h1
  rw [e1, e2] at a b
  refine ⟨a, ?_⟩
  rw [b, vl_bl, Nat.mod_eq_of_lt h1.rng.2.1]
theorem isf_uniq {n k k' F : Nat} {R E B : Int} (h : IsF n k R E F B) (h' : IsF n k' R E F B) : k = k' := by
  obtain ⟨r, q, h1, h2, h3, h4⟩ := h
  obtain ⟨r', q', h1', h2', h3', h4'⟩ := h'
  obtain ⟨rfl, _, e⟩ := (ps_cmp h1 h1').2 rfl
  exact e (q_inj h1.1 h1'.1 (by omega) (by rw [h3, h3']))
end M
theorem St.one : St ⟨#[49]⟩ [1] := by
  have := St.dg (b := 1) (by decide)
  exact this
theorem St.zero : St ⟨#[48]⟩ [0] := by
  have := St.dg (b := 0) (by decide)
  exact this
/-- Two digits' text. -/
def dg2 (a b : Nat) : ByteArray := ⟨#[UInt8.ofNat (48 + a), UInt8.ofNat (48 + b)]⟩
theorem St.dg2 {a b : Nat} (ha : a < 2) (hb : b < 2) : St (dg2 a b) [a, b] := by
  refine ⟨rfl, fun i hi => ?_, fun x hx => by simp at hx; omega⟩
  have h1 : (Go.Proofs.YtngoglhjelcdgaaDoor.dg2 a b).size = 2 := rfl
  rcases (show i = 0 ∨ i = 1 by omega) with rfl | rfl
  · show (UInt8.ofNat (48 + a)).toNat = 48 + a
    rw [show (UInt8.ofNat (48 + a)).toNat = (48 + a) % 256 from rfl]; omega
  · show (UInt8.ofNat (48 + b)).toNat = 48 + b
    rw [show (UInt8.ofNat (48 + b)).toNat = (48 + b) % 256 from rfl]; omega
theorem bit2_up (w w' : World) (a b : Nat) (ha : a < 10) (hb : b < 10) (S : ByteArray) (hS : dg2 a b = S) (X Z : Int) (hX : X = 48 + (a : Int)) (hZ : Z = 48 + (b : Int)) (hu : Up (w.alloc (.cells #[.int .u8 X, .int .u8 Z] 5)) w') :
    (convert 58 9 (.slice (some ⟨w.heap.size, 0, none⟩) 2 2)).run Tryd.prog w' = .ok (.string S) w' := by
  subst hZ hX hS
  have hx : (48 : Int) + (a : Int) = ((UInt8.ofNat (48 + a)).toNat : Int) := by
    rw [show (UInt8.ofNat (48 + a)).toNat = (48 + a) % 256 from rfl]; omega
  have hz : (48 : Int) + (b : Int) = ((UInt8.ofNat (48 + b)).toNat : Int) := by
    rw [show (UInt8.ofNat (48 + b)).toNat = (48 + b) % 256 from rfl]; omega
  rw [hx, hz] at hu
  have o := (Ob.mk_ w 5 #[.int .u8 ((UInt8.ofNat (48 + a)).toNat : Int), .int .u8 ((UInt8.ofNat (48 + b)).toNat : Int)]).up hu
  exact run_convert_bytes_back _ 58 9 5 ⟨w.heap.size, 0, none⟩ 2 [UInt8.ofNat (48 + a), UInt8.ofNat (48 + b)] Tryd.underlying58 Tryd.underlying5 Tryd.underlying9 (fun j hj => by
    have hj2 : j < 2 := by simpa using hj
    have e : (⟨w.heap.size, 0, none⟩ : Addr).add j = ⟨w.heap.size, j, none⟩ := by rw [Addr.add_lit, Nat.zero_add]
    rw [e, o.get]
    rcases (show j = 0 ∨ j = 1 by omega) with rfl | rfl <;> rfl)
/-- What Join comes to. -/
def Jn (n : Nat) (R E : Int) (F : Nat) (B : Int) (w : World) (e : Ending) (w' : World) : Prop :=
  ∃ (k : Nat) (t : Bool), e = .returned (.tuple #[u64 k, .bool t]) ∧ Up w w' ∧ k < 18446744073709551616 ∧ (t = true → M.IsF n k R E F B) ∧ ∀ k', M.IsF n k' R E F B → t = true ∧ k = k'
theorem Jn.none {n F : Nat} {R E B : Int} {w w' : World} (U : Up w w') (h : ∀ k', ¬ M.IsF n k' R E F B) : Jn n R E F B w (.returned (.tuple #[u64 0, .bool false])) w' :=
  ⟨0, false, rfl, U, by decide, (fun h => by cases h), fun k' hk => absurd hk (h k')⟩
set_option maxHeartbeats 8000000 in
set_option maxRecDepth 100000 in
theorem rjoin_wide (w : World) (n : Nat) (hn2 : 2 ≤ n) (hn : n ≤ 64) (R E : Int) (F : Nat) (B : Int) (h : 64 < R ∨ R < -64 ∨ E < 0 ∨ 3 < E ∨ B < 0 ∨ 64 < B) :
    Calls Tryd.prog 15 #[.int .i64 ((n : Int) + 1), fdv R E F B] w (Jn n R E F B w) := by
  have HN : Hid (∀ k', ¬ M.IsF n k' R E F B) := fun k' hk => by have := hk.rng hn; omega
  have d1 : decide ((n : Int) + 1 < 3) = false := decide_eq_false (by omega)
  have d2 : decide (65 < (n : Int) + 1) = false := decide_eq_false (by omega)
  rcases (show (64 < R) ∨ (¬ 64 < R ∧ R < -64) ∨ (¬ 64 < R ∧ ¬ R < -64 ∧ E < 0) ∨ (¬ 64 < R ∧ ¬ R < -64 ∧ ¬ E < 0 ∧ 3 < E) ∨ (¬ 64 < R ∧ ¬ R < -64 ∧ ¬ E < 0 ∧ ¬ 3 < E ∧ B < 0) ∨ (¬ 64 < R ∧ ¬ R < -64 ∧ ¬ E < 0 ∧ ¬ 3 < E ∧ ¬ B < 0 ∧ 64 < B) by omega) with h0 | ⟨h0, h1⟩ | ⟨h0, h1, h2⟩ | ⟨h0, h1, h2, h3⟩ | ⟨h0, h1, h2, h3, h4⟩ | ⟨h0, h1, h2, h3, h4, h5⟩
  ·
    have e0 : decide (64 < R) = true := decide_eq_true h0
    clear h h0
    go_enter Tryd.func15, Tryd.ntmps15
    go_wp2_with fail
    go_ret2
    exact Jn.none ((Up.refl w).alloc _) HN.out
  ·
    have e0 : decide (64 < R) = false := decide_eq_false h0
    have e1 : decide (R < -64) = true := decide_eq_true h1
    clear h h0 h1
    go_enter Tryd.func15, Tryd.ntmps15
    go_wp2_with fail
    go_ret2
    exact Jn.none ((Up.refl w).alloc _) HN.out
  ·
    have e0 : decide (64 < R) = false := decide_eq_false h0
    have e1 : decide (R < -64) = false := decide_eq_false h1
    have e2 : decide (E < 0) = true := decide_eq_true h2
    clear h h0 h1 h2
    go_enter Tryd.func15, Tryd.ntmps15
    go_wp2_with fail
    go_ret2
    exact Jn.none ((Up.refl w).alloc _) HN.out
  ·
    have e0 : decide (64 < R) = false := decide_eq_false h0
    have e1 : decide (R < -64) = false := decide_eq_false h1
    have e2 : decide (E < 0) = false := decide_eq_false h2
    have e3 : decide (3 < E) = true := decide_eq_true h3
    clear h h0 h1 h2 h3
    go_enter Tryd.func15, Tryd.ntmps15
    go_wp2_with fail
    go_ret2
    exact Jn.none ((Up.refl w).alloc _) HN.out
  ·
    have e0 : decide (64 < R) = false := decide_eq_false h0
    have e1 : decide (R < -64) = false := decide_eq_false h1
    have e2 : decide (E < 0) = false := decide_eq_false h2
    have e3 : decide (3 < E) = false := decide_eq_false h3
    have e4 : decide (B < 0) = true := decide_eq_true h4
    clear h h0 h1 h2 h3 h4
    go_enter Tryd.func15, Tryd.ntmps15
    go_wp2_with fail
    go_ret2
    exact Jn.none ((Up.refl w).alloc _) HN.out
  ·
    have e0 : decide (64 < R) = false := decide_eq_false h0
    have e1 : decide (R < -64) = false := decide_eq_false h1
    have e2 : decide (E < 0) = false := decide_eq_false h2
    have e3 : decide (3 < E) = false := decide_eq_false h3
    have e4 : decide (B < 0) = false := decide_eq_false h4
    have e5 : decide (64 < B) = true := decide_eq_true h5
    clear h h0 h1 h2 h3 h4 h5
    go_enter Tryd.func15, Tryd.ntmps15
    go_wp2_with fail
    go_ret2
    exact Jn.none ((Up.refl w).alloc _) HN.out
set_option maxHeartbeats 8000000 in
set_option maxRecDepth 100000 in
theorem rjoin_nonneg (w : World) (n : Nat) (hn2 : 2 ≤ n) (hn : n ≤ 64) (g E F B : Nat) (R : Int) (hR : R = (g : Int)) (hg : g ≤ 64) (hE : E ≤ 3) (hF : F < 18446744073709551616) (hB : B ≤ 64) :
    Calls Tryd.prog 15 #[.int .i64 ((n : Int) + 1), fdv R E F B] w (Jn n R E F B w) := by
  have d1 : decide ((n : Int) + 1 < 3) = false := decide_eq_false (by omega)
  have d2 : decide (65 < (n : Int) + 1) = false := decide_eq_false (by omega)
  have d3 : decide (64 < R) = false := decide_eq_false (by omega)
  have d4 : decide (R < -64) = false := decide_eq_false (by omega)
  have d5 : decide ((E : Int) < 0) = false := decide_eq_false (by omega)
  have d6 : decide (3 < (E : Int)) = false := decide_eq_false (by omega)
  have d7 : decide ((B : Int) < 0) = false := decide_eq_false (by omega)
  have d8 : decide (64 < (B : Int)) = false := decide_eq_false (by omega)
  obtain ⟨E1, hE1⟩ : ∃ E1, E / 2 = E1 := ⟨_, rfl⟩
  obtain ⟨E0, hE0⟩ : ∃ E0, E % 2 = E0 := ⟨_, rfl⟩
  have q1 : (E : Int).tdiv 2 = (E1 : Int) := by rw [Int.tdiv_eq_ediv_of_nonneg (by omega)]; omega
  have q2 : (E : Int).tmod 2 = (E0 : Int) := by rw [Int.tmod_eq_emod_of_nonneg (by omega)]; omega
  have q3 : (E : Int) / 2 = (E1 : Int) := by omega
  have q4 : (E : Int) % 2 = (E0 : Int) := by omega
  have b1 : E1 < 2 := by omega
  have b0 : E0 < 2 := by omega
  have HE1 := Lib.hid hE1
  have HE0 := Lib.hid hE0
  have HR := Lib.hid hR
  clear hE1 hE0 hR
  go_enter Tryd.func15, Tryd.ntmps15
  go_wp2_with fail
  obtain ⟨V, hV⟩ : ∃ V, w.alloc (.cells #[.int .i64 R, .int .i64 (E : Int), .int .u64 (F : Int), .int .i64 (B : Int)] 29) = V := ⟨_, rfl⟩
  have a : Ob V w.heap.size 29 #[.int .i64 R, .int .i64 (E : Int), .int .u64 (F : Int), .int .i64 (B : Int)] := by rw [← hV]; exact Ob.mk_ _ _ _
  have U : Up w V := by rw [← hV]; exact (Up.refl w).alloc _
  rw [hV]
  clear hV
  have a0 := a.get 0
  have a1 := a.get 1
  have a2 := a.get 2
  have a3 := a.get 3
  simp only [List.getElem?_toArray, List.getElem?_cons_zero, List.getElem?_cons_succ] at a0 a1 a2 a3
  go_loop [6, 7] (fun sv iv => ∃ (i : Nat) (s : ByteArray), sv = .string s ∧ iv = .int .i64 (i : Int) ∧ i ≤ g + 1 ∧ St s (List.replicate i 1)) (fun _ iv => g + 1 - (intOf iv).toNat)
  case atStart => exact ⟨0, _, rfl, rfl, by omega, St.nil⟩
  case round =>
    obtain ⟨i, s, rfl, rfl, hi, hs⟩ := hrel
    have hsz : s.size = i := by rw [hs.size]; simp
    rcases (show i ≤ g ∨ i = g + 1 by omega) with hlt | rfl
    · have d9 : decide ((i : Int) ≤ R) = true := decide_eq_true (by have := HR.out; omega)
      have HS2 : Hid (St (s ++ ⟨#[49]⟩) (List.replicate (i + 1) 1)) := by rw [Hid, List.replicate_succ']; exact hs.app St.one
      clear hs
      go_wp2_with fail
      go_round
      case rel => exact ⟨i + 1, _, rfl, by go_num, by omega, HS2.out⟩
      case measure => simp [intOf]; omega
    · have d9 : decide ((g : Int) + 1 ≤ R) = false := decide_eq_false (by have := HR.out; omega)
      have d10 : decide (R < 0) = false := decide_eq_false (by have := HR.out; omega)
      have hs1 : St (s ++ ⟨#[48]⟩) (M.lead R) := by
        have h := hs.app St.zero
        unfold M.lead
        rw [if_pos (by have := HR.out; omega), show (R + 1).toNat = g + 1 by have := HR.out; omega]
        exact h
      have HS1 := Lib.hid hs1
      have hl1 : (s ++ ⟨#[48]⟩ : ByteArray).size ≤ 66 := by rw [ByteArray.size_append, hsz]; have : (⟨#[48]⟩ : ByteArray).size = 1 := rfl; omega
      obtain ⟨s1, hs1'⟩ : ∃ s1, s ++ ⟨#[48]⟩ = s1 := ⟨_, rfl⟩
      rw [hs1'] at HS1 hl1
      clear hs hs1 hi
      go_wp2_with fail
      go_loop [6, 8] (fun sv iv => sv = .string s ∧ iv = .int .i64 0) (fun _ _ => 0)
      case atStart => exact ⟨rfl, rfl⟩
      case round =>
        obtain ⟨rfl, rfl⟩ := hrel
        obtain ⟨S2, hS2⟩ : ∃ S2, dg2 E1 E0 = S2 := ⟨_, rfl⟩
        have hc2 := bit2_up V _ E1 E0 (by omega) (by omega) S2 hS2 (48 + (E1 : Int)) (48 + (E0 : Int)) rfl rfl (Up.refl _)
        have HST2 : Hid (St S2 [E / 2, E % 2]) := by rw [Hid, HE1.out, HE0.out, ← hS2]; exact St.dg2 b1 b0
        have hz2 : S2.size = 2 := by rw [← hS2]; rfl
        clear hS2
        obtain ⟨V2, hV2⟩ : ∃ V2, V.alloc (.cells #[.int .u8 (48 + (E1 : Int)), .int .u8 (48 + (E0 : Int))] 5) = V2 := ⟨_, rfl⟩
        have U2 : Up w V2 := by rw [← hV2]; exact U.alloc _
        have aa := a.up (show Up V V2 by rw [← hV2]; exact (Up.refl V).alloc _)
        rw [hV2] at hc2
        have c0 := aa.get 0
        have c1 := aa.get 1
        have c2 := aa.get 2
        have c3 := aa.get 3
        simp only [List.getElem?_toArray, List.getElem?_cons_zero, List.getElem?_cons_succ] at c0 c1 c2 c3
        go_wp2_with fail
        clear hV2 hc2
        go_loopw [9, 10, 11] (fun sv kv iv wr => ∃ (i y : Nat) (s : ByteArray), i ≤ B ∧ kv = .int .u64 (y : Int) ∧ sv = .string s ∧ iv = .int .i64 (i : Int) ∧ St s (M.bl i F) ∧ Up V2 wr ∧ Hid (y = F / 2 ^ i)) (fun _ _ iv _ => B - (intOf iv).toNat)
        case atStart => exact ⟨0, F, _, by omega, rfl, rfl, rfl, St.nil, Up.refl _, by show _ = _; simp⟩
        case round =>
          obtain ⟨i, y, T, hi, rfl, rfl, rfl, HS, U4, HY⟩ := hrel
          have HS2 := Lib.hid HS
          have hsz : T.size ≤ 64 := by rw [HS.size, M.bl_len]; omega
          have hyb : y < 18446744073709551616 := by rw [HY.out]; exact Nat.lt_of_le_of_lt (Nat.div_le_self _ _) hF
          have a3' := (aa.up U4).get 3
          simp only [List.getElem?_toArray, List.getElem?_cons_zero, List.getElem?_cons_succ] at a3'
          by_cases hlt : i < B
          · obtain ⟨b, hb⟩ : ∃ b, y % 2 = b := ⟨_, rfl⟩
            obtain ⟨y', hy'⟩ : ∃ y', y / 2 = y' := ⟨_, rfl⟩
            have q1 : (y : Int) % 2 = (b : Int) := by omega
            have q2 : (y : Int) / 2 = (y' : Int) := by omega
            have q3 : b < 2 := by omega
            obtain ⟨S, hS⟩ : ∃ S, dg b = S := ⟨_, rfl⟩
            have hst : St S [b] := by rw [← hS]; exact St.dg q3
            have hc := bit_up wr _ b (by omega) S hS (48 + (b : Int)) rfl (Up.refl _)
            have hS1 : S.size = 1 := hst.size
            have HY2 : Hid (y' = F / 2 ^ (i + 1)) := by
              show _ = _
              rw [← hy', HY.out, Nat.pow_succ, Nat.div_div_eq_div_mul]
            have HN : Hid (St (S ++ T) (M.bl (i + 1) F)) := by
              have h1 := hst.app (HS2.out)
              have h2 := M.bl_app i 1 F
              rw [Nat.add_comm 1 i] at h2
              have h3 : M.bl 1 (F / 2 ^ i) = [b] := by rw [← HY.out]; simp [M.bl, hb]
              show St _ _
              rw [h2, h3]
              exact h1
            clear HS hS hst HY hb hy'
            go_wp2_with fail
            go_roundw
            case rel => exact ⟨i + 1, y', S ++ T, hlt, rfl, rfl, by go_num, HN.out, U4.alloc _, HY2⟩
            case measure => simp [intOf]; omega
          · obtain rfl : i = B := by omega
            have U5 := U2.trans U4
            rcases Nat.eq_zero_or_pos y with y0 | y0
            · subst y0
              have hFB : F < 2 ^ i := (Nat.div_eq_zero_iff_lt (M.p2 i)).1 HY.out.symm
              have HL : Hid (St (s1 ++ S2 ++ T) (M.jl R E F i)) := by
                have h := (HS1.out.app HST2.out).app HS2.out
                rw [List.append_assoc] at h
                exact h
              obtain ⟨L1, hL1⟩ : ∃ L, s1 ++ S2 = L := ⟨_, rfl⟩
              obtain ⟨L, hL⟩ : ∃ L, L1 ++ T = L := ⟨_, rfl⟩
              rw [hL1, hL] at HL
              have hL1z : L1.size ≤ 68 := by rw [← hL1, ByteArray.size_append]; omega
              clear HS HY hlt hi
              rcases (show L.size < n ∨ n ≤ L.size by omega) with hsn | hsn
              · have HN : Hid (∀ k', ¬ M.IsF n k' R E F i) := fun k' hk => by
                  have := hk.key.1
                  rw [← HL.out.size] at this
                  omega
                go_wp2_with fail
                go_ret2
                exact Jn.none U5 HN.out
              · have HX := HL.out.ext 0 n hsn
                rw [List.drop_zero, Nat.sub_zero] at HX
                have hlen : ((M.jl R E F i).take n).length = n := by rw [List.length_take, ← HL.out.size]; omega
                obtain ⟨k, hk⟩ : ∃ k, M.vl ((M.jl R E F i).take n) = k := ⟨_, rfl⟩
                have hkn : k < 2 ^ n := by
                  have h1 := M.vl_lt (l := (M.jl R E F i).take n) (fun b hb => HL.out.two b (List.mem_of_mem_take hb))
                  rwa [hlen, hk] at h1
                have n64 : 2 ^ n ≤ 18446744073709551616 := M.p2le (b := 64) hn
                have hk64 : k < 18446744073709551616 := by omega
                have CN := Lib.hid (fun W => rnum_any W _ _ HX (by rw [hlen]; exact hn) k (Lib.hid hk))
                have HK : Hid (∀ k', M.IsF n k' R E F i → k = k') := fun k' h => by rw [← hk]; exact h.key.2
                clear HX hlen n64 hk
                rcases Nat.eq_zero_or_pos k with k0 | k0
                · subst k0
                  have CS := Lib.hid (fun W => rsplit_out W ((n : Int) + 1) 0 (by decide) (.inr (.inr (.inl rfl))))
                  have HN : Hid (∀ k', ¬ M.IsF n k' R E F i) := fun k' h => by have := HK.out k' h; have := h.rng hn; omega
                  go_wp2_with fail
                  refine (CN.out _).mono ?_
                  rintro _ _ ⟨rfl, rfl⟩
                  go_wp2_with fail
                  refine (CS.out _).mono ?_
                  rintro _ w9 ⟨rfl, u9⟩
                  have U9 := U5.trans u9
                  go_wp2_with fail
                  obtain ⟨VF, hVF⟩ : ∃ VF, w9.alloc (.cells #[.int .i64 0, .int .i64 0, .int .u64 0, .int .i64 0] 29) = VF := ⟨_, rfl⟩
                  have z := Ob.mk_ w9 29 #[.int .i64 0, .int .i64 0, .int .u64 0, .int .i64 0]
                  have af := ((aa.up U4).up u9).up (show Up w9 VF by rw [← hVF]; exact (Up.refl w9).alloc _)
                  have UF : Up w VF := by rw [← hVF]; exact U9.alloc _
                  rw [hVF] at z ⊢
                  clear hVF U9
                  have z0 := z.get 0
                  have z1 := z.get 1
                  have z2 := z.get 2
                  have z3 := z.get 3
                  have f0 := af.get 0
                  have f1 := af.get 1
                  have f2 := af.get 2
                  have f3 := af.get 3
                  simp only [List.getElem?_toArray, List.getElem?_cons_zero, List.getElem?_cons_succ] at z0 z1 z2 z3 f0 f1 f2 f3
                  go_quiet (fail)
                  go_wp2_with fail
                  go_ret2
                  exact ⟨0, false, rfl, by first | exact UF | exact UF.drewN _, by decide, (fun h => by cases h), fun k' h => absurd h (HN.out k')⟩
                · obtain ⟨R', r', q', hP⟩ := M.ps_ex hn2 k0 hkn
                  obtain ⟨E', hE'⟩ : ∃ x, M.ex r' q' = x := ⟨_, rfl⟩
                  obtain ⟨F', hF'⟩ : ∃ x, M.fr r' q' = x := ⟨_, rfl⟩
                  obtain ⟨B', hB'⟩ : ∃ x : Int, ((r' - 2 : Nat) : Int) = x := ⟨_, rfl⟩
                  have CS := Lib.hid (fun W => rsplit_in W n k r' q' R' hn hP E' F' B' (Lib.hid hE') (Lib.hid hF') (Lib.hid hB'))
                  go_wp2_with fail
                  refine (CN.out _).mono ?_
                  rintro _ _ ⟨rfl, rfl⟩
                  go_wp2_with fail
                  refine (CS.out _).mono ?_
                  rintro _ w9 ⟨rfl, u9⟩
                  have U9 := U5.trans u9
                  go_wp2_with fail
                  obtain ⟨VF, hVF⟩ : ∃ VF, w9.alloc (.cells #[.int .i64 R', .int .i64 (E' : Int), .int .u64 (F' : Int), .int .i64 B'] 29) = VF := ⟨_, rfl⟩
                  have z := Ob.mk_ w9 29 #[.int .i64 R', .int .i64 (E' : Int), .int .u64 (F' : Int), .int .i64 B']
                  have af := ((aa.up U4).up u9).up (show Up w9 VF by rw [← hVF]; exact (Up.refl w9).alloc _)
                  have UF : Up w VF := by rw [← hVF]; exact U9.alloc _
                  rw [hVF] at z ⊢
                  clear hVF U9
                  have z0 := z.get 0
                  have z1 := z.get 1
                  have z2 := z.get 2
                  have z3 := z.get 3
                  have f0 := af.get 0
                  have f1 := af.get 1
                  have f2 := af.get 2
                  have f3 := af.get 3
                  simp only [List.getElem?_toArray, List.getElem?_cons_zero, List.getElem?_cons_succ] at z0 z1 z2 z3 f0 f1 f2 f3
                  have HU : Hid (∀ k', M.IsF n k' R E F i → R' = R ∧ E' = E ∧ F' = F ∧ B' = (i : Int)) := fun k' h => by
                    have e := HK.out k' h
                    subst e
                    obtain ⟨r, q, h1, h2, h3, h4⟩ := h
                    obtain ⟨a1, a2, a3⟩ := M.ps_uniq hP h1
                    subst a2 a3
                    refine ⟨a1, by omega, by omega, by omega⟩
                  have HI : Hid (R' = R → E' = E → F' = F → B' = (i : Int) → M.IsF n k R E F i) := fun e1 e2 e3 e4 => by
                    subst e1
                    exact ⟨r', q', hP, by rw [hE', e2], by rw [hF', e3], by rw [hB', e4]⟩
                  clear hP hE' hF' hB' HK
                  rcases (show R' ≠ R ∨ (R' = R ∧ E' ≠ E) ∨ (R' = R ∧ E' = E ∧ F' ≠ F) ∨ (R' = R ∧ E' = E ∧ F' = F ∧ B' ≠ (i : Int)) ∨ (R' = R ∧ E' = E ∧ F' = F ∧ B' = (i : Int)) by omega) with hne | ⟨rfl, hne⟩ | ⟨rfl, rfl, hne⟩ | ⟨rfl, rfl, rfl, hne⟩ | ⟨rfl, rfl, rfl, rfl⟩
                  · have e1 : (R' == R) = false := by rw [beq_eq_false_iff_ne]; exact hne
                    go_quiet (fail)
                    go_wp2_with fail
                    go_ret2
                    exact ⟨k, false, rfl, by first | exact UF | exact UF.drewN _, hk64, (fun h => by cases h), fun k' h => absurd (HU.out k' h) (by intro hh; omega)⟩
                  · have e2 : ((E' : Int) == (E : Int)) = false := by rw [beq_eq_false_iff_ne]; omega
                    go_quiet (fail)
                    go_wp2_with fail
                    go_ret2
                    exact ⟨k, false, rfl, by first | exact UF | exact UF.drewN _, hk64, (fun h => by cases h), fun k' h => absurd (HU.out k' h) (by intro hh; omega)⟩
                  · have e3 : ((F' : Int) == (F : Int)) = false := by rw [beq_eq_false_iff_ne]; omega
                    go_quiet (fail)
                    go_wp2_with fail
                    go_ret2
                    exact ⟨k, false, rfl, by first | exact UF | exact UF.drewN _, hk64, (fun h => by cases h), fun k' h => absurd (HU.out k' h) (by intro hh; omega)⟩
                  · have e4 : (B' == (i : Int)) = false := by rw [beq_eq_false_iff_ne]; exact hne
                    go_quiet (fail)
                    go_wp2_with fail
                    go_ret2
                    exact ⟨k, false, rfl, by first | exact UF | exact UF.drewN _, hk64, (fun h => by cases h), fun k' h => absurd (HU.out k' h) (by intro hh; omega)⟩
                  · have HI2 := Lib.hid (HI.out rfl rfl rfl rfl)
                    clear HI HU
                    go_quiet (fail)
                    go_wp2_with fail
                    go_ret2
                    exact ⟨k, true, rfl, by first | exact UF | exact UF.drewN _, hk64, (fun _ => HI2.out), fun k' h => ⟨rfl, M.isf_uniq HI2.out h⟩⟩
            · have HN : Hid (∀ k', ¬ M.IsF n k' R E F i) := fun k' hk => by
                have h1 := (hk.rng hn).2.2.2.2.2.2.2.2
                rw [Int.toNat_natCast] at h1
                have h2 := (Nat.div_eq_zero_iff_lt (M.p2 i)).2 h1
                have := HY.out
                omega
              have y1 : ((y : Int) != 0) = true := by rw [bne_iff_ne]; omega
              clear HS HY hlt hi
              go_wp2_with fail
              go_ret2
              exact Jn.none U5 HN.out
end Go.Proofs.YtngoglhjelcdgaaDoor
