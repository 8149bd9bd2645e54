/-
  Appending to a slice of bytes in memory of one's own, marked or not; the walk of ScanWords: true, and nothing that was there has turned.
-/
import Derived.Test.YtpmpdecaadfnmaaDoorSw
import Derived.Deep.AppendSrc
import Derived.Lib.ConvBytes
namespace Go.Proofs.YtpmpdecaadfnmaaDoor
open Go.RowKit Go.Shelf
set_option linter.unusedVariables false

theorem up_setCells {w0 : World} (g : Nat) (hg : w0.heap.size ≤ g) : ∀ (vs : List Value) (o : Nat) (w : World), Up w0 w → Up w0 (w.setCells g o vs)
  | [], _, _, h => h
  | v :: r, o, w, h => up_setCells g hg r (o + 1) _ (h.setCell (p := ⟨g, o, none⟩) hg v)

theorem src_sb {w : World} {A : Option Addr} {m c : Nat} {cs : List UInt8} (hX : Sb w A m c cs) : Go.Src Tryd.prog 1 22 (.slice A m c) m (Lib.byteCells cs) w := by
  have hm := hX.num
  cases A with
  | none =>
    have hc0 := hX.none_ rfl
    have hlen := hX.len
    have hm0 : m = 0 := by omega
    subst hm0
    obtain rfl : cs = [] := List.eq_nil_of_length_eq_zero hm
    exact Go.Src.ofNil w Tryd.underlying22 c
  | some ad =>
    refine Go.Src.ofSlice w Tryd.underlying22 ad m c _ (by rw [Lib.byteCells_length]; omega) ?_ (Lib.byteCells_one _)
    intro j u hu
    have hj : j < m := by
      have := (List.getElem?_eq_some_iff.1 hu).1
      rw [Lib.byteCells_length] at this; omega
    rw [hX.at_ ad rfl j hj, ← hu]
    simp [Lib.byteCells, List.getD_eq_getElem?_getD, List.getElem?_eq_getElem (show j < cs.length by omega)]
theorem byteCells_at (cs : List UInt8) (j : Nat) (hj : j < cs.length) : (Lib.byteCells cs)[j]? = some (.int .u8 ((cs.getD j 0).toNat : Int)) := by
  simp [Lib.byteCells, List.getD_eq_getElem?_getD, List.getElem?_eq_getElem hj]

theorem append_mark (w0 w : World) (ty : TypeId) (hU : Up w0 w) (g : Nat) (hg : w0.heap.size ≤ g) (n cap : Nat) (ws : List UInt8) (hS : Sb w (some ⟨g, 0, none⟩) n cap ws)
    (hsp : ∀ j, j < cap → (w.cell? ⟨g, j, none⟩).isSome = true ∧ w.frozen? ⟨g, j, none⟩ = false) (A : Option Addr) (m c : Nat) (cs : List UInt8) (hX : Sb w A m c cs) (hnm : n + m ≤ 1000) :
    ∃ ad c' w', (Builtin.append_ #[22, 22] ty #[.slice (some ⟨g, 0, none⟩) n cap, .slice A m c]).run Tryd.prog w = .ok (.slice (some ad) (n + m) c') w' ∧ Sb w' (some ad) (n + m) c' (ws ++ cs) ∧ Up w0 w' := by
  obtain ⟨i, hi, hz0, hz1, hz2⟩ := info_parts info_u8
  have hn := hS.num
  have hm := hX.num
  have hs := src_sb hX
  rw [← hz1] at hs
  have hL : (Lib.byteCells cs).length = m := by rw [Lib.byteCells_length]; exact hm
  have hLw : (Lib.byteCells ws).length = n := by rw [Lib.byteCells_length]; exact hn
  by_cases hroom : n + m ≤ cap
  · have hr := run_append_room_src (P := Tryd.prog) w 22 22 ty 5 i Tryd.underlying22 hi g 0 n cap _ m _ hs hroom
      (fun j hj => by rw [hz1]; exact (hsp _ (by omega)).1) (fun j hj => by rw [hz1]; exact (hsp _ (by omega)).2)
    refine ⟨_, _, _, hr, ⟨by rw [List.length_append]; omega, hroom, (fun e => by cases e), fun ad e j hj => ?_⟩, up_setCells g hg _ _ _ hU⟩
    cases e
    rw [Addr.add_lit, show (0 : Nat) + j = j from Nat.zero_add j]
    by_cases h1 : j < n
    · rw [World.cell?_setCells_out g _ _ _ _ (fun _ _ => .inl (by rw [hz1]; show j < 0 + n * 1; omega))]
      have := hS.at_ _ rfl j h1
      rw [Addr.add_lit, show (0 : Nat) + j = j from Nat.zero_add j] at this
      rw [this, List.getD_eq_getElem?_getD, List.getD_eq_getElem?_getD, List.getElem?_append_left (by omega)]
    · have h2 := World.cell?_setCells_in g (Lib.byteCells cs) (0 + n * i.size) w (fun j hj => by rw [hz1]; exact (hsp _ (by omega)).1) (j - n) (by omega)
      rw [hz1, show 0 + n * 1 + (j - n) = j from by omega] at h2
      rw [hz1, h2, ← List.getElem?_eq_getElem, byteCells_at cs (j - n) (by omega), List.getD_eq_getElem?_getD, List.getD_eq_getElem?_getD, List.getElem?_append_right (by omega), hn]
  · have hold := run_firstCells_some (P := Tryd.prog) w.drew i.size n ⟨g, 0, none⟩ n cap (Lib.byteCells ws) (by rw [hLw, hz1]; omega) (fun j v hv => by
      have hj : j < n := by
        have := (List.getElem?_eq_some_iff.1 hv).1
        omega
      have := hS.at_ _ rfl j hj
      show w.cell? _ = _
      rw [this, ← hv, byteCells_at ws j (by omega)])
    have hr := run_append_grow_src (P := Tryd.prog) w 22 22 ty 5 i _ Tryd.underlying22 hi hz0 (some ⟨g, 0, none⟩) n cap _ hold _ m _ hs (by omega) (by omega) (growslice_fits (by omega) (by rw [hz2]; omega))
    refine ⟨_, _, _, hr, ⟨by rw [List.length_append]; omega, grownCap_ge w _ _ _, (fun e => by cases e), fun ad e j hj => ?_⟩, hU.drew.alloc _⟩
    cases e
    rw [Addr.add_lit, show (0 : Nat) + j = j from Nat.zero_add j]
    have e1 := World.cell?_alloc_new w.drew ((Lib.byteCells ws ++ Lib.byteCells cs).toArray ++ Builtin.zeroCells (Value.int .u8 0).cells (grownCap w (n + m) cap 5 - (n + m))) 5 j
    refine e1.trans ?_
    rw [← Lib.byteCells_append]
    rw [Array.getElem?_append_left (by simp only [List.size_toArray]; rw [Lib.byteCells_length, List.length_append]; omega), List.getElem?_toArray, byteCells_at _ j (by rw [List.length_append]; omega)]

/-- A text's bytes, to append to. -/
theorem conv_spare (w : World) (s : ByteArray) : ∀ j, j < grownCap w s.size 0 5 → ((Lib.bytesWorld w 5 s).cell? ⟨w.heap.size, j, none⟩).isSome = true ∧ (Lib.bytesWorld w 5 s).frozen? ⟨w.heap.size, j, none⟩ = false := by
  intro j hj
  have hb := Lib.bytesWorld_at_new w 5 s
  have hsz : (Lib.bytesCells w 5 s).size = grownCap w s.size 0 5 := by
    have := grownCap_ge w s.size 0 5
    simp [Lib.bytesCells]
    have e : s.data.size = s.size := rfl
    omega
  constructor
  · simp [World.cell?, hb, hsz, hj]
  · simp [World.frozen?, hb]
    omega
theorem conv_str2 (w : World) (s : ByteArray) (l : List UInt8) (hl : s.data.toList = l) :
    ∃ c W, (convert 9 22 (.string s)).run Tryd.prog w = .ok (.slice (some ⟨w.heap.size, 0, none⟩) s.size c) W ∧ Sb W (some ⟨w.heap.size, 0, none⟩) s.size c l ∧ Up w W ∧ (∀ j, j < c → (W.cell? ⟨w.heap.size, j, none⟩).isSome = true ∧ W.frozen? ⟨w.heap.size, j, none⟩ = false) := by
  refine ⟨grownCap w s.size 0 5, Lib.bytesWorld w 5 s, Lib.run_convert_string_bytes w 9 22 5 s Tryd.underlying9 Tryd.underlying22 Tryd.underlying5, ?_, ?_, conv_spare w s⟩
  · refine ⟨by rw [← hl]; exact Array.length_toList, grownCap_ge w _ 0 5, (fun e => by cases e), fun ad e j hj => ?_⟩
    cases e
    rw [Addr.add_lit, Nat.zero_add, Lib.bytesWorld_cell w 5 s j hj, hl]
  · exact ⟨rfl, rfl, rfl, by show w.heap.size ≤ _; rw [Lib.bytesWorld_size]; omega, fun k hk => Lib.bytesWorld_at_old w 5 s k hk⟩

namespace M
theorem nx_past (s c : Nat) (h : s = 12 ∨ s = 22 ∨ s = 32) : nx s c = 99 := by
  unfold nx
  rcases h with rfl | rfl | rfl <;> simp
def wd : Nat → List UInt8
  | 0 => [105, 110, 102]
  | 1 => [110, 97, 110]
  | _ => [78, 97, 82]
theorem rs_over (q : Nat) (hq : q < 3) (cs : List UInt8) (h : cs ≠ []) : rs (wd q ++ cs) = (⟨0, false, ⟨0, 0, 0, false⟩⟩, 3, 2) := by
  apply rs_error
  cases cs with
  | nil => exact absurd rfl h
  | cons c r =>
    have hq2 : q = 0 ∨ q = 1 ∨ q = 2 := by omega
    rcases hq2 with rfl | rfl | rfl
    · exact if_pos (nx_past 12 c.toNat (.inl rfl))
    · exact if_pos (nx_past 22 c.toNat (.inr (.inl rfl)))
    · exact if_pos (nx_past 32 c.toNat (.inr (.inr rfl)))
theorem rs_word (q : Nat) (hq : q < 3) : rs (wd q) = (⟨q + 2, false, ⟨0, 0, 0, false⟩⟩, 0, 0) := by
  have hq2 : q = 0 ∨ q = 1 ∨ q = 2 := by omega
  rcases hq2 with rfl | rfl | rfl <;> rfl
theorem rs_part (q t : Nat) (hq : q < 3) (ht : t < 3) : rs ((wd q).take t) = (⟨0, false, ⟨0, 0, 0, false⟩⟩, t, 2) := by
  have hq2 : q = 0 ∨ q = 1 ∨ q = 2 := by omega
  have ht2 : t = 0 ∨ t = 1 ∨ t = 2 := by omega
  rcases hq2 with rfl | rfl | rfl <;> rcases ht2 with rfl | rfl | rfl <;> rfl
end M
end Go.Proofs.YtpmpdecaadfnmaaDoor
