/-
  Slices of bytes that are read; the library's IndexByte, TrimLeft and TrimRight (of noughts), Grow and Concat at bytes.
-/
import Derived.Test.YtjmnobgllnaljaaGreatDoorObm
import Derived.Test.YtjmnobgllnaljaaGreatDoorShelf
import Derived.Test.YtjmnobgllnaljaaGreatDoorSn2
import Derived.Test.YtjmnobgllnaljaaGreatDoorNb
import Derived.Deep.RegionHeld3
import Derived.Deep.RegionWith
import Derived.Deep.LoopGhost
import Derived.BigQuiet
import Derived.Lib.Bytealg
namespace Go.Proofs.YtjmnobgllnaljaaGreatDoor
open Go.RowKit Go.Shelf

/-- A byte of these, as a value. -/
abbrev u8 (c : UInt8) : Value := .int .u8 (c.toNat : Int)
/-- The slice '.slice A n c', wherever it lies, reads as the bytes l. -/
structure Sb (w : World) (A : Option Addr) (n c : Nat) (l : List UInt8) : Prop where
  num : l.length = n
  len : n ≤ c
  none_ : A = none → c = 0
  at_ : ∀ ad, A = some ad → ∀ j, j < n → w.cell? (ad.add j) = some (u8 (l.getD j 0))
section
variable {w w' : World} {A : Option Addr} {n c : Nat} {l : List UInt8}
theorem Sb.ad (h : Sb w A n c l) (h0 : 0 < n) : ∃ ad, A = some ad := by
  rcases A with _ | ad
  · have := h.none_ rfl
    have := h.len
    omega
  · exact ⟨ad, rfl⟩
theorem Sb.up (h : Sb w A n c l) (hu : Up w w') : Sb w' A n c l := by
  refine ⟨h.num, h.len, h.none_, fun ad hA j hj => ?_⟩
  have h1 := h.at_ ad hA j hj
  rw [Below.cell hu (World.block_lt_of_cell? w _ h1)]
  exact h1
theorem Sb.nil (w : World) (c : Nat) (ad : Addr) : Sb w (some ad) 0 c [] := ⟨rfl, Nat.zero_le _, (fun e => by cases e), fun _ _ j hj => absurd hj (Nat.not_lt_zero j)⟩
theorem Sb.nil0 (w : World) : Sb w none 0 0 [] := ⟨rfl, Nat.le_refl _, (fun _ => rfl), fun _ e => by cases e⟩
theorem add_add (a : Addr) (i j : Nat) : (a.add i).add j = a.add (i + j) := by
  unfold Addr.add
  by_cases hi : i = 0
  · subst hi; simp
  · by_cases hj : j = 0
    · subst hj; simp [hi]
    · simp [hi, hj, Nat.add_assoc]
/-- Where a piece begins. -/
def Adr (A : Option Addr) (c i : Nat) : Option Addr := if c = i then A else A.map (·.add i)
/-- A piece of it. -/
theorem Sb.piece (h : Sb w A n c l) {i j : Nat} (hij : i ≤ j) (hj : j ≤ n) : Sb w (Adr A c i) (j - i) (c - i) ((l.drop i).take (j - i)) := by
  have hl := h.num
  have hc := h.len
  refine ⟨by rw [List.length_take, List.length_drop]; omega, by omega, fun e => ?_, fun ad e k hk => ?_⟩
  · unfold Adr at e
    split at e
    · have := h.none_ e; omega
    · cases hA : A with
      | none => have := h.none_ hA; omega
      | some a => rw [hA] at e; cases e
  · unfold Adr at e
    rw [if_neg (by omega)] at e
    cases hA : A with
    | none => rw [hA] at e; cases e
    | some a =>
      rw [hA] at e
      simp only [Option.map_some, Option.some.injEq] at e
      subst e
      have e : l.getD (i + k) 0 = ((l.drop i).take (j - i)).getD k 0 := by
        rw [List.getD_eq_getElem?_getD, List.getD_eq_getElem?_getD, List.getElem?_take_of_lt hk, List.getElem?_drop]
      rw [add_add, h.at_ a hA (i + k) (by omega), e]
end
theorem Sb.oth {w V : World} {g : Nat} {A : Option Addr} {n c : Nat} {l : List UInt8} (h : Sb w A n c l) (ho : ∀ b', b' ≠ g → V.heap[b']? = w.heap[b']?) (hg : ∀ ad, A = some ad → ad.block ≠ g) : Sb V A n c l := by
  refine ⟨h.num, h.len, h.none_, fun ad hA j hj => ?_⟩
  have h1 := h.at_ ad hA j hj
  have hb : (ad.add j).block = ad.block := by unfold Addr.add; split <;> rfl
  rw [← h1]
  exact World.cell?_of_block (w := w) (ho _ (by rw [hb]; exact hg ad hA))

theorem size_u8 : ∀ w, (Go.sizeOf 5).run Tryz.prog w = .ok 1 w := by intro w; kernel_rfl
theorem elem_bs : Tryz.prog.elem 67 = 5 := by kernel_rfl
theorem und_bs : Tryz.prog.underlying 67 = some (.slice (Tryz.prog.elem 67)) := by rw [elem_bs]; exact Tryz.underlying67
/-- 'b[i:j]', as the walk meets it. -/
theorem slice_ij (A : Option Addr) (n c i j : Nat) (hij : i ≤ j) (hj : j ≤ c) (W : World) :
    (Instr.slice 67 (.slice A n c) (some (.int .i64 (i : Int))) (some (.int .i64 (j : Int))) none).run Tryz.prog W = .ok (.slice (Adr A c i) (j - i) (c - i)) W := by
  rw [run_slice_lh W _ A n c und_bs .i64 .i64 _ _ (by omega) (by omega) (by omega), elem_bs, size_u8]
  simp [Result.andThen, sliced, Adr]
theorem slice_i (A : Option Addr) (n c i : Nat) (hi : i ≤ n) (W : World) :
    (Instr.slice 67 (.slice A n c) (some (.int .i64 (i : Int))) none none).run Tryz.prog W = .ok (.slice (Adr A c i) (n - i) (c - i)) W := by
  rw [run_slice_l W _ A n c und_bs .i64 _ (by omega) (by omega), elem_bs, size_u8]
  simp [Result.andThen, sliced, Adr]
theorem slice_j (A : Option Addr) (n c j : Nat) (hj : j ≤ c) (hA : A = none → c = 0) (W : World) :
    (Instr.slice 67 (.slice A n c) none (some (.int .i64 (j : Int))) none).run Tryz.prog W = .ok (.slice A j c) W := by
  rw [run_slice_h W _ A n c und_bs .i64 _ (by omega) (by omega), elem_bs, size_u8]
  cases A with
  | none => simp [Result.andThen, sliced, hA rfl]
  | some a => simp [Result.andThen, sliced, Addr.add]

/-- Where a byte is found, or not. -/
theorem ix_any (w : World) (s : ByteArray) (ts : List UInt8) (hs : s.data.toList = ts) (c : UInt8) (z : Int) (hz : Hid (Lib.indexByte ts c = z)) : Calls Tryz.prog 118 #[.string s, u8 c] w (Same (.int .i64 z) w) := by
  have h := Tryz.strings_IndexByte s (c.toNat : Int) w
  rw [hs] at h
  have e : ((c.toNat : Int).toNat.toUInt8) = c := by
    apply UInt8.toNat_inj.1
    simp
  rw [e, hz.out] at h
  exact h.mono fun e w' ⟨h1, h2⟩ => ⟨h1, h2.symm⟩
theorem ix_neg (ts : List UInt8) (c : UInt8) : decide (Lib.indexByte ts c < 0) = !(ts.contains c) := by
  have key : ∀ l : List UInt8, Lib.indexByte l c < 0 ↔ ¬ l.contains c = true := by
    intro l
    induction l with
    | nil => simp [Lib.indexByte]
    | cons b t ih =>
      have hge := Lib.indexByte_ge t c
      rw [Lib.indexByte, List.contains_cons]
      by_cases hb : b = c
      · subst hb; simp
      · have h1 : (b == c) = false := by simp [hb]
        have h2 : (c == b) = false := by simp [Ne.symm hb]
        rw [h1, h2, Bool.false_or, ← ih]
        by_cases hn : Lib.indexByte t c = -1
        · simp [hn]
        · have h3 : (Lib.indexByte t c == -1) = false := by simp [hn]
          rw [h3]
          simp only [Bool.false_eq_true, if_false]
          constructor
          · intro h; omega
          · intro h; omega
  rw [Bool.eq_iff_iff, decide_eq_true_iff, key ts]
  simp

/-- A call of the closure that goes by the next byte, if it is one of these. -/
def Tk (ga i : Nat) (t : Bool) (w : World) (e : Ending) (w' : World) : Prop := e = .returned (.bool t) ∧ Kb ga ga w w' ∧ Ob w' ga 3 #[.int .i64 ((if t = true then i + 1 else i : Nat) : Int)]
set_option maxHeartbeats 2000000 in
set_option maxRecDepth 100000 in
theorem took_any (w : World) (ga gp gb i n c : Nat) (A : Option Addr) (l : List UInt8) (s : ByteArray) (ts : List UInt8) (hs : s.data.toList = ts)
    (hp : Ob w gp 134 #[.pointer (some ⟨ga, 0, none⟩)]) (hb : Ob w gb 67 #[.slice A n c]) (ha : Ob w ga 3 #[.int .i64 (i : Int)]) (hS : Sb w A n c l) (hi : i ≤ n) (hn : n ≤ 1000000000)
    (t : Bool) (ht : Hid ((decide (i < n) && ts.contains (l.getD i 0)) = t)) :
    Calls Tryz.prog 117 #[.string s, .pointer (some ⟨gp, 0, none⟩), .pointer (some ⟨gb, 0, none⟩)] w (Tk ga i t w) := by
  have cp := hp.get 0
  have cb := hb.get 0
  have ca := ha.get 0
  have fa := ha.fr 0
  simp only [List.getElem?_toArray, List.getElem?_cons_zero] at cp cb ca
  have HA := Lib.hid ha
  have HT := ht.out
  clear hp hb ha ht
  by_cases hlt : i < n
  · obtain ⟨ad, rfl⟩ := hS.ad (Nat.lt_of_le_of_lt (Nat.zero_le _) hlt)
    obtain ⟨x, hx⟩ : ∃ x, l.getD i 0 = x := ⟨_, rfl⟩
    have cx := hS.at_ ad rfl i hlt
    rw [hx] at cx HT
    obtain ⟨z, hz⟩ : ∃ z, Lib.indexByte ts x = z := ⟨_, rfl⟩
    have C := Lib.hid (fun W => ix_any W s ts hs x z hz)
    have hd : decide (z < 0) = !t := by
      rw [← hz, ix_neg, ← HT, decide_eq_true hlt, Bool.true_and]
    have d : ((i : Int) == (n : Int)) = false := by rw [beq_eq_false_iff_ne]; omega
    have HT2 := Lib.hid HT
    have HS := Lib.hid hS
    clear HT hz hs hx hS
    go_enter Tryz.func117, Tryz.ntmps117
    go_wp2_with fail
    go_quiet ((go_at_call 118; exact Same.quiet (C.out _)))
    cases t with
    | false =>
      go_wp2_with fail
      go_ret
      exact ⟨rfl, Kb.of_up ((Up.refl _).drewN _), HA.out.drewN _⟩
    | true =>
      go_wp2_with fail
      go_ret
      exact ⟨rfl, (Kb.of_up ((Up.refl _).drewN _)).setIn (p := ⟨ga, 0, none⟩) (.inl rfl) _, (HA.out.drewN _).put 0 _⟩
  · obtain rfl : i = n := by omega
    have d : ((i : Int) == (i : Int)) = true := by simp
    have HT2 := Lib.hid HT
    have HS := Lib.hid hS
    clear HT hs hS hlt
    go_enter Tryz.func117, Tryz.ntmps117
    go_wp2_with fail
    go_quiet (fail)
    go_wp2_with fail
    go_ret
    obtain rfl : t = false := by rw [← HT2.out]; simp
    exact ⟨rfl, Kb.of_up ((Up.refl _).drewN _), HA.out.drewN _⟩

/-- How far digits go, from i on. -/
def M.dgt (l : List UInt8) (i m : Nat) : Prop := i ≤ m ∧ m ≤ l.length ∧ (∀ j, i ≤ j → j < m → M.isD (l.getD j 0) = true) ∧ (m < l.length → M.isD (l.getD m 0) = false)
theorem M.dgt_ex (l : List UInt8) : ∀ (k i : Nat), l.length - i = k → i ≤ l.length → ∃ m, M.dgt l i m
  | 0, i, hk, hi => ⟨i, Nat.le_refl _, hi, fun j h1 h2 => by omega, fun h => by omega⟩
  | k + 1, i, hk, hi => by
    cases hd : M.isD (l.getD i 0) with
    | false => exact ⟨i, Nat.le_refl _, hi, (fun j h1 h2 => by omega), fun _ => hd⟩
    | true =>
      obtain ⟨m, h1, h2, h3, h4⟩ := M.dgt_ex l k (i + 1) (by omega) (by omega)
      refine ⟨m, by omega, h2, fun j k1 k2 => ?_, h4⟩
      rcases Nat.eq_or_lt_of_le k1 with e | e
      · rw [← e]; exact hd
      · exact h3 j e k2
def digs : List UInt8 := [48, 49, 50, 51, 52, 53, 54, 55, 56, 57]
theorem digs_has (c : UInt8) : digs.contains c = M.isD c := by
  rw [Bool.eq_iff_iff, M.isD_iff]
  simp only [digs, List.contains_cons, List.contains_nil, Bool.or_false, Bool.or_eq_true, beq_iff_eq]
  have key : ∀ k : UInt8, c = k ↔ c.toNat = k.toNat := fun k => UInt8.toNat_inj.symm
  simp only [key]
  show (c.toNat = 48 ∨ c.toNat = 49 ∨ c.toNat = 50 ∨ c.toNat = 51 ∨ c.toNat = 52 ∨ c.toNat = 53 ∨ c.toNat = 54 ∨ c.toNat = 55 ∨ c.toNat = 56 ∨ c.toNat = 57) ↔ _
  omega
/-- The variables that both closures know; what came in lies below them all. -/
structure Cv9 (w0 w : World) (ga gp gb gt gd : Nat) (A : Option Addr) (n c i : Nat) (l : List UInt8) : Prop where
  p : Ob w gp 134 #[.pointer (some ⟨ga, 0, none⟩)]
  b : Ob w gb 67 #[.slice A n c]
  d : Ob w gd 67 #[.slice A n c]
  a : Ob w ga 3 #[.int .i64 (i : Int)]
  t : Ob w gt 132 #[.func (Fn.func 117) #[] #[.pointer (some ⟨gp, 0, none⟩), .pointer (some ⟨gb, 0, none⟩)]]
  s : Sb w0 A n c l
  up : Up w0 w
  lo : w0.heap.size ≤ ga
  np : gp ≠ ga
  nb : gb ≠ ga
  nd : gd ≠ ga
  nt : gt ≠ ga

theorem Ob.kb {w w' : World} {b b1 b2 : Nat} {ty : TypeId} {cs : Array Value} (h : Ob w b ty cs) (k : Kb b1 b2 w w') (h1 : b ≠ b1) (h2 : b ≠ b2) : Ob w' b ty cs := (k.block b h.lt h1 h2).trans h
theorem Cv9.kb {w0 w w' : World} {ga gp gb gt gd : Nat} {A : Option Addr} {n c i j : Nat} {l : List UInt8} (h : Cv9 w0 w ga gp gb gt gd A n c i l) (k : Kb ga ga w w') (a : Ob w' ga 3 #[.int .i64 (j : Int)]) : Cv9 w0 w' ga gp gb gt gd A n c j l :=
  ⟨h.p.kb k h.np h.np, h.b.kb k h.nb h.nb, h.d.kb k h.nd h.nd, a, h.t.kb k h.nt h.nt, h.s, k.up h.up h.lo h.lo, h.lo, h.np, h.nb, h.nd, h.nt⟩
theorem Cv9.oth {w0 w w' : World} {ga gp gb gt gd g : Nat} {A : Option Addr} {n c i : Nat} {l : List UInt8} (h : Cv9 w0 w ga gp gb gt gd A n c i l) (ho : ∀ b', b' ≠ g → w'.heap[b']? = w.heap[b']?) (u : Up w0 w') (h1 : ga ≠ g) (h2 : gp ≠ g) (h3 : gb ≠ g) (h4 : gt ≠ g) (h5 : gd ≠ g) : Cv9 w0 w' ga gp gb gt gd A n c i l :=
  ⟨h.p.oth ho h2, h.b.oth ho h3, h.d.oth ho h5, h.a.oth ho h1, h.t.oth ho h4, h.s, u, h.lo, h.np, h.nb, h.nd, h.nt⟩
theorem Kb.refl (b b' : Nat) (w : World) : Kb b b' w w := Kb.of_up (Up.refl w)

set_option maxHeartbeats 2000000 in
set_option maxRecDepth 100000 in
theorem digits_any (w0 w : World) (ga gp gb gt gd i n c : Nat) (A : Option Addr) (l : List UInt8) (C9 : Cv9 w0 w ga gp gb gt gd A n c i l) (hn : n ≤ 1000000000) (m : Nat) (hm : Hid (M.dgt l i m)) :
    Calls Tryz.prog 98 #[.pointer (some ⟨ga, 0, none⟩), .pointer (some ⟨gt, 0, none⟩), .pointer (some ⟨gd, 0, none⟩)] w
      (fun e w' => e = .returned (.slice (Adr A c i) (m - i) (c - i)) ∧ Kb ga ga w w' ∧ Cv9 w0 w' ga gp gb gt gd A n c m l) := by
  have hln := C9.s.num
  have hnc := C9.s.len
  have him := hm.out.1
  have hml := hm.out.2.1
  have ca := C9.a.get 0
  simp only [List.getElem?_toArray, List.getElem?_cons_zero] at ca
  have HC := Lib.hid C9
  clear C9
  go_enter Tryz.func98, Tryz.ntmps98
  go_wp2_with fail
  go_loopg [] (n - i) (fun g wr => ∃ j, i ≤ j ∧ j ≤ m ∧ g = n - j ∧ Kb ga ga w wr ∧ Cv9 w0 wr ga gp gb gt gd A n c j l)
  case atStart => exact ⟨i, Nat.le_refl _, him, rfl, Kb.refl _ _ _, HC.out⟩
  case round =>
    obtain ⟨j, hij, hjm, rfl, K, C⟩ := hrel
    have ct := C.t.get 0
    simp only [List.getElem?_toArray, List.getElem?_cons_zero] at ct
    clear ca
    by_cases hj : j < m
    · have CT := Lib.hid (took_any wr ga gp gb j n c A l ⟨#[48, 49, 50, 51, 52, 53, 54, 55, 56, 57]⟩ digs rfl C.p C.b C.a (C.s.up C.up) (by omega) hn true (by
        show _ = _
        rw [digs_has, hm.out.2.2.1 j hij hj, decide_eq_true (by omega)]
        rfl))
      go_wp2_with fail
      refine CT.out.mono ?_
      rintro _ w2 ⟨rfl, k2, a2⟩
      rw [if_pos rfl] at a2
      have C2 := C.kb k2 a2
      have K2 := K.trans k2
      clear CT ct k2 a2
      go_wp2_with fail
      go_roundg (n - (j + 1))
      case measure => omega
      case rel => exact ⟨j + 1, by omega, hj, rfl, K2, C2⟩
    · obtain rfl : j = m := by omega
      have CT := Lib.hid (took_any wr ga gp gb j n c A l ⟨#[48, 49, 50, 51, 52, 53, 54, 55, 56, 57]⟩ digs rfl C.p C.b C.a (C.s.up C.up) (by omega) hn false (by
        show _ = _
        rw [digs_has]
        rcases Nat.lt_or_ge j n with h | h
        · rw [hm.out.2.2.2 (by omega), Bool.and_false]
        · rw [decide_eq_false (by omega), Bool.false_and]))
      go_wp2_with fail
      refine CT.out.mono ?_
      rintro _ w2 ⟨rfl, k2, a2⟩
      rw [if_neg Bool.false_ne_true] at a2
      have C2 := C.kb k2 a2
      have K2 := K.trans k2
      have ca := C2.a.get 0
      have cd := C2.d.get 0
      simp only [List.getElem?_toArray, List.getElem?_cons_zero] at ca cd
      have hs := slice_ij A n c i j hij (by omega) w2
      have HC2 := Lib.hid C2
      have HK2 := Lib.hid K2
      clear CT ct k2 a2 C2 K2 K C hm
      go_wp2_with fail
      go_ret
      exact ⟨rfl, HK2.out, HC2.out⟩

set_option maxHeartbeats 2000000 in
set_option maxRecDepth 100000 in
theorem taker_any (w : World) (ga n c : Nat) (A : Option Addr) :
    Calls Tryz.prog 97 #[.slice A n c, .pointer (some ⟨ga, 0, none⟩)] w
      (fun e w' => ∃ gp gb, e = .returned (.func (Fn.func 117) #[] #[.pointer (some ⟨gp, 0, none⟩), .pointer (some ⟨gb, 0, none⟩)]) ∧ Ob w' gp 134 #[.pointer (some ⟨ga, 0, none⟩)] ∧ Ob w' gb 67 #[.slice A n c] ∧ Up w w' ∧ w.heap.size ≤ gp ∧ w.heap.size ≤ gb) := by
  have hmf : ∀ (fn : Fn) (first cap : Array Value) (w : World), (Instr.makeFunc fn first cap).run Tryz.prog w = .ok (.func fn first cap) w := fun _ _ _ _ => rfl
  go_enter Tryz.func97, Tryz.ntmps97
  go_wp2_with fail
  go_ret
  refine ⟨w.heap.size + 1, w.heap.size, rfl, ?_, (Ob.mk_ w _ _).up ((Up.refl _).alloc _), ((Up.refl w).alloc _).alloc _, Nat.le_succ _, Nat.le_refl _⟩
  have := Ob.mk_ (w.alloc (.cells #[.slice A n c] 67)) 134 #[.pointer (some ⟨ga, 0, none⟩)]
  rwa [show (w.alloc (.cells #[.slice A n c] 67)).heap.size = w.heap.size + 1 from Array.size_push _] at this
end Go.Proofs.YtjmnobgllnaljaaGreatDoor
