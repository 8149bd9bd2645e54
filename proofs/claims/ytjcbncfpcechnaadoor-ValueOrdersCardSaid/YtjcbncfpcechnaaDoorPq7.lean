/-
  Package posit: caught.
-/
import Derived.Test.YtjcbncfpcechnaaDoorPq5
import Derived.Defers
import Derived.Recover
namespace Go.Proofs.YtjcbncfpcechnaaDoor
open Go.RowKit Go.Shelf

theorem and_3i (x : Int) : bits BinOp.and IntKind.i64 x 3 = x % 4 := by
  show IntKind.i64.wrap ((BitVec.ofInt 64 x &&& BitVec.ofInt 64 3).toNat : Int) = _
  rw [BitVec.toNat_and, show (BitVec.ofInt 64 3).toNat = 2 ^ 2 - 1 from rfl, Nat.and_two_pow_sub_one_eq_mod]
  have h5 : (BitVec.ofInt 64 x).toNat = (x % 18446744073709551616).toNat := by rw [BitVec.toNat_ofInt]; rfl
  rw [h5]
  have e : (((x % 18446744073709551616).toNat % 2 ^ 2 : Nat) : Int) = x % 4 := by
    have : (2 : Nat) ^ 2 = 4 := by decide
    rw [this]
    omega
  rw [e]
  exact IntWalk.i64_in _ (by omega)
/-- The numbers that fieldsOf goes over. -/
structure Fo5 (n m0 m t p : Nat) (e0 pw R : Int) : Prop where
  lt : m0 < 18446744073709551616
  odd : m % 2 = 1
  eq : m0 = m * 2 ^ t
  len : M.bits m = p + 1
  pwr : IntKind.i64.wrap (IntKind.i64.wrap (e0 + t) + p) = pw
  reg : pw / 4 = R
theorem Fo5.t63 {n m0 m t p : Nat} {e0 pw R : Int} (h : Fo5 n m0 m t p e0 pw R) : t ≤ 63 ∧ p ≤ 63 ∧ m < 18446744073709551616 ∧ 2 ^ p ≤ m ∧ m < 2 ^ (p + 1) := by
  have h1 : 2 ^ t ≤ m * 2 ^ t := Nat.le_mul_of_pos_left _ (by have := h.odd; omega)
  have h2 : m ≤ m * 2 ^ t := Nat.le_mul_of_pos_right _ (M.p2 t)
  rw [← h.eq] at h1 h2
  have lt := h.lt
  have h3 : (2 : Nat) ^ 64 = 18446744073709551616 := by decide
  have a := M.p2inj (a := t) (b := 64) (by omega)
  have hm0 : m ≠ 0 := by have := h.odd; omega
  have l := M.bits_le hm0
  have u := M.bits_lt m
  rw [h.len, Nat.add_sub_cancel] at l
  rw [h.len] at u
  have b := M.p2inj (a := p) (b := 64) (by omega)
  exact ⟨by omega, by omega, by omega, l, u⟩
end Go.Proofs.YtjcbncfpcechnaaDoor
namespace Go.Proofs.YtjcbncfpcechnaaDoor
open Go.RowKit Go.Shelf

/-- Nothing has turned but what the blocks b and b' hold, and what is new. -/
structure Kb (b b' : Nat) (w w' : World) : Prop where
  os : w'.os = w.os
  tape : w'.tape = w.tape
  output : w'.output = w.output
  size : w.heap.size ≤ w'.heap.size
  block : ∀ k, k < w.heap.size → k ≠ b → k ≠ b' → w'.heap[k]? = w.heap[k]?
theorem Kb.of_up {b b' : Nat} {w w' : World} (h : Up w w') : Kb b b' w w' := ⟨h.os, h.tape, h.output, Up.size h, fun k hk _ _ => Below.block h k hk⟩
theorem Kb.trans {b b' : Nat} {w w' w'' : World} (h : Kb b b' w w') (g : Kb b b' w' w'') : Kb b b' w w'' :=
  ⟨g.os.trans h.os, g.tape.trans h.tape, g.output.trans h.output, Nat.le_trans h.size g.size, fun k hk h1 h2 => (g.block k (Nat.lt_of_lt_of_le hk h.size) h1 h2).trans (h.block k hk h1 h2)⟩
theorem Kb.up {b b' : Nat} {w0 w w' : World} (h : Kb b b' w w') (U : Up w0 w) (h1 : w0.heap.size ≤ b) (h2 : w0.heap.size ≤ b') : Up w0 w' := by
  have hs := Up.size U
  exact ⟨h.os.trans U.os, h.tape.trans U.tape, h.output.trans U.output, Nat.le_trans hs h.size, fun k hk => (h.block k (Nat.lt_of_lt_of_le hk hs) (by omega) (by omega)).trans (Below.block U k hk)⟩
theorem Kb.setNew {b b' : Nat} {w w' : World} (h : Kb b b' w w') {p : Addr} (hp : w.heap.size ≤ p.block) (v : Value) : Kb b b' w (w'.setCell p v) :=
  ⟨h.os, h.tape, h.output, (show w.heap.size ≤ (w'.setCell p v).heap.size by simp [World.setCell]; exact h.size), fun k hk h1 h2 => (Below.heap_setCell _ _ _ _ (by omega)).trans (h.block k hk h1 h2)⟩

theorem catch_idle (p q : Addr) (x : Value) (w : World) (hc : w.cell? p = some x) (hz : w.frozen? p = false) :
    CallsD Tryd.prog 81 #[.pointer (some p), .pointer (some q)] .returning w fun e u' w' => e = .returned (.tuple #[]) ∧ u' = .returning ∧ w' = w.setCell p (.int .i64 0) := by
  refine callsD_of_wpS Tryd.func81 rfl fun c₀ cs hu => ?_
  apply wpS_seq
  apply wpS_region
  simp [wpOpsS, go_sem, recoverD, hu, Tryd.ntmps81, Exit.thenS]
  refine wpS_of_wp ?_
  go_wp2_with fail
  cases c₀
  simp_all [bodyPostS, results, Tryd.results81]
theorem catch_none (p q : Addr) (x : Value) (y : Int) (s : ByteArray) (w : World) (hc : w.cell? p = some x) (hz : w.frozen? p = false) (hq : w.cell? q = some (.int .i64 y)) :
    CallsD Tryd.prog 81 #[.pointer (some p), .pointer (some q)] (.panicking [{ v := .iface 105 (.string s), recovered := false }]) w fun e u' w' => e = .returned (.tuple #[]) ∧ u' = .panicking [{ v := .iface 105 (.string s), recovered := true }] ∧ w' = w.setCell p (.int .i64 y) := by
  have hta : ∀ w : World, (Instr.typeAssert (.iface 105 (.string s)) 20 105 true).run Tryd.prog w = .ok (.tuple #[.string s, .bool true]) w := fun _ => by kernel_rfl
  refine callsD_of_wpS Tryd.func81 rfl fun c₀ cs hu => ?_
  apply wpS_seq
  apply wpS_region
  simp [wpOpsS, go_sem, recoverD, hu, Tryd.ntmps81, Exit.thenS]
  refine wpS_of_wp ?_
  go_wp2_with fail
  simp [bodyPostS, results, Tryd.results81]
theorem catch_str (p q : Addr) (x : Value) (s : ByteArray) (w : World) (hc : w.cell? p = some x) (hz : w.frozen? p = false) :
    CallsD Tryd.prog 81 #[.pointer (some p), .pointer (some q)] (.panicking [{ v := .iface 9 (.string s), recovered := false }]) w fun e u' w' => e = .returned (.tuple #[]) ∧ u' = .panicking [{ v := .iface 9 (.string s), recovered := true }] ∧ w' = w.setCell p (.int .i64 1) := by
  have hta : ∀ w : World, (Instr.typeAssert (.iface 9 (.string s)) 20 105 true).run Tryd.prog w = .ok (.tuple #[.string ⟨#[]⟩, .bool false]) w := fun _ => by kernel_rfl
  refine callsD_of_wpS Tryd.func81 rfl fun c₀ cs hu => ?_
  apply wpS_seq
  apply wpS_region
  simp [wpOpsS, go_sem, recoverD, hu, Tryd.ntmps81, Exit.thenS]
  refine wpS_of_wp ?_
  go_wp2_with fail
  simp [bodyPostS, results, Tryd.results81]
theorem Kb.cell {b b' : Nat} {w w' : World} (h : Kb b b' w w') {p : Addr} (hp : p.block < w.heap.size) (h1 : p.block ≠ b) (h2 : p.block ≠ b') : w'.cell? p = w.cell? p := World.cell?_of_block (w := w) (h.block p.block hp h1 h2)
theorem Kb.frozen {b b' : Nat} {w w' : World} (h : Kb b b' w w') {p : Addr} (hp : p.block < w.heap.size) (h1 : p.block ≠ b) (h2 : p.block ≠ b') : w'.frozen? p = w.frozen? p := World.frozen?_of_block (w := w) (h.block p.block hp h1 h2)
/-- The two variables that caught lays. -/
structure Cv (w V : World) (x : Int) : Prop where
  up : Up w V
  lt : w.heap.size + 1 < V.heap.size
  c0 : V.cell? ⟨w.heap.size + 1, 0, none⟩ = some (.int .i64 0)
  f0 : V.frozen? ⟨w.heap.size + 1, 0, none⟩ = false
  c1 : V.cell? ⟨w.heap.size, 0, none⟩ = some (.int .i64 x)
theorem Cv.mk_ (w : World) (x : Int) (t t' : TypeId) : Cv w ((w.alloc (.cells #[.int .i64 x] t)).alloc (.cells #[.int .i64 0] t')) x where
  up := ((Up.refl w).alloc _).alloc _
  lt := by simp
  c0 := by simp [go_sem]
  f0 := by simp [go_sem]
  c1 := by simp [go_sem]
set_option maxHeartbeats 2000000 in
theorem caught_ret (w : World) (x : Int) (f : FuncId) (cap : Array Value) (b b' : Nat) (hb : b < w.heap.size) (hb' : b' < w.heap.size) (Q : World → Prop)
    (hent : ∀ (args : Array Value) (w : World), (callFunc f args).run Tryd.prog w = .ok (.enter f args) w) (hQ : ∀ W c v, w.heap.size ≤ c → Q W → Q (W.setCell ⟨c, 0, none⟩ v))
    (hC : ∀ W, Up w W → Calls Tryd.prog f cap W (fun e W' => e = .returned (.tuple #[]) ∧ Kb b b' W W' ∧ Q W')) :
    Calls Tryd.prog 73 #[.int .i64 x, .func (Fn.func f) #[] cap] w (fun e w' => e = .returned (.int .i64 0) ∧ Kb b b' w w' ∧ Q w') := by
  have hmf : ∀ (fn : Fn) (first cap : Array Value) (w : World), (Instr.makeFunc fn first cap).run Tryd.prog w = .ok (.func fn first cap) w := fun _ _ _ _ => rfl
  go_enter_defers Tryd.func73, Tryd.ntmps73
  go_wp2_with fail
  obtain ⟨V, hV⟩ : ∃ V, (w.alloc (.cells #[.int .i64 x] 26)).alloc (.cells #[.int .i64 0] 26) = V := ⟨_, rfl⟩
  have cv : Cv w V x := by rw [← hV]; exact Cv.mk_ _ _ _ _
  rw [hV]
  clear hV
  refine (hC V cv.up).mono ?_
  rintro _ W1 ⟨rfl, K, q⟩
  have c0 := (K.cell (p := ⟨w.heap.size + 1, 0, none⟩) cv.lt (by simp; omega) (by simp; omega)).trans cv.c0
  have f0 := (K.frozen (p := ⟨w.heap.size + 1, 0, none⟩) cv.lt (by simp; omega) (by simp; omega)).trans cv.f0
  have K1 : Kb b b' w W1 := (Kb.of_up cv.up).trans K
  clear hC
  go_wp2_with fail
  have K2 := K1.setNew (p := ⟨w.heap.size + 1, 0, none⟩) (Nat.le_succ _) (.int .i64 0)
  have q2 := hQ _ (w.heap.size + 1) (.int .i64 0) (Nat.le_succ _) q
  have c2 : (W1.setCell ⟨w.heap.size + 1, 0, none⟩ (.int .i64 0)).cell? ⟨w.heap.size + 1, 0, none⟩ = some (.int .i64 0) := by simp [go_sem, c0]
  have f2 : (W1.setCell ⟨w.heap.size + 1, 0, none⟩ (.int .i64 0)).frozen? ⟨w.heap.size + 1, 0, none⟩ = false := by simp [go_sem, f0]
  obtain ⟨W2, hW2⟩ : ∃ W2, W1.setCell ⟨w.heap.size + 1, 0, none⟩ (.int .i64 0) = W2 := ⟨_, rfl⟩
  rw [hW2] at K2 q2 c2 f2 ⊢
  clear hW2 K1 q c0 f0 K
  refine leaves_cons (f := 81) (args := #[.pointer (some ⟨w.heap.size + 1, 0, none⟩), .pointer (some ⟨w.heap.size, 0, none⟩)]) (by simp) (by simp [go_sem]) ?_
  refine (catch_idle _ _ _ _ c2 f2).mono ?_
  rintro e u' w'' ⟨rfl, rfl, rfl⟩
  have c3 : (W2.setCell ⟨w.heap.size + 1, 0, none⟩ (.int .i64 0)).cell? ⟨w.heap.size + 1, 0, none⟩ = some (.int .i64 0) := by simp [go_sem, c2]
  have K3 := K2.setNew (p := ⟨w.heap.size + 1, 0, none⟩) (Nat.le_succ _) (.int .i64 0)
  have q3 := hQ _ (w.heap.size + 1) (.int .i64 0) (Nat.le_succ _) q2
  simp [Leaves, settle, results, Tryd.results73, go_sem, c3]
  exact ⟨K3, q3⟩
set_option maxHeartbeats 2000000 in
theorem caught_none (w : World) (x : Int) (f : FuncId) (cap : Array Value)
    (hent : ∀ (args : Array Value) (w : World), (callFunc f args).run Tryd.prog w = .ok (.enter f args) w)
    (hC : ∀ W, Up w W → Calls Tryd.prog f cap W (Pnn W)) :
    Calls Tryd.prog 73 #[.int .i64 x, .func (Fn.func f) #[] cap] w (fun e w' => e = .returned (.int .i64 x) ∧ Up w w') := by
  have hmf : ∀ (fn : Fn) (first cap : Array Value) (w : World), (Instr.makeFunc fn first cap).run Tryd.prog w = .ok (.func fn first cap) w := fun _ _ _ _ => rfl
  go_enter_defers Tryd.func73, Tryd.ntmps73
  go_wp2_with fail
  obtain ⟨V, hV⟩ : ∃ V, (w.alloc (.cells #[.int .i64 x] 26)).alloc (.cells #[.int .i64 0] 26) = V := ⟨_, rfl⟩
  have cv : Cv w V x := by rw [← hV]; exact Cv.mk_ _ _ _ _
  rw [hV]
  clear hV
  refine (hC V cv.up).mono ?_
  rintro _ W1 ⟨⟨s, rfl⟩, U1⟩
  have c0 := (Below.cell (p := ⟨w.heap.size + 1, 0, none⟩) U1 cv.lt).trans cv.c0
  have f0 := (Below.frozen (p := ⟨w.heap.size + 1, 0, none⟩) U1 cv.lt).trans cv.f0
  have c1 := (Below.cell (p := ⟨w.heap.size, 0, none⟩) U1 (Nat.lt_of_succ_lt cv.lt)).trans cv.c1
  have U := (cv.up.trans U1).setCell (p := ⟨w.heap.size + 1, 0, none⟩) (Nat.le_succ _) (.int .i64 x)
  go_wp2_with fail
  refine leaves_cons (f := 81) (args := #[.pointer (some ⟨w.heap.size + 1, 0, none⟩), .pointer (some ⟨w.heap.size, 0, none⟩)]) (by simp) (by simp [go_sem]) ?_
  refine (catch_none _ _ _ _ _ _ c0 f0 c1).mono ?_
  rintro e u' w'' ⟨rfl, rfl, rfl⟩
  have c3 : (W1.setCell ⟨w.heap.size + 1, 0, none⟩ (.int .i64 x)).cell? ⟨w.heap.size + 1, 0, none⟩ = some (.int .i64 x) := by simp [go_sem, c0]
  simp [Leaves, settle, results, Tryd.results73, go_sem, c3]
  exact U
set_option maxHeartbeats 2000000 in
theorem caught_str (w : World) (x : Int) (f : FuncId) (cap : Array Value)
    (hent : ∀ (args : Array Value) (w : World), (callFunc f args).run Tryd.prog w = .ok (.enter f args) w)
    (hC : ∀ W, Up w W → Calls Tryd.prog f cap W (Pns W)) :
    Calls Tryd.prog 73 #[.int .i64 x, .func (Fn.func f) #[] cap] w (fun e w' => e = .returned (.int .i64 1) ∧ Up w w') := by
  have hmf : ∀ (fn : Fn) (first cap : Array Value) (w : World), (Instr.makeFunc fn first cap).run Tryd.prog w = .ok (.func fn first cap) w := fun _ _ _ _ => rfl
  go_enter_defers Tryd.func73, Tryd.ntmps73
  go_wp2_with fail
  obtain ⟨V, hV⟩ : ∃ V, (w.alloc (.cells #[.int .i64 x] 26)).alloc (.cells #[.int .i64 0] 26) = V := ⟨_, rfl⟩
  have cv : Cv w V x := by rw [← hV]; exact Cv.mk_ _ _ _ _
  rw [hV]
  clear hV
  refine (hC V cv.up).mono ?_
  rintro _ W1 ⟨⟨s, rfl⟩, U1⟩
  have c0 := (Below.cell (p := ⟨w.heap.size + 1, 0, none⟩) U1 cv.lt).trans cv.c0
  have f0 := (Below.frozen (p := ⟨w.heap.size + 1, 0, none⟩) U1 cv.lt).trans cv.f0
  have U := (cv.up.trans U1).setCell (p := ⟨w.heap.size + 1, 0, none⟩) (Nat.le_succ _) (.int .i64 1)
  go_wp2_with fail
  refine leaves_cons (f := 81) (args := #[.pointer (some ⟨w.heap.size + 1, 0, none⟩), .pointer (some ⟨w.heap.size, 0, none⟩)]) (by simp) (by simp [go_sem]) ?_
  refine (catch_str _ _ _ _ _ c0 f0).mono ?_
  rintro e u' w'' ⟨rfl, rfl, rfl⟩
  have c3 : (W1.setCell ⟨w.heap.size + 1, 0, none⟩ (.int .i64 1)).cell? ⟨w.heap.size + 1, 0, none⟩ = some (.int .i64 1) := by simp [go_sem, c0]
  simp [Leaves, settle, results, Tryd.results73, go_sem, c3]
  exact U
end Go.Proofs.YtjcbncfpcechnaaDoor
