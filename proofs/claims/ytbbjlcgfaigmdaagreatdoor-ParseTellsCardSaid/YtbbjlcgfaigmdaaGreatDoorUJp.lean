/-
  Package parse: what is recovered; Parse.
-/
import Derived.Test.YtbbjlcgfaigmdaaGreatDoorUJb
namespace Go.Proofs.YtbbjlcgfaigmdaaGreatDoor
open Go.RowKit Go.Shelf
set_option linter.unusedSimpArgs false
set_option linter.unusedVariables false

section
variable {P : Program} {ops : Array Oper} {Q : Exit → Act → List Frame → World → Prop} {i : Nat} {rest : List Nat} {a : Act} {cs cs' : List Frame} {w w' : World} {o : Oper} {v : Value}
/-- The operations of a closure that recovers (a box: no tactic may unfold it). -/
structure Ws (P : Program) (ops : Array Oper) (Q : Exit → Act → List Frame → World → Prop) (l : List Nat) (a : Act) (cs : List Frame) (w : World) : Prop where
  out : wpOpsS P ops Q l a cs w
theorem Ws.nil (h : Q .normal a cs w) : Ws P ops Q [] a cs w := ⟨h⟩
/-- One operation of it. -/
theorem recS_val (ho : ops[i]? = some o) (hg : o.guard = none) (hr : (execOp a.eval o).run P w = .ok (.value v) w') {a' : Act} (ha : a.put o.dst v = a') (h : Ws P ops Q rest a' cs w') : Ws P ops Q (i :: rest) a cs w := by
  subst ha
  refine ⟨?_⟩
  unfold wpOpsS
  simp only [ho]
  rw [if_pos (by simp [Region.wanted, hg]), hr]
  exact h.out
theorem recS_skip (ho : ops[i]? = some o) (hg : o.guard = none) (hr : (execOp a.eval o).run P w = .ok .skip w') {a' : Act} (ha : a.put o.dst undef = a') (h : Ws P ops Q rest a' cs w') : Ws P ops Q (i :: rest) a cs w := by
  subst ha
  refine ⟨?_⟩
  unfold wpOpsS
  simp only [ho]
  rw [if_pos (by simp [Region.wanted, hg]), hr]
  exact h.out
theorem recS_none (ho : ops[i]? = some o) (hg : o.guard = none) (hr : (execOp a.eval o).run P w = .ok .recover w') (hc : recoverD cs = none) {a' : Act} (ha : a.put o.dst .nilIface = a') (h : Ws P ops Q rest a' cs w') : Ws P ops Q (i :: rest) a cs w := by
  subst ha
  refine ⟨?_⟩
  unfold wpOpsS
  simp only [ho]
  rw [if_pos (by simp [Region.wanted, hg]), hr]
  simp only [hc]
  exact h.out
theorem recS_some (ho : ops[i]? = some o) (hg : o.guard = none) (hr : (execOp a.eval o).run P w = .ok .recover w') (hc : recoverD cs = some (v, cs')) {a' : Act} (ha : a.put o.dst v = a') (h : Ws P ops Q rest a' cs' w') : Ws P ops Q (i :: rest) a cs w := by
  subst ha
  refine ⟨?_⟩
  unfold wpOpsS
  simp only [ho]
  rw [if_pos (by simp [Region.wanted, hg]), hr]
  simp only [hc]
  exact h.out
end
theorem recoverD_one (c₀ : Frame) (cs : List Frame) (x : Value) (h : c₀.mode = .panicking [{ v := x, recovered := false }]) : recoverD (c₀ :: cs) = some (x, { c₀ with mode := .panicking [{ v := x, recovered := true }] } :: cs) := by
  cases c₀
  simp only at h
  subst h
  rfl

theorem World.lt_of_cell {w : World} {p : Nat} {v : Value} (h : w.cell? ⟨p, 0, none⟩ = some v) : p < w.heap.size := by
  rcases Nat.lt_or_ge p w.heap.size with h1 | h1
  · exact h1
  · exfalso
    have : w.heap[p]? = none := Array.getElem?_eq_none h1
    simp [World.cell?, this] at h
theorem other_cell (w : World) {b c j : Nat} (h : b ≠ c) (v : Value) : (w.setCell ⟨b, 0, none⟩ v).cell? ⟨c, j, none⟩ = w.cell? ⟨c, j, none⟩ := by
  simp [go_sem, h, h.symm]
theorem two_cells (w : World) (er n : Int) : Up w (((w.alloc (.cells #[.int .i64 0, .int .i64 0] 68)).setCell ⟨w.heap.size, 0, none⟩ (.int .i64 er)).setCell ⟨w.heap.size, 1, none⟩ (.int .i64 n)) ∧
    (((w.alloc (.cells #[.int .i64 0, .int .i64 0] 68)).setCell ⟨w.heap.size, 0, none⟩ (.int .i64 er)).setCell ⟨w.heap.size, 1, none⟩ (.int .i64 n)).cell? ⟨w.heap.size, 0, none⟩ = some (.int .i64 er) ∧
    (((w.alloc (.cells #[.int .i64 0, .int .i64 0] 68)).setCell ⟨w.heap.size, 0, none⟩ (.int .i64 er)).setCell ⟨w.heap.size, 1, none⟩ (.int .i64 n)).cell? ⟨w.heap.size, 1, none⟩ = some (.int .i64 n) :=
  ⟨(((Up.refl w).alloc _).setCell (p := ⟨w.heap.size, 0, none⟩) (Nat.le_refl _) _).setCell (p := ⟨w.heap.size, 1, none⟩) (Nat.le_refl _) _, by simp [go_sem], by simp [go_sem]⟩
set_option maxHeartbeats 1000000 in
set_option maxRecDepth 100000 in
theorem rec_idle (p q : Nat) (w : World) :
    CallsD Tryz.prog 30 #[.pointer (some ⟨p, 0, none⟩), .pointer (some ⟨q, 0, none⟩)] .returning w fun e u' w' => e = .returned (.tuple #[]) ∧ u' = .returning ∧ Up w w' := by
  have hta : ∀ w : World, (Instr.typeAssert .nilIface 20 68 true).run Tryz.prog w = .ok (.tuple #[.agg #[.int .i64 0, .int .i64 0], .bool false]) w := fun _ => by kernel_rfl
  refine callsD_of_wpS Tryz.func30 rfl fun c₀ cs hu => ?_
  apply wpS_seq
  apply wpS_region
  refine Ws.out (l := [0, 1, 2, 3, 4, 5, 6, 7]) ?_
  refine recS_none (w' := w) (a' := ⟨#[.pointer (some ⟨p, 0, none⟩), .pointer (some ⟨q, 0, none⟩), undef, undef, undef, .nilIface, undef, undef, undef, undef, undef, undef, undef, undef], []⟩) rfl rfl (by simp [go_sem]) (by simp [recoverD, hu]) (by kernel_rfl) ?_
  refine recS_val (v := (.tuple #[.agg #[.int .i64 0, .int .i64 0], .bool false])) (w' := w) (a' := ⟨#[.pointer (some ⟨p, 0, none⟩), .pointer (some ⟨q, 0, none⟩), undef, undef, undef, .nilIface, (.tuple #[.agg #[.int .i64 0, .int .i64 0], .bool false]), undef, undef, undef, undef, undef, undef, undef], []⟩) rfl rfl (by kernel_rfl) (by kernel_rfl) ?_
  refine recS_val (v := (.tuple #[.agg #[.int .i64 0, .int .i64 0], .bool false])) (w' := w) (a' := ⟨#[.pointer (some ⟨p, 0, none⟩), .pointer (some ⟨q, 0, none⟩), undef, undef, (.tuple #[.agg #[.int .i64 0, .int .i64 0], .bool false]), .nilIface, (.tuple #[.agg #[.int .i64 0, .int .i64 0], .bool false]), undef, undef, undef, undef, undef, undef, undef], []⟩) rfl rfl (by kernel_rfl) (by kernel_rfl) ?_
  refine recS_val (v := (.agg #[.int .i64 0, .int .i64 0])) (w' := w) (a' := ⟨#[.pointer (some ⟨p, 0, none⟩), .pointer (some ⟨q, 0, none⟩), undef, undef, (.tuple #[.agg #[.int .i64 0, .int .i64 0], .bool false]), .nilIface, (.tuple #[.agg #[.int .i64 0, .int .i64 0], .bool false]), (.agg #[.int .i64 0, .int .i64 0]), undef, undef, undef, undef, undef, undef], []⟩) rfl rfl (by kernel_rfl) (by kernel_rfl) ?_
  refine recS_val (v := (.bool false)) (w' := w) (a' := ⟨#[.pointer (some ⟨p, 0, none⟩), .pointer (some ⟨q, 0, none⟩), undef, undef, (.tuple #[.agg #[.int .i64 0, .int .i64 0], .bool false]), .nilIface, (.tuple #[.agg #[.int .i64 0, .int .i64 0], .bool false]), (.agg #[.int .i64 0, .int .i64 0]), (.bool false), undef, undef, undef, undef, undef], []⟩) rfl rfl (by kernel_rfl) (by kernel_rfl) ?_
  refine recS_val (v := (.pointer (some ⟨w.heap.size, 0, none⟩))) (w' := (w.alloc (.cells #[.int .i64 0, .int .i64 0] 68))) (a' := ⟨#[.pointer (some ⟨p, 0, none⟩), .pointer (some ⟨q, 0, none⟩), (.pointer (some ⟨w.heap.size, 0, none⟩)), undef, (.tuple #[.agg #[.int .i64 0, .int .i64 0], .bool false]), .nilIface, (.tuple #[.agg #[.int .i64 0, .int .i64 0], .bool false]), (.agg #[.int .i64 0, .int .i64 0]), (.bool false), undef, undef, undef, undef, undef], []⟩) rfl rfl (by kernel_rfl) (by kernel_rfl) ?_
  refine recS_skip (w' := (((w.alloc (.cells #[.int .i64 0, .int .i64 0] 68)).setCell ⟨w.heap.size, 0, none⟩ (.int .i64 0)).setCell ⟨w.heap.size, 1, none⟩ (.int .i64 0))) (a' := ⟨#[.pointer (some ⟨p, 0, none⟩), .pointer (some ⟨q, 0, none⟩), (.pointer (some ⟨w.heap.size, 0, none⟩)), undef, (.tuple #[.agg #[.int .i64 0, .int .i64 0], .bool false]), .nilIface, (.tuple #[.agg #[.int .i64 0, .int .i64 0], .bool false]), (.agg #[.int .i64 0, .int .i64 0]), (.bool false), undef, undef, undef, undef, undef], []⟩) rfl rfl (by simp [go_sem]) (by kernel_rfl) ?_
  refine recS_val (v := (.bool false)) (w' := (((w.alloc (.cells #[.int .i64 0, .int .i64 0] 68)).setCell ⟨w.heap.size, 0, none⟩ (.int .i64 0)).setCell ⟨w.heap.size, 1, none⟩ (.int .i64 0))) (a' := ⟨#[.pointer (some ⟨p, 0, none⟩), .pointer (some ⟨q, 0, none⟩), (.pointer (some ⟨w.heap.size, 0, none⟩)), (.bool false), (.tuple #[.agg #[.int .i64 0, .int .i64 0], .bool false]), .nilIface, (.tuple #[.agg #[.int .i64 0, .int .i64 0], .bool false]), (.agg #[.int .i64 0, .int .i64 0]), (.bool false), undef, undef, undef, undef, undef], []⟩) rfl rfl (by kernel_rfl) (by kernel_rfl) ?_
  have U : Up w (((w.alloc (.cells #[.int .i64 0, .int .i64 0] 68)).setCell ⟨w.heap.size, 0, none⟩ (.int .i64 0)).setCell ⟨w.heap.size, 1, none⟩ (.int .i64 0)) := (((Up.refl w).alloc _).setCell (p := ⟨w.heap.size, 0, none⟩) (Nat.le_refl _) _).setCell (p := ⟨w.heap.size, 1, none⟩) (Nat.le_refl _) _
  refine Ws.nil ?_
  show Code.wpS _ _ _ _ _ _
  refine wpS_of_wp ?_
  go_wp2_with fail
  cases c₀
  simp_all [bodyPostS, results, Tryz.results30]
set_option maxHeartbeats 1000000 in
set_option maxRecDepth 100000 in
theorem rec_fault (p q : Nat) (x y : Value) (er n : Int) (w0 w : World) (U : Up w0 w) (hp : w0.heap.size ≤ p) (hq : w0.heap.size ≤ q) (hne : p ≠ q) (cp : w.cell? ⟨p, 0, none⟩ = some x) (fp : w.frozen? ⟨p, 0, none⟩ = false) (cq : w.cell? ⟨q, 0, none⟩ = some y) (fq : w.frozen? ⟨q, 0, none⟩ = false) :
    CallsD Tryz.prog 30 #[.pointer (some ⟨p, 0, none⟩), .pointer (some ⟨q, 0, none⟩)] (.panicking [{ v := .iface 68 (.agg #[.int .i64 er, .int .i64 n]), recovered := false }]) w fun e u' w' => e = .returned (.tuple #[]) ∧ u' = .panicking [{ v := .iface 68 (.agg #[.int .i64 er, .int .i64 n]), recovered := true }] ∧ Up w0 w' ∧ w'.cell? ⟨p, 0, none⟩ = some (.int .i64 n) ∧ w'.cell? ⟨q, 0, none⟩ = some (.int .i64 er) := by
  have hta : ∀ w : World, (Instr.typeAssert (.iface 68 (.agg #[.int .i64 er, .int .i64 n])) 20 68 true).run Tryz.prog w = .ok (.tuple #[.agg #[.int .i64 er, .int .i64 n], .bool true]) w := fun _ => by kernel_rfl
  refine callsD_of_wpS Tryz.func30 rfl fun c₀ cs hu => ?_
  apply wpS_seq
  apply wpS_region
  refine Ws.out (l := [0, 1, 2, 3, 4, 5, 6, 7]) ?_
  refine recS_some (v := (.iface 68 (.agg #[.int .i64 er, .int .i64 n]))) (w' := w) (cs' := { c₀ with mode := .panicking [{ v := (.iface 68 (.agg #[.int .i64 er, .int .i64 n])), recovered := true }] } :: cs) (a' := ⟨#[.pointer (some ⟨p, 0, none⟩), .pointer (some ⟨q, 0, none⟩), undef, undef, undef, (.iface 68 (.agg #[.int .i64 er, .int .i64 n])), undef, undef, undef, undef, undef, undef, undef, undef], []⟩) rfl rfl (by simp [go_sem]) (recoverD_one c₀ cs _ hu) (by kernel_rfl) ?_
  refine recS_val (v := (.tuple #[.agg #[.int .i64 er, .int .i64 n], .bool true])) (w' := w) (a' := ⟨#[.pointer (some ⟨p, 0, none⟩), .pointer (some ⟨q, 0, none⟩), undef, undef, undef, (.iface 68 (.agg #[.int .i64 er, .int .i64 n])), (.tuple #[.agg #[.int .i64 er, .int .i64 n], .bool true]), undef, undef, undef, undef, undef, undef, undef], []⟩) rfl rfl (by kernel_rfl) (by kernel_rfl) ?_
  refine recS_val (v := (.tuple #[.agg #[.int .i64 er, .int .i64 n], .bool true])) (w' := w) (a' := ⟨#[.pointer (some ⟨p, 0, none⟩), .pointer (some ⟨q, 0, none⟩), undef, undef, (.tuple #[.agg #[.int .i64 er, .int .i64 n], .bool true]), (.iface 68 (.agg #[.int .i64 er, .int .i64 n])), (.tuple #[.agg #[.int .i64 er, .int .i64 n], .bool true]), undef, undef, undef, undef, undef, undef, undef], []⟩) rfl rfl (by kernel_rfl) (by kernel_rfl) ?_
  refine recS_val (v := (.agg #[.int .i64 er, .int .i64 n])) (w' := w) (a' := ⟨#[.pointer (some ⟨p, 0, none⟩), .pointer (some ⟨q, 0, none⟩), undef, undef, (.tuple #[.agg #[.int .i64 er, .int .i64 n], .bool true]), (.iface 68 (.agg #[.int .i64 er, .int .i64 n])), (.tuple #[.agg #[.int .i64 er, .int .i64 n], .bool true]), (.agg #[.int .i64 er, .int .i64 n]), undef, undef, undef, undef, undef, undef], []⟩) rfl rfl (by kernel_rfl) (by kernel_rfl) ?_
  refine recS_val (v := (.bool true)) (w' := w) (a' := ⟨#[.pointer (some ⟨p, 0, none⟩), .pointer (some ⟨q, 0, none⟩), undef, undef, (.tuple #[.agg #[.int .i64 er, .int .i64 n], .bool true]), (.iface 68 (.agg #[.int .i64 er, .int .i64 n])), (.tuple #[.agg #[.int .i64 er, .int .i64 n], .bool true]), (.agg #[.int .i64 er, .int .i64 n]), (.bool true), undef, undef, undef, undef, undef], []⟩) rfl rfl (by kernel_rfl) (by kernel_rfl) ?_
  refine recS_val (v := (.pointer (some ⟨w.heap.size, 0, none⟩))) (w' := (w.alloc (.cells #[.int .i64 0, .int .i64 0] 68))) (a' := ⟨#[.pointer (some ⟨p, 0, none⟩), .pointer (some ⟨q, 0, none⟩), (.pointer (some ⟨w.heap.size, 0, none⟩)), undef, (.tuple #[.agg #[.int .i64 er, .int .i64 n], .bool true]), (.iface 68 (.agg #[.int .i64 er, .int .i64 n])), (.tuple #[.agg #[.int .i64 er, .int .i64 n], .bool true]), (.agg #[.int .i64 er, .int .i64 n]), (.bool true), undef, undef, undef, undef, undef], []⟩) rfl rfl (by kernel_rfl) (by kernel_rfl) ?_
  refine recS_skip (w' := (((w.alloc (.cells #[.int .i64 0, .int .i64 0] 68)).setCell ⟨w.heap.size, 0, none⟩ (.int .i64 er)).setCell ⟨w.heap.size, 1, none⟩ (.int .i64 n))) (a' := ⟨#[.pointer (some ⟨p, 0, none⟩), .pointer (some ⟨q, 0, none⟩), (.pointer (some ⟨w.heap.size, 0, none⟩)), undef, (.tuple #[.agg #[.int .i64 er, .int .i64 n], .bool true]), (.iface 68 (.agg #[.int .i64 er, .int .i64 n])), (.tuple #[.agg #[.int .i64 er, .int .i64 n], .bool true]), (.agg #[.int .i64 er, .int .i64 n]), (.bool true), undef, undef, undef, undef, undef], []⟩) rfl rfl (by simp [go_sem]) (by kernel_rfl) ?_
  refine recS_val (v := (.bool true)) (w' := (((w.alloc (.cells #[.int .i64 0, .int .i64 0] 68)).setCell ⟨w.heap.size, 0, none⟩ (.int .i64 er)).setCell ⟨w.heap.size, 1, none⟩ (.int .i64 n))) (a' := ⟨#[.pointer (some ⟨p, 0, none⟩), .pointer (some ⟨q, 0, none⟩), (.pointer (some ⟨w.heap.size, 0, none⟩)), (.bool true), (.tuple #[.agg #[.int .i64 er, .int .i64 n], .bool true]), (.iface 68 (.agg #[.int .i64 er, .int .i64 n])), (.tuple #[.agg #[.int .i64 er, .int .i64 n], .bool true]), (.agg #[.int .i64 er, .int .i64 n]), (.bool true), undef, undef, undef, undef, undef], []⟩) rfl rfl (by kernel_rfl) (by kernel_rfl) ?_
  refine Ws.nil ?_
  show Code.wpS _ _ _ _ _ _
  refine wpS_of_wp ?_
  have hps : p < w.heap.size := World.lt_of_cell cp
  have hqs : q < w.heap.size := World.lt_of_cell cq
  obtain ⟨g, hg⟩ : ∃ g, w.heap.size = g := ⟨_, rfl⟩
  have V := two_cells w er n
  have uV := V.1
  obtain ⟨g0, g1⟩ := V.2
  clear V
  rw [hg] at g0 g1 uV ⊢
  obtain ⟨V, hV⟩ : ∃ V, (((w.alloc (.cells #[.int .i64 0, .int .i64 0] 68)).setCell ⟨g, 0, none⟩ (.int .i64 er)).setCell ⟨g, 1, none⟩ (.int .i64 n)) = V := ⟨_, rfl⟩
  rw [hV] at g0 g1 uV ⊢
  clear hV
  have hpg : p ≠ g := by omega
  have hqg : q ≠ g := by omega
  have cp1 := (Below.cell (p := ⟨p, 0, none⟩) uV hps).trans cp
  have fp1 := (Below.frozen (p := ⟨p, 0, none⟩) uV hps).trans fp
  have cq1 := (Below.cell (p := ⟨q, 0, none⟩) uV hqs).trans cq
  have fq1 := (Below.frozen (p := ⟨q, 0, none⟩) uV hqs).trans fq
  have U1 := U.trans uV
  clear cp fp cq fq U uV hta hg hps hqs
  have a1 : ∀ v, (V.drew.setCell ⟨p, 0, none⟩ v).cell? ⟨g, 0, none⟩ = some (.int .i64 er) := fun v => (other_cell _ hpg v).trans g0
  have a2 : ∀ v, (V.drew.setCell ⟨p, 0, none⟩ v).cell? ⟨q, 0, none⟩ = some y := fun v => (other_cell _ hne v).trans cq1
  have a3 : ∀ v, (V.drew.setCell ⟨q, 0, none⟩ v).cell? ⟨g, 1, none⟩ = some (.int .i64 n) := fun v => (other_cell _ hqg v).trans g1
  have a4 : ∀ v, (V.drew.setCell ⟨q, 0, none⟩ v).cell? ⟨p, 0, none⟩ = some x := fun v => (other_cell _ hne.symm v).trans cp1
  have a5 : ∀ v, (V.drew.setCell ⟨q, 0, none⟩ v).cell? ⟨g, 0, none⟩ = some (.int .i64 er) := fun v => (other_cell _ hqg v).trans g0
  have a6 : ∀ v, (V.drew.setCell ⟨p, 0, none⟩ v).cell? ⟨g, 1, none⟩ = some (.int .i64 n) := fun v => (other_cell _ hpg v).trans g1
  go_wp2_with fail
  go_region
  all_goals
    go_wp2_with fail
    refine ⟨rfl, _, rfl, .tuple #[], by simp [results, Tryz.results30, go_sem], rfl, rfl, ?_, ?_, ?_⟩
    · first
        | exact (U1.drew.setCell (p := ⟨p, 0, none⟩) hp _).setCell (p := ⟨q, 0, none⟩) hq _
        | exact (U1.drew.setCell (p := ⟨q, 0, none⟩) hq _).setCell (p := ⟨p, 0, none⟩) hp _
    · simp [go_sem, cp1, cq1, hne, hne.symm]
    · simp [go_sem, cp1, cq1, hne, hne.symm]
/-- What Parse comes to. -/
def Pn (p : Int) (n : Nat) (e : Int) (w : World) (en : Ending) (w' : World) : Prop := en = .returned (.tuple #[.int .u64 p, .int .i64 (n : Int), .int .i64 e]) ∧ Up w w'
/-- The two variables that Parse lays: the place, the error. -/
structure Cp (w V : World) (x : Int) : Prop where
  up : Up w V
  lt : w.heap.size + 1 < V.heap.size
  c0 : V.cell? ⟨w.heap.size, 0, none⟩ = some (.int .i64 0)
  f0 : V.frozen? ⟨w.heap.size, 0, none⟩ = false
  c1 : V.cell? ⟨w.heap.size + 1, 0, none⟩ = some (.int .i64 x)
  f1 : V.frozen? ⟨w.heap.size + 1, 0, none⟩ = false
theorem Cp.mk_ (w : World) (x : Int) (t t' : TypeId) : Cp w ((w.alloc (.cells #[.int .i64 0] t)).alloc (.cells #[.int .i64 x] t')) x where
  up := ((Up.refl w).alloc _).alloc _
  lt := by simp
  c0 := by simp [go_sem]
  f0 := by simp [go_sem]
  c1 := by simp [go_sem]
  f1 := by simp [go_sem]
set_option maxHeartbeats 1000000 in
set_option maxRecDepth 100000 in
theorem jparse_any (w : World) (L : Hid (Lp w)) (ii mode : Int) (s : ByteArray) (l : List UInt8) (hl : Hid (s.data.toList = l)) (hs : s.size ≤ 1000000) (p : Int) (n : Nat) (e : Int) (h : M.Jc ii mode l p n e) :
    Calls Tryz.prog 11 #[.int .i64 ii, .int .i64 mode, .string s] w (Pn p n e w) := by
  have CP := Lib.hid (fun W (U : Up w W) => patternOf_any W (Lib.hid (L.out.up U)) ii mode s l hl hs p n e h)
  have h0 : Hid (e = 0 → n = 0) := fun e0 => by
    rcases M.jc_fits h with ⟨a, _⟩ | ⟨_, a, _⟩
    · exact absurd e0 a
    · exact a
  have h1 : Hid (e ≠ 0 → p = 0) := fun e0 => by
    rcases M.jc_fits h with ⟨_, a, _⟩ | ⟨a, _⟩
    · exact a
    · exact absurd a e0
  clear h hl hs
  have hmf : ∀ (fn : Go.Fn) (first cap : Array Value) (w : World), (Instr.makeFunc fn first cap).run Tryz.prog w = .ok (.func fn first cap) w := fun _ _ _ _ => rfl
  go_enter_defers Tryz.func11, Tryz.ntmps11
  go_wp2_with fail
  obtain ⟨V, hV⟩ : ∃ V, (w.alloc (.cells #[.int .i64 0] 3)).alloc (.cells #[.int .i64 1] 24) = V := ⟨_, rfl⟩
  have cv : Cp w V 1 := by rw [← hV]; exact Cp.mk_ _ _ _ _
  rw [hV]
  clear hV
  refine (CP.out V cv.up).mono ?_
  clear CP
  rintro _ W1 (⟨e0, rfl, u1⟩ | ⟨e0, rfl, u1⟩)
  · have U := cv.up.trans u1
    have c0 := (Below.cell (p := ⟨w.heap.size, 0, none⟩) u1 (Nat.lt_of_succ_lt cv.lt)).trans cv.c0
    have f0 := (Below.frozen (p := ⟨w.heap.size, 0, none⟩) u1 (Nat.lt_of_succ_lt cv.lt)).trans cv.f0
    have c1 := (Below.cell (p := ⟨w.heap.size + 1, 0, none⟩) u1 cv.lt).trans cv.c1
    have f1 := (Below.frozen (p := ⟨w.heap.size + 1, 0, none⟩) u1 cv.lt).trans cv.f1
    go_wp2_with fail
    have k1 : ((W1.setCell ⟨w.heap.size, 0, none⟩ (.int .i64 0)).setCell ⟨w.heap.size + 1, 0, none⟩ (.int .i64 0)).cell? ⟨w.heap.size, 0, none⟩ = some (.int .i64 0) := (other_cell _ (by omega) _).trans (by simp [go_sem, c0])
    have k2 : ((W1.setCell ⟨w.heap.size, 0, none⟩ (.int .i64 0)).setCell ⟨w.heap.size + 1, 0, none⟩ (.int .i64 0)).cell? ⟨w.heap.size + 1, 0, none⟩ = some (.int .i64 0) := by
      have : (W1.setCell ⟨w.heap.size, 0, none⟩ (.int .i64 0)).cell? ⟨w.heap.size + 1, 0, none⟩ = some (.int .i64 1) := (other_cell _ (by omega) _).trans c1
      simp [go_sem, this]
    have hz : w.heap.size + 1 < ((W1.setCell ⟨w.heap.size, 0, none⟩ (.int .i64 0)).setCell ⟨w.heap.size + 1, 0, none⟩ (.int .i64 0)).heap.size := World.lt_of_cell k2
    have U2 : Up w ((W1.setCell ⟨w.heap.size, 0, none⟩ (.int .i64 0)).setCell ⟨w.heap.size + 1, 0, none⟩ (.int .i64 0)) := (U.setCell (p := ⟨w.heap.size, 0, none⟩) (Nat.le_refl _) _).setCell (p := ⟨w.heap.size + 1, 0, none⟩) (Nat.le_succ _) _
    refine leaves_cons (f := 30) (args := #[.pointer (some ⟨w.heap.size, 0, none⟩), .pointer (some ⟨w.heap.size + 1, 0, none⟩)]) (by simp) (by simp [go_sem]) ?_
    refine (rec_idle _ _ _).mono ?_
    rintro en u' w2 ⟨rfl, rfl, u2⟩
    replace k1 := (Below.cell (p := ⟨w.heap.size, 0, none⟩) u2 (Nat.lt_of_succ_lt hz)).trans k1
    replace k2 := (Below.cell (p := ⟨w.heap.size + 1, 0, none⟩) u2 hz).trans k2
    have hn := h0.out e0
    subst hn e0
    simp [Leaves, settle, results, Tryz.results11, go_sem, k1, k2]
    exact ⟨rfl, U2.trans u2⟩
  · have U := cv.up.trans u1
    have c0 := (Below.cell (p := ⟨w.heap.size, 0, none⟩) u1 (Nat.lt_of_succ_lt cv.lt)).trans cv.c0
    have f0 := (Below.frozen (p := ⟨w.heap.size, 0, none⟩) u1 (Nat.lt_of_succ_lt cv.lt)).trans cv.f0
    have c1 := (Below.cell (p := ⟨w.heap.size + 1, 0, none⟩) u1 cv.lt).trans cv.c1
    have f1 := (Below.frozen (p := ⟨w.heap.size + 1, 0, none⟩) u1 cv.lt).trans cv.f1
    go_wp2_with fail
    refine leaves_cons (f := 30) (args := #[.pointer (some ⟨w.heap.size, 0, none⟩), .pointer (some ⟨w.heap.size + 1, 0, none⟩)]) (by simp) (by simp [go_sem]) ?_
    refine (rec_fault _ _ _ _ e n w W1 U (Nat.le_refl _) (Nat.le_succ _) (by omega) c0 f0 c1 f1).mono ?_
    rintro en u' w2 ⟨rfl, rfl, u2, k1, k2⟩
    have hp := h1.out e0
    subst hp
    simp [Leaves, settle, results, Tryz.results11, go_sem, k1, k2]
    exact ⟨rfl, u2⟩
end Go.Proofs.YtbbjlcgfaigmdaaGreatDoor
