import Derived.Test.YtijpffgocookaaaGreatDoorQWStp
import Derived.Test.YtijpffgocookaaaGreatDoorQWFld
import Derived.Deep.Slices
set_option maxHeartbeats 32000000
set_option linter.unusedVariables false
set_option linter.unusedSimpArgs false
namespace Go.Proofs.YtijpffgocookaaaGreatDoor
open Go.ChangeShapes Go.WideShapes Go.ChangeAt Go.RowKit
section
variable {H : Type} {enc : TypeId × Value → H} {w : World} {base : Nat} {held : Bool}
theorem flat_none {l : List (DataW H × List MemPlace)} (h : w.noneFrozen (l.flatMap (·.2))) {y : DataW H × List MemPlace} (hy : y ∈ l) : w.noneFrozen y.2 :=
 fun b o hb => h b o (List.mem_flatMap.2 ⟨y, hy, hb⟩)
theorem words_fz {n : Nat} {v : Value} {y : DataW H × List MemPlace} (h : DataW.trod enc Tryz.prog w base (fun _ => true) held n 32 [v] = some y) (hz : w.noneFrozen y.2) :
  ∃ A len cap xs, v = .slice A len cap ∧ Src w A len cap xs ∧ Fz w A len := by
 obtain ⟨A, len, cap, xs, e, h1, _, h2⟩ := field_words_at h
 exact ⟨A, len, cap, xs, e, h1, fz_of hz h2⟩
set_option maxRecDepth 100000 in
theorem exact_open {n : Nat} {cs : List Value} {y : DataW H × List MemPlace} (h : DataW.trod enc Tryz.prog w base (fun _ => true) held n 34 cs = some y) (hz : w.noneFrozen y.2) :
  ∃ (ng : Bool) (XA : Option Addr) (xn xc : Nat) (xs : List Nat) (tw fv : Int), cs = [.bool ng, .slice XA xn xc, .int .i64 tw, .int .i64 fv] ∧ Src w XA xn xc xs ∧ Fz w XA xn := by
 obtain ⟨xs, m, rfl, rfl, hl, hxl, hf⟩ := DataW.trod_struct Tryz.underlying34 h
 rw [show Tryz.prog.cellsOf 34 = 4 by kernel_rfl] at hl
 have hxl : xs.length = 4 := hxl
 match xs, hxl, cs, hl with
 | [y0, y1, y2, y3], _, [c0, c1, c2, c3], _ =>
  have g0 := hf 0 _ rfl
  have g1 := hf 1 _ rfl
  have g2 := hf 2 _ rfl
  have g3 := hf 3 _ rfl
  simp [show Tryz.prog.cellsOf 4 = 1 by kernel_rfl, show Tryz.prog.cellsOf 32 = 1 by kernel_rfl, show Tryz.prog.cellsOf 3 = 1 by kernel_rfl] at g0 g1 g2 g3
  obtain ⟨ng, rfl⟩ := field_bool Tryz.underlying4 g0
  obtain ⟨A, len, cap, xs, rfl, h1, h2⟩ := words_fz g1 (flat_none hz (by simp))
  obtain ⟨tw, rfl, _⟩ := field_int Tryz.underlying3 g2
  obtain ⟨fv, rfl, _⟩ := field_int Tryz.underlying3 g3
  exact ⟨ng, A, len, cap, xs, tw, fv, rfl, h1, h2⟩
set_option maxRecDepth 100000 in
theorem step_open {n : Nat} {cs : List Value} {y : DataW H × List MemPlace} (h : DataW.trod enc Tryz.prog w base (fun _ => true) held n 36 cs = some y) (hz : w.noneFrozen y.2) :
  ∃ q : Int × Nat × Nat × Bool × Option Addr × Nat × Nat × List Nat × Int × Int × Option Addr × Nat × Nat × List Nat,
   cs = [.int .i64 q.1, .int .u64 (q.2.1 : Int), .int .u64 (q.2.2.1 : Int), .bool q.2.2.2.1, .slice q.2.2.2.2.1 q.2.2.2.2.2.1 q.2.2.2.2.2.2.1, .int .i64 q.2.2.2.2.2.2.2.2.1, .int .i64 q.2.2.2.2.2.2.2.2.2.1, .slice q.2.2.2.2.2.2.2.2.2.2.1 q.2.2.2.2.2.2.2.2.2.2.2.1 q.2.2.2.2.2.2.2.2.2.2.2.2.1] ∧
   (q.2.1 < 18446744073709551616 ∧ q.2.2.1 < 18446744073709551616) ∧ (Src w q.2.2.2.2.1 q.2.2.2.2.2.1 q.2.2.2.2.2.2.1 q.2.2.2.2.2.2.2.1 ∧ Fz w q.2.2.2.2.1 q.2.2.2.2.2.1) ∧
   (Src w q.2.2.2.2.2.2.2.2.2.2.1 q.2.2.2.2.2.2.2.2.2.2.2.1 q.2.2.2.2.2.2.2.2.2.2.2.2.1 q.2.2.2.2.2.2.2.2.2.2.2.2.2 ∧ Fz w q.2.2.2.2.2.2.2.2.2.2.1 q.2.2.2.2.2.2.2.2.2.2.2.1) := by
 obtain ⟨xs, m, rfl, rfl, hl, hxl, hf⟩ := DataW.trod_struct Tryz.underlying36 h
 rw [show Tryz.prog.cellsOf 36 = 8 by kernel_rfl] at hl
 have hxl : xs.length = 5 := hxl
 match xs, hxl, cs, hl with
 | [y0, y1, y2, y3, y4], _, [c0, c1, c2, c3, c4, c5, c6, c7], _ =>
  have g0 := hf 0 _ rfl
  have g1 := hf 1 _ rfl
  have g2 := hf 2 _ rfl
  have g3 := hf 3 _ rfl
  have g4 := hf 4 _ rfl
  simp [show Tryz.prog.cellsOf 30 = 1 by kernel_rfl, show Tryz.prog.cellsOf 32 = 1 by kernel_rfl, show Tryz.prog.cellsOf 3 = 1 by kernel_rfl, show Tryz.prog.cellsOf 34 = 4 by kernel_rfl] at g0 g1 g2 g3 g4
  obtain ⟨k, rfl, _⟩ := field_int Tryz.underlying3 g0
  obtain ⟨p, rfl, wp⟩ := field_int Tryz.underlying30 g1
  obtain ⟨r, rfl, wr⟩ := field_int Tryz.underlying30 g2
  obtain ⟨p, rfl, hp⟩ := wf_u64 wp
  obtain ⟨r, rfl, hr⟩ := wf_u64 wr
  obtain ⟨ng, XA, xn, xc, xs, tw, fv, e, h1, h2⟩ := exact_open g3 (flat_none hz (by simp))
  obtain ⟨BA, bn, bc, bs, rfl, h3, h4⟩ := words_fz g4 (flat_none hz (by simp))
  simp only [List.cons.injEq, and_true] at e
  obtain ⟨rfl, rfl, rfl, rfl⟩ := e
  exact ⟨(k, p, r, ng, XA, xn, xc, xs, tw, fv, BA, bn, bc, bs), rfl, ⟨hp, hr⟩, ⟨h1, h2⟩, h3, h4⟩
theorem steps_in {n : Nat} {v : Value} {y : DataW H × List MemPlace} (h : DataW.trod enc Tryz.prog w base (fun _ => true) held n 22 [v] = some y) (hz : w.noneFrozen y.2) :
  ∃ A len cap K P R NG XA Xn Xc Xs T V BA Bn Bc Bs, v = .slice A len cap ∧ Stpf w A len cap K P R NG XA Xn Xc Xs T V BA Bn Bc Bs := by
 rcases Go.Deep.open_slice Tryz.underlying22 h with ⟨e, rfl⟩ | ⟨a, len, cap, m, n', D, Pl, e, _, hlc, _, hm, rfl, hx⟩
 ·simp only [List.cons.injEq, and_true] at e
  exact ⟨none, 0, 0, fun _ => 0, fun _ => 0, fun _ => 0, fun _ => false, fun _ => none, fun _ => 0, fun _ => 0, fun _ => [], fun _ => 0, fun _ => 0, fun _ => none, fun _ => 0, fun _ => 0, fun _ => [], e, Nat.le_refl _, fun h => absurd h (by decide)⟩
 ·simp only [List.cons.injEq, and_true] at e
  rw [if_pos rfl] at hm
  subst hm
  have c8 : Tryz.prog.cellsOf 36 = 8 := by kernel_rfl
  rw [c8] at hx hz
  obtain ⟨q, hq⟩ := Go.Deep.choose_lt (n := len) (α := Int × Nat × Nat × Bool × Option Addr × Nat × Nat × List Nat × Int × Int × Option Addr × Nat × Nat × List Nat) (p := fun i q =>
   (∀ j, j < 8 → w.cell? (a.add (i * 8 + j)) = ([.int .i64 q.1, .int .u64 (q.2.1 : Int), .int .u64 (q.2.2.1 : Int), .bool q.2.2.2.1, .slice q.2.2.2.2.1 q.2.2.2.2.2.1 q.2.2.2.2.2.2.1, .int .i64 q.2.2.2.2.2.2.2.2.1, .int .i64 q.2.2.2.2.2.2.2.2.2.1, .slice q.2.2.2.2.2.2.2.2.2.2.1 q.2.2.2.2.2.2.2.2.2.2.2.1 q.2.2.2.2.2.2.2.2.2.2.2.2.1] : List Value)[j]?) ∧
   (q.2.1 < 18446744073709551616 ∧ q.2.2.1 < 18446744073709551616) ∧ (Src w q.2.2.2.2.1 q.2.2.2.2.2.1 q.2.2.2.2.2.2.1 q.2.2.2.2.2.2.2.1 ∧ Fz w q.2.2.2.2.1 q.2.2.2.2.2.1) ∧
   (Src w q.2.2.2.2.2.2.2.2.2.2.1 q.2.2.2.2.2.2.2.2.2.2.2.1 q.2.2.2.2.2.2.2.2.2.2.2.2.1 q.2.2.2.2.2.2.2.2.2.2.2.2.2 ∧ Fz w q.2.2.2.2.2.2.2.2.2.2.1 q.2.2.2.2.2.2.2.2.2.2.2.1)) (fun i hi => by
    obtain ⟨cs', h1, h2⟩ := hx i (by omega)
    obtain ⟨_, _, hcell⟩ := World.cells?_some h1
    obtain ⟨q, rfl, h3⟩ := step_open h2 (fun b o hb => hz b o (List.mem_append.2 (.inr (List.mem_flatMap.2 ⟨i, List.mem_range.2 (by omega), hb⟩))))
    exact ⟨q, fun j hj => by have := hcell j hj; rwa [Go.Deep.add_add] at this, h3⟩)
  refine ⟨some a, len, m, fun j => (q j).1, fun j => (q j).2.1, fun j => (q j).2.2.1, fun j => (q j).2.2.2.1, fun j => (q j).2.2.2.2.1, fun j => (q j).2.2.2.2.2.1, fun j => (q j).2.2.2.2.2.2.1, fun j => (q j).2.2.2.2.2.2.2.1, fun j => (q j).2.2.2.2.2.2.2.2.1, fun j => (q j).2.2.2.2.2.2.2.2.2.1, fun j => (q j).2.2.2.2.2.2.2.2.2.2.1, fun j => (q j).2.2.2.2.2.2.2.2.2.2.2.1, fun j => (q j).2.2.2.2.2.2.2.2.2.2.2.2.1, fun j => (q j).2.2.2.2.2.2.2.2.2.2.2.2.2, e, hlc, fun h0 => ?_⟩
  obtain ⟨b, o, sp⟩ := a
  have sp0 : sp = none := by
   have c0 := (hq 0 h0).1 0 (by decide)
   rcases sp with _ | sp
   ·rfl
   ·exfalso
    simp only [Nat.zero_mul, Nat.zero_add, Addr.add, if_pos rfl, World.cell?] at c0
    split at c0 <;> simp at c0
  subst sp0
  refine ⟨b, o, rfl, fun j hj => ?_⟩
  obtain ⟨hc, h2⟩ := hq j hj
  have hadd : ∀ k, (Addr.mk b o none).add k = ⟨b, o + k, none⟩ := by
   intro k
   unfold Addr.add
   split
   ·rename_i e; subst e; rfl
   ·rfl
  simp only [hadd, ← Nat.add_assoc] at hc
  exact ⟨⟨hc 0 (by decide), hc 1 (by decide), hc 2 (by decide), hc 3 (by decide), hc 4 (by decide), hc 5 (by decide), hc 6 (by decide), hc 7 (by decide)⟩, h2⟩
end
end Go.Proofs.YtijpffgocookaaaGreatDoor
