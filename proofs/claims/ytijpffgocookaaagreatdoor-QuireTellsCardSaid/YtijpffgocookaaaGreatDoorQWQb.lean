import Derived.Test.YtijpffgocookaaaGreatDoorQWWf
import Derived.Test.YtijpffgocookaaaGreatDoorQWYe
set_option maxHeartbeats 32000000
set_option linter.unusedVariables false
set_option linter.unusedSimpArgs false
namespace Go.Proofs.YtijpffgocookaaaGreatDoor
open Go.RowKit Go.Shelf
def Rqt (q i b : Nat) : Thg := fun w F => (1 ≤ i ∧ i ≤ 4) ∧ ∃ A c l, Rq w q (i : Int) (M.tb i).W A (M.qS i) c ∧ Rb w 0 A (M.qS i) c l ∧ M.bq l = b ∧ (∀ b' o, A = some ⟨b', o, none⟩ → b' ≠ q) ∧ ∀ k, F k ↔ (k = q ∨ ∃ o, A = some ⟨k, o, none⟩)
def Rbt (v : Value) (S : Nat) (l : List Bool) : Thg := fun w F => ∃ A c, v = .slice A S c ∧ 0 < S ∧ Rb w 0 A S c l ∧ ∀ k, F k ↔ ∃ o, A = some ⟨k, o, none⟩
theorem Rb.keep_ {w w' : World} {lo n c : Nat} {A : Option Addr} {l : List Bool} (h : Rb w lo A n c l) (hk : ∀ k o, A = some ⟨k, o, none⟩ → w'.heap[k]? = w.heap[k]?) : Rb w' lo A n c l :=
 ⟨h.num, h.len, fun hn => by
  obtain ⟨b, o, e, hb, hc⟩ := h.at_ hn
  have e2 := hk b o e
  exact ⟨b, o, e, hb, fun j hj => ⟨(World.cell?_of_block (w := w) (a := ⟨b, o + j, none⟩) e2).trans (hc j hj).1, (World.frozen?_of_block (w := w) (a := ⟨b, o + j, none⟩) e2).trans (hc j hj).2⟩⟩⟩
theorem Rb.old {w : World} {lo n c : Nat} {A : Option Addr} {l : List Bool} (h : Rb w lo A n c l) (h0 : 0 < n) {k o : Nat} (e : A = some ⟨k, o, none⟩) : lo ≤ k ∧ k < w.heap.size := by
 obtain ⟨b, o', e', hb, hc⟩ := h.at_ h0
 have hlt := World.block_lt_of_cell? w _ (hc 0 h0).1
 rw [e] at e'
 injection e' with e'
 injection e' with e1 e2
 subst e1
 exact ⟨hb, hlt⟩
theorem Rqt.kpt (q i b : Nat) : Kpt (Rqt q i b) := by
 refine ⟨fun w F ⟨⟨i1, i2⟩, A, c, l, h1, h2, h3, h4, h5⟩ k hk => ?_, fun w w' F ⟨hi, A, c, l, h1, h2, h3, h4, h5⟩ _ hb => ?_⟩
 ·have h128 := (M.q_facts i1 i2).2.2.2.1
  rcases (h5 k).1 hk with rfl | ⟨o, e⟩
  ·exact Ob.lt h1
  ·exact (h2.old (by omega) e).2
 ·exact ⟨hi, A, c, l, (hb q ((h5 q).2 (.inl rfl))).trans h1, h2.keep_ (fun k o e => hb k ((h5 k).2 (.inr ⟨o, e⟩))), h3, h4, h5⟩
theorem Rbt.kpt (v : Value) (S : Nat) (l : List Bool) : Kpt (Rbt v S l) := by
 refine ⟨fun w F ⟨A, c, e, h0, h1, h2⟩ k hk => ?_, fun w w' F ⟨A, c, e, h0, h1, h2⟩ _ hb => ?_⟩
 ·obtain ⟨o, e⟩ := (h2 k).1 hk
  exact (h1.old h0 e).2
 ·exact ⟨A, c, e, h0, h1.keep_ (fun k o e => hb k ((h2 k).2 ⟨o, e⟩)), h2⟩
theorem Rqt.rng {q i b : Nat} {w : World} {F : Nat → Prop} (h : Rqt q i b w F) : (1 ≤ i ∧ i ≤ 4) ∧ b < 2 ^ M.qS i := by
 obtain ⟨hi, A, c, l, h1, h2, h3, _⟩ := h
 refine ⟨hi, ?_⟩
 rw [← h3, ← h2.num]
 exact M.bq_lt l
theorem Rbt.of {w : World} {lo S c : Nat} {A : Option Addr} {l : List Bool} (h : Rb w lo A S c l) (h0 : 0 < S) : ∃ F, Rbt (.slice A S c) S l w F ∧ ∀ k, F k → lo ≤ k :=
 ⟨fun k => ∃ o, A = some ⟨k, o, none⟩, ⟨A, c, rfl, h0, h.lower (Nat.zero_le _), fun k => Iff.rfl⟩, fun k ⟨o, e⟩ => (h.old h0 e).1⟩
section
variable {w0 w w' : World} {φ ψ χ : Thg}
theorem Sd3.row {P : Program} {f : Nat} {args : Array Value} {S : Nat} {l : List Bool} {r : Value → Value} (St : Sd3 w0 w Non ψ χ) (h0 : 0 < S) (h : Calls P f args w (fun e w' => ∃ A c, e = .returned (r (.slice A S c)) ∧ Rb w' w.heap.size A S c l ∧ Up w w')) :
  Calls P f args w (fun e w' => ∃ v, e = .returned (r v) ∧ Sd3 w0 w' (Rbt v S l) ψ χ) :=
 St.mutX (φ' := fun v => Rbt v S l) (fun v => Rbt.kpt v S l) fun F hF => h.mono fun e w' ⟨A, c, h1, h2, h3⟩ => by
  obtain ⟨F', g1, g2⟩ := Rbt.of h2 h0
  exact ⟨_, h1, F', g1, Fr.of_up h3, fun k hk => .inr (g2 k hk)⟩
theorem Sd3.made {S : Nat} {l : List Bool} {A : Option Addr} {c : Nat} (St : Sd3 w0 w Non ψ χ) (h0 : 0 < S) (u : Up w w') (h : Rb w' w.heap.size A S c l) : Sd3 w0 w' (Rbt (.slice A S c) S l) ψ χ := by
 obtain ⟨F', g1, g2⟩ := Rbt.of h h0
 obtain ⟨F, G, H, h1, h2, h3, d1, d2, d3, d4⟩ := St.st
 have o2 := St.k2.old _ _ h2
 have o3 := St.k3.old _ _ h3
 refine ⟨⟨F', G, H, g1, St.k2.keep _ _ _ h2 (Up.size u) (fun k hk => Below.block u k (o2 k hk)), St.k3.keep _ _ _ h3 (Up.size u) (fun k hk => Below.block u k (o3 k hk)), fun k a b => ?_, fun k a b => ?_, d3, fun k a => ?_⟩, St.up.trans u, Rbt.kpt _ _ _, St.k2, St.k3⟩
 ·have := g2 k a; have := o2 k b; omega
 ·have := g2 k a; have := o3 k b; omega
 ·rcases a with a | a
  ·have := g2 k a; have := Up.size St.up; omega
  ·exact d4 k (.inr a)
theorem Sd3.stored {q i b S : Nat} {l : List Bool} {v : Value} (St : Sd3 w0 w (Rqt q i b) ψ (Rbt v S l)) (hS : S = M.qS i) : Sd3 w0 (w.setCell ⟨q, 2, none⟩ v) (Rqt q i (M.bq l)) ψ Non := by
 obtain ⟨F, G, H, ⟨hi, A, c, l', r1, r2, r3, r4, r5⟩, h2, ⟨B, d, rfl, h0, t1, t2⟩, d1, d2, d3, d4⟩ := St.st
 subst hS
 have hq : F q := (r5 q).2 (.inl rfl)
 have hne : ∀ b' o, B = some ⟨b', o, none⟩ → b' ≠ q := fun b' o e k => by subst k; exact d2 _ hq ((t2 _).2 ⟨o, e⟩)
 obtain ⟨p1, p2⟩ := Rq.put (B := B) (d := d) r1 rfl
 refine ⟨⟨fun k => k = q ∨ ∃ o, B = some ⟨k, o, none⟩, G, fun _ => False, ⟨hi, B, d, l, p1, t1.grown p2 hne, rfl, hne, fun k => Iff.rfl⟩, St.k2.keep _ _ _ h2 p2.size (fun k hk => p2.block k (St.k2.old _ _ h2 k hk) (fun e => by injection e with e; subst e; exact d1 _ hq hk)), fun _ h => h, fun k a b => ?_, fun _ _ h => h, fun _ _ h => h, fun k a => ?_⟩, ?_, Rqt.kpt _ _ _, St.k2, Non.kpt⟩
 ·rcases a with rfl | ⟨o, e⟩
  ·exact d1 _ hq b
  ·exact d3 k b ((t2 k).2 ⟨o, e⟩)
 ·rcases a with (rfl | ⟨o, e⟩) | a | a
  ·exact d4 _ (.inl hq)
  ·exact d4 k (.inr (.inr ((t2 k).2 ⟨o, e⟩)))
  ·exact d4 k (.inr (.inl a))
  ·exact a.elim
 ·exact (Fr.of_grown (F := fun k => k = q) p2 rfl).up St.up (fun k e => by subst e; exact d4 _ (.inl hq))
end
theorem M.tb_kind {i : Nat} (i1 : 1 ≤ i) (i2 : i ≤ 14) : (M.tb i).k = 1 ↔ i ≤ 4 := by
 refine M.all14 (p := fun i => (M.tb i).k = 1 ↔ i ≤ 4) ?_ ?_ ?_ ?_ ?_ ?_ ?_ ?_ ?_ ?_ ?_ ?_ ?_ ?_ i i1 i2 <;> decide
set_option maxRecDepth 100000 in
theorem new15_in (w : World) (i : Nat) (i1 : 1 ≤ i) (i2 : i ≤ 4) (F : Nat → Prop) : Calls Tryz.prog 14 #[.int .i64 (i : Int)] w (Mu F (fun q => Rqt q i 0) (fun q => ptr q) w) := by
 have U := Up.refl w
 have HI : Hid (1 ≤ i ∧ i ≤ 4) := ⟨i1, i2⟩
 obtain ⟨f, hf⟩ : ∃ f, M.tb i = f := ⟨_, rfl⟩
 have CO := Lib.hid (rof_in w i f (Lib.hid hf) (by omega) (by omega))
 obtain ⟨k1, w8, w64, s1, s2, sW, _⟩ := M.q_facts (i := i) (by omega) i2
 rw [hf] at k1 w8 w64 sW
 obtain ⟨S, hS⟩ : ∃ S, M.qS i = S := ⟨_, rfl⟩
 rw [hS] at s1 s2 sW
 have d1 : (f.k != 1) = false := by simpa using k1
 have q1 : (16 : Int) * f.W = (S : Int) := sW.symm
 have q2 : IntKind.i64.wrap (S : Int) = (S : Int) := by unfold IntKind.wrap; simp [IntKind.min, IntKind.max, IntKind.signed, IntKind.bits]; omega
 have HS := Lib.hid hS
 have HF := Lib.hid hf
 clear k1 sW hS hf i1 i2
 go_enter Tryz.func14, Tryz.ntmps14
 go_wp2_with fail
 refine CO.out.mono ?_
 rintro _ w1 ⟨rfl, u1⟩
 go_upto_region 2 with fail
 obtain ⟨V, hV⟩ : ∃ V, w1.alloc (.cells #[.int .i64 f.k, .int .i64 f.W, .int .i64 f.m, .int .i64 f.b, .int .u64 f.t, .int .u64 f.n, .int .u64 f.x] 79) = V := ⟨_, rfl⟩
 have C : Bf V w1.heap.size 79 f := by rw [← hV]; exact Bf.mk_ _ _ _
 have uV : Up w1 V := Up.al hV
 rw [hV]
 clear hV
 have U1 : Up w V := u1.trans uV
 obtain ⟨x0, x1, _⟩ := Bf.cs C
 try simp only [Nat.zero_add] at x0 x1
 go_wp2_with fail
 have hV1 : Up V V.drew := (Up.refl _).drew
 obtain ⟨i0, hi, hz0, hz1, hz2⟩ := info_parts info_bool
 obtain ⟨w3, hrun, r1, hg3⟩ := run_make_full (P := Tryz.prog) V.drew V.drew.heap.size 40 4 i0 _ 1 Tryz.underlying40 hi hz0 hz1 .i64 .i64 S (by rw [hz2]; omega) (by simp only [maxLen]; omega) (Nat.le_refl _)
 rw [made_false] at r1
 have hown3 : Obw w3 V.drew.heap.size (.slice (some ⟨V.drew.heap.size, 0, none⟩) S S) S (List.replicate S false) := r1
 have u3 : Up V w3 := hV1.grown hg3 (by simp)
 obtain ⟨y0, y1, _⟩ := Bf.cs (C.up u3)
 try simp only [Nat.zero_add] at y0 y1
 clear hi hz0 hz1 hz2 r1 hg3
 go_region
 all_goals
  clear hrun
  go_wp2_with fail
  have hr : Rb w3 V.heap.size (some ⟨V.heap.size, 0, none⟩) S S (List.replicate S false) := Obw.rb_ hown3
  have U3 : Up w w3 := U1.trans u3
  have lt3 := (hr.old (by omega) rfl).2
  go_ret
  refine ⟨w3.heap.size, rfl, fun k => k = w3.heap.size ∨ k = V.heap.size, ⟨HI.out, some ⟨V.heap.size, 0, none⟩, S, List.replicate S false, ?_, ?_, M.bq_rep S, fun b' o e => ?_, fun k => ⟨fun h => ?_, fun h => ?_⟩⟩, Fr.of_up (U3.alloc _), fun k h => .inr ?_⟩
  ·rw [HS.out, HF.out]
   exact Ob.mk_ _ _ _
  ·rw [HS.out]
   exact (hr.up ((Up.refl _).alloc _)).lower (Nat.zero_le _)
  ·injection e with e
   injection e with e1 e2
   omega
  ·rcases h with h | h
   ·exact .inl h
   ·exact .inr ⟨0, by rw [h]⟩
  ·rcases h with h | ⟨o, e⟩
   ·exact .inl h
   ·injection e with e
    injection e with e1 e2
    exact .inr e1.symm
  ·have := U1.size
   have := U3.size
   rcases h with h | h <;> omega
set_option maxRecDepth 100000 in
theorem new15_out (w : World) (ii : Int) (h : ¬ (1 ≤ ii ∧ ii ≤ 4)) : Calls Tryz.prog 14 #[.int .i64 ii] w (fun e w' => e = .returned (.pointer none) ∧ Up w w') := by
 by_cases hin : 1 ≤ ii ∧ ii ≤ 14
 ·obtain ⟨i, rfl⟩ : ∃ i : Nat, ii = i := ⟨ii.toNat, by omega⟩
  obtain ⟨f, hf⟩ : ∃ f, M.tb i = f := ⟨_, rfl⟩
  have CO := Lib.hid (rof_in w i f (Lib.hid hf) (by omega) (by omega))
  have hk := M.tb_kind (i := i) (by omega) (by omega)
  have k1 : (f.k == 1) = false := by
   have : f.k ≠ 1 := fun e => by have := hk.1 (by rw [hf]; exact e); omega
   simpa using this
  have k2 : (f.k != 1) = true := by simpa using k1
  clear hk hf h
  go_enter Tryz.func14, Tryz.ntmps14
  go_wp2_with fail
  refine CO.out.mono ?_
  rintro _ w1 ⟨rfl, u1⟩
  go_upto_region 2 with fail
  obtain ⟨V, hV⟩ : ∃ V, w1.alloc (.cells #[.int .i64 f.k, .int .i64 f.W, .int .i64 f.m, .int .i64 f.b, .int .u64 f.t, .int .u64 f.n, .int .u64 f.x] 79) = V := ⟨_, rfl⟩
  have C : Bf V w1.heap.size 79 f := by rw [← hV]; exact Bf.mk_ _ _ _
  have uV : Up w1 V := Up.al hV
  rw [hV]
  clear hV
  have U1 : Up w V := u1.trans uV
  obtain ⟨x0, x1, _⟩ := Bf.cs C
  try simp only [Nat.zero_add] at x0 x1
  go_wp2_with fail
  go_ret
  exact ⟨rfl, by first | exact U1 | exact U1.drew | exact U1.drewN _⟩
 ·have CO := Lib.hid (rof_out w ii (by omega))
  clear h
  go_enter Tryz.func14, Tryz.ntmps14
  go_wp2_with fail
  refine CO.out.mono ?_
  rintro _ w1 ⟨rfl, u1⟩
  go_wp2_with fail
  go_ret
  exact ⟨rfl, by (repeat (first | exact u1 | refine Up.drew ?_ | refine Up.alloc ?_ _)); try exact u1⟩
end Go.Proofs.YtijpffgocookaaaGreatDoor
namespace Go.Proofs.YtijpffgocookaaaGreatDoor
open Go.RowKit Go.Shelf
theorem M.nr15_iff {i b : Nat} {l : List Bool} (h : l.length = M.qS i) (h0 : 0 < M.qS i) (hb : M.bq l = b) : l = M.nr15 (M.qS i) ↔ b = M.qn i := by
 constructor
 ·rintro rfl
  rw [← hb, M.nr15_bq]; rfl
 ·intro e
  exact M.bq_inj (by rw [h, M.nr15_len h0]) (by rw [hb, e, M.nr15_bq]; rfl)
theorem rnar15 {q i b : Nat} {w : World} {F : Nat → Prop} (h : Rqt q i b w F) (r : Bool) (hr : decide (b = M.qn i) = r) : Calls Tryz.prog 27 #[ptr q] w (fun e w' => e = .returned (.bool r) ∧ Up w w') := by
 obtain ⟨⟨i1, i2⟩, A, c, l, h1, h2, h3, _⟩ := h
 have hq := M.q_facts i1 i2
 refine nar15_is w q 0 _ _ A (M.qS i) c l h1 h2 (by omega) (by omega) r ?_
 show _ = _
 rw [← hr]
 have := M.nr15_iff h2.num (by omega) h3
 by_cases e : b = M.qn i
 ·rw [decide_eq_true e, decide_eq_true (this.2 e)]
 ·rw [decide_eq_false e, decide_eq_false (fun k => e (this.1 k))]
theorem Rqt.put {q i b : Nat} {w w2 : World} {F : Nat → Prop} (h : Rqt q i b w F) (u : Up w w2) {B : Option Addr} {d : Nat} {l : List Bool} (hB : Rb w2 w.heap.size B (M.qS i) d l) :
  ∃ F', Rqt q i (M.bq l) (w2.setCell ⟨q, 2, none⟩ (.slice B (M.qS i) d)) F' ∧ Fr F w (w2.setCell ⟨q, 2, none⟩ (.slice B (M.qS i) d)) ∧ ∀ k, F' k → F k ∨ w.heap.size ≤ k := by
 obtain ⟨hi, A, c, l', h1, h2, h3, h4, h5⟩ := h
 have h128 := (M.q_facts hi.1 hi.2).2.2.2.1
 have hlt := Ob.lt h1
 have hne : ∀ b o, B = some ⟨b, o, none⟩ → b ≠ q := fun b o e => by have := (hB.old (by omega) e).1; omega
 obtain ⟨p1, p2⟩ := Rq.put (B := B) (d := d) (h1.up u) rfl
 have hq : F q := (h5 q).2 (.inl rfl)
 refine ⟨fun k => k = q ∨ ∃ o, B = some ⟨k, o, none⟩, ⟨hi, B, d, l, p1, (hB.lower (Nat.zero_le _)).grown p2 hne, rfl, hne, fun k => Iff.rfl⟩, (Fr.of_up u).trans (Fr.of_grown (F := fun k => k = q) p2 rfl) (fun k e => .inl (by subst e; exact hq)), fun k e => ?_⟩
 rcases e with rfl | ⟨o, e⟩
 ·exact .inl hq
 ·exact .inr (hB.old (by omega) e).1
theorem Rqt.stay {q i b : Nat} {w w2 : World} {F : Nat → Prop} (h : Rqt q i b w F) (u : Up w w2) : Rqt q i b w2 F ∧ Fr F w w2 ∧ ∀ k, F k → F k ∨ w.heap.size ≤ k :=
 ⟨(Rqt.kpt q i b).keep _ _ _ h (Up.size u) (fun k hk => Below.block u k ((Rqt.kpt q i b).old _ _ h k hk)), Fr.of_up u, fun _ h => .inl h⟩
set_option maxRecDepth 100000 in
theorem rneg15 {q i b : Nat} {w : World} {F : Nat → Prop} (h : Rqt q i b w F) : Calls Tryz.prog 20 #[ptr q] w (Mu (α := Unit) F (fun _ => Rqt q i (M.ng (2 ^ M.qS i) b)) (fun _ => .tuple #[]) w) := by
 have HH := Lib.hid h
 obtain ⟨⟨i1, i2⟩, A, c, l, hq, hr, hb, hne, _⟩ := h
 obtain ⟨_, w8, w64, s1, s2, sW, _⟩ := M.q_facts i1 i2
 by_cases hn : b = M.qn i
 ·have CN := Lib.hid (rnar15 HH.out true (decide_eq_true hn))
  have HN := Lib.hid hn
  have HI := Lib.hid (M.qn_ng i1 i2)
  clear hq hr hb hne hn s1 s2 sW w8 w64
  go_enter Tryz.func20, Tryz.ntmps20
  go_wp2_with fail
  refine CN.out.mono ?_
  rintro _ w1 ⟨rfl, u1⟩
  go_wp2_with fail
  go_end0
  have e := HN.out
  subst e
  rw [HI.out]
  exact ⟨(), rfl, F, HH.out.stay u1⟩
 ·have CN := Lib.hid (rnar15 HH.out false (decide_eq_false hn))
  have hl := hr.num
  have CT := Lib.hid (fun V (u : Up w V) => turned15_any V 0 A (M.qS i) c l (hr.up u) (by omega))
  have HT : Hid (M.bq (M.tqn false l) = M.ng (2 ^ M.qS i) b) := by
   show _ = _
   rw [M.bq_tqn, hl, hb]; rfl
  have HL := Lib.hid hl
  have S0 : Hid (0 < M.qS i) := Lib.hid (show 0 < M.qS i by omega)
  clear hr hb hne hn s1 s2 sW w8 w64 hl
  go_enter Tryz.func20, Tryz.ntmps20
  go_wp2_with fail
  refine CN.out.mono ?_
  rintro _ w1 ⟨rfl, u1⟩
  have q1 := hq.up u1
  have c2 := q1.get 2
  simp only [M.z7, M.z8, M.z9] at c2
  go_wp2_with fail
  have u1' : Up w1 w1.drew := (Up.refl _).drew
  refine (CT.out _ (by first | exact u1 | exact u1.drew | exact u1.drewN _)).mono ?_
  rintro _ w2 ⟨B, d, rfl, R2, u2⟩
  have u12 : Up w w2 := Up.trans (by first | exact u1 | exact u1.drew | exact u1.drewN _) u2
  have q2 := hq.up u12
  have c3 := q2.get 2
  have f3 := q2.fr 2
  have l3 := Ob.lt q2
  simp only [M.z7, M.z8, M.z9] at c3
  have eT : (M.tqn false l).length = M.qS i := by rw [M.tqn_len]; exact HL.out
  rw [eT] at R2 ⊢
  have RB : Hid (Rb w2 w.heap.size B (M.qS i) d (M.tqn false l)) := Lib.hid (R2.lower (by first | exact u1.size | (simp; exact u1.size)))
  clear CN CT c2 eT R2 q1
  go_wp2_with fail
  go_end0
  have := HH.out.put u12 RB.out
  rw [HT.out] at this
  exact ⟨(), rfl, this⟩
end Go.Proofs.YtijpffgocookaaaGreatDoor
