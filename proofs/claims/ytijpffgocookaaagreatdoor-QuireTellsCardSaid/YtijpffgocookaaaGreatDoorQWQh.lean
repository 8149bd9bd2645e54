import Derived.Test.YtijpffgocookaaaGreatDoorQWStp
import Derived.Test.YtijpffgocookaaaGreatDoorQWQd
import Derived.Test.YtijpffgocookaaaGreatDoorQWQe
import Derived.Test.YtijpffgocookaaaGreatDoorQWQg
set_option maxHeartbeats 32000000
set_option linter.unusedVariables false
set_option linter.unusedSimpArgs false
namespace Go.Proofs.YtijpffgocookaaaGreatDoor
open Go.RowKit Go.Shelf
def Obt (k : Nat) (ty : TypeId) (cs : Array Value) : Thg := fun w F => Ob w k ty cs ∧ ∀ j, F j ↔ j = k
theorem Obt.kpt (k : Nat) (ty : TypeId) (cs : Array Value) : Kpt (Obt k ty cs) := by
 refine ⟨fun w F ⟨h, hf⟩ j hj => ?_, fun w w' F ⟨h, hf⟩ _ hb => ⟨(hb k ((hf k).2 rfl)).trans h, hf⟩⟩
 obtain rfl := (hf j).1 hj
 exact Ob.lt h
section
variable {w0 w : World} {φ ψ χ : Thg} {q i b : Nat}
theorem Sd3.box (St : Sd3 w0 w Non ψ χ) (ty : TypeId) (cs : Array Value) : Sd3 w0 (w.alloc (.cells cs ty)) (Obt w.heap.size ty cs) ψ χ := by
 obtain ⟨F, G, H, h1, h2, h3, d1, d2, d3, d4⟩ := St.st
 have u : Up w (w.alloc (.cells cs ty)) := (Up.refl w).alloc _
 have o2 := St.k2.old _ _ h2
 have o3 := St.k3.old _ _ h3
 refine ⟨⟨fun k => k = w.heap.size, G, H, ⟨Ob.mk_ _ _ _, fun j => Iff.rfl⟩, St.k2.keep _ _ _ h2 (Up.size u) (fun k hk => Below.block u k (o2 k hk)), St.k3.keep _ _ _ h3 (Up.size u) (fun k hk => Below.block u k (o3 k hk)), fun k a b => ?_, fun k a b => ?_, d3, fun k a => ?_⟩, St.up.trans u, Obt.kpt _ _ _, St.k2, St.k3⟩
 ·have := o2 k b; omega
 ·have := o3 k b; omega
 ·rcases a with a | a
  ·have := Up.size St.up; omega
  ·exact d4 k (.inr a)
theorem Sd3.bsl {S : Nat} {l : List Bool} {v : Value} (St : Sd3 w0 w (Rbt v S l) ψ χ) : ∃ A c, v = .slice A S c := by
 obtain ⟨F, G, H, ⟨A, c, e, _⟩, _⟩ := St.st
 exact ⟨A, c, e⟩
theorem Sd3.ob {k : Nat} {ty : TypeId} {cs : Array Value} (St : Sd3 w0 w φ ψ (Obt k ty cs)) : Ob w k ty cs := by
 obtain ⟨F, G, H, h1, h2, h3, _⟩ := St.st
 exact h3.1
theorem Sd3.rq (St : Sd3 w0 w φ (Rqt q i b) χ) : ∃ A c l, Rq w q (i : Int) (M.tb i).W A (M.qS i) c ∧ Rb w 0 A (M.qS i) c l ∧ M.bq l = b := by
 obtain ⟨F, G, H, h1, ⟨_, A, c, l, r1, r2, r3, _⟩, _⟩ := St.st
 exact ⟨A, c, l, r1, r2, r3⟩
theorem rnew_ (St : Sd3 w0 w Non ψ χ) (i1 : 1 ≤ i) (i2 : i ≤ 4) : Calls Tryz.prog 14 #[.int .i64 (i : Int)] w (fun e w' => ∃ q, e = .returned (ptr q) ∧ Sd3 w0 w' (Rqt q i 0) ψ χ) :=
 St.mutX (fun q => Rqt.kpt q i 0) fun F _ => new15_in w i i1 i2 F
theorem rneg_ (St : Sd3 w0 w (Rqt q i b) ψ χ) : Calls Tryz.prog 20 #[ptr q] w (fun e w' => e = .returned (.tuple #[]) ∧ Sd3 w0 w' (Rqt q i (M.ng (2 ^ M.qS i) b)) ψ χ) :=
 St.mut (Rqt.kpt _ _ _) fun F h => rneg15 h
theorem radd_ (St : Sd3 w0 w (Rqt q i b) ψ χ) (a c : Nat) (ha : a < 18446744073709551616) (hc : c < 18446744073709551616) (o : Option Nat) (hq : M.Qi i a c o) (less : Bool) : Calls Tryz.prog 17 #[ptr q, u64 a, u64 c, .bool less] w (fun e w' => e = .returned (.tuple #[]) ∧ Sd3 w0 w' (Rqt q i (M.qst i b (M.les i less o))) ψ χ) :=
 St.mut (Rqt.kpt _ _ _) fun F h => radd15 h a c ha hc o hq less
theorem rload_ (St : Sd3 w0 w (Rqt q i b) ψ χ) (s : Bool) (lo : Nat) (XA : Option Addr) (xn xc a : Nat) (t f : Int) (N : Nt w lo 20 (.slice XA xn xc) a) (bt : -600 ≤ t ∧ t ≤ 600) (bf : -60 ≤ f ∧ f ≤ 60) (b' : Nat) (r : Bool) (hl : (M.Ql i s a t f none ∧ r = false ∧ b' = b) ∨ (M.Ql i s a t f (some b') ∧ r = true)) :
  Calls Tryz.prog 24 #[ptr q, xv s (.slice XA xn xc) t f] w (fun e w' => e = .returned (.bool r) ∧ Sd3 w0 w' (Rqt q i b') ψ χ) :=
 St.mut (Rqt.kpt _ _ _) fun F h => rload15 h s lo XA xn xc a t f N bt bf b' r hl
end
end Go.Proofs.YtijpffgocookaaaGreatDoor
