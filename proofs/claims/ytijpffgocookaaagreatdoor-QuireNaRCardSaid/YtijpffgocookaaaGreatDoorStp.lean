/-
  Steps that came in, with all their cells.
-/
import Derived.Test.YtijpffgocookaaaGreatDoorYf
import Derived.Test.YtijpffgocookaaaGreatDoorLab
namespace Go.Proofs.YtijpffgocookaaaGreatDoor
open Go.RowKit Go.Shelf

/-- A slice of steps that came in, with all their cells. -/
structure Stpf (w : World) (A : Option Addr) (n c : Nat) (K : Nat → Int) (P R : Nat → Nat) (NG : Nat → Bool) (XA : Nat → Option Addr) (Xn Xc : Nat → Nat) (Xs : Nat → List Nat) (T V : Nat → Int) (BA : Nat → Option Addr) (Bn Bc : Nat → Nat) (Bs : Nat → List Nat) : Prop where
  len : n ≤ c
  at_ : 0 < n → ∃ b o, A = some ⟨b, o, none⟩ ∧ ∀ j, j < n → (w.cell? ⟨b, o + j * 8, none⟩ = some (.int .i64 (K j)) ∧ w.cell? ⟨b, o + j * 8 + 1, none⟩ = some (.int .u64 (P j : Int)) ∧ w.cell? ⟨b, o + j * 8 + 2, none⟩ = some (.int .u64 (R j : Int)) ∧
    w.cell? ⟨b, o + j * 8 + 3, none⟩ = some (.bool (NG j)) ∧ w.cell? ⟨b, o + j * 8 + 4, none⟩ = some (.slice (XA j) (Xn j) (Xc j)) ∧ w.cell? ⟨b, o + j * 8 + 5, none⟩ = some (.int .i64 (T j)) ∧ w.cell? ⟨b, o + j * 8 + 6, none⟩ = some (.int .i64 (V j)) ∧ w.cell? ⟨b, o + j * 8 + 7, none⟩ = some (.slice (BA j) (Bn j) (Bc j))) ∧
    (P j < 18446744073709551616 ∧ R j < 18446744073709551616) ∧ (Src w (XA j) (Xn j) (Xc j) (Xs j) ∧ Fz w (XA j) (Xn j)) ∧ (Src w (BA j) (Bn j) (Bc j) (Bs j) ∧ Fz w (BA j) (Bn j))
theorem Stpf.stps {w : World} {A : Option Addr} {n c : Nat} {K : Nat → Int} {P R : Nat → Nat} {NG : Nat → Bool} {XA : Nat → Option Addr} {Xn Xc : Nat → Nat} {Xs : Nat → List Nat} {T V : Nat → Int} {BA : Nat → Option Addr} {Bn Bc : Nat → Nat} {Bs : Nat → List Nat} (h : Stpf w A n c K P R NG XA Xn Xc Xs T V BA Bn Bc Bs) : Stps w A n c K P R :=
  ⟨h.len, fun h0 => by
    obtain ⟨b, o, e, hc⟩ := h.at_ h0
    refine ⟨b, o, e, fun j hj => ?_⟩
    obtain ⟨⟨h1, h2, h3, _⟩, h4, _⟩ := hc j hj
    exact ⟨h1, h2, h3, h4.1, h4.2⟩⟩
end Go.Proofs.YtijpffgocookaaaGreatDoor
