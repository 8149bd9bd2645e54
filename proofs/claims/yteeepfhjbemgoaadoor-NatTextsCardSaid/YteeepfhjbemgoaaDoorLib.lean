/-
  The library's calls, in the form in which the walks of this seat take them.
-/
import Derived.Test.YteeepfhjbemgoaaDoorOwn
import Derived.Test.YteeepfhjbemgoaaDoorShelf
import Derived.Shelf.Spec.BitsCarry
namespace Go.Proofs.YteeepfhjbemgoaaDoor
open Go.RowKit Go.Shelf

theorem wrap_u64 {n : Int} {k : Nat} (e : n = (k : Int)) (h : k < 18446744073709551616) : IntKind.u64.wrap n = (k : Int) := by
  subst e
  simp [IntKind.wrap, IntKind.bits, IntKind.signed]
  omega
/-- math/bits.Add64: the sum's word and what is carried. -/
theorem add64_ex (x y c : Nat) (hx : x < 18446744073709551616) (hy : y < 18446744073709551616) (hc : c ≤ 1) :
    ∃ s d : Nat, s < 18446744073709551616 ∧ d ≤ 1 ∧ x + y + c = s + 18446744073709551616 * d ∧
      ∀ w, (callFunc 70 #[u64 x, u64 y, u64 c]).run Tryd.prog w = .ok (.value (.tuple #[u64 s, u64 d])) w := by
  refine ⟨(x + y + c) % 18446744073709551616, (x + y + c) / 18446744073709551616, by omega, by omega, by omega, fun w => ?_⟩
  rw [run_callFunc_extern Tryd.func70 (by kernel_rfl) (by kernel_rfl) (by kernel_rfl) (e := add64Entry) (by kernel_rfl), run_add64 x y c (by omega) (by omega) (by omega) (by omega)]
  simp only [Result.andThen]
  congr 5 <;> omega
/-- math/bits.Sub64: the difference's word and what is borrowed. -/
theorem sub64_ex (x y b : Nat) (hx : x < 18446744073709551616) (hy : y < 18446744073709551616) (hb : b ≤ 1) :
    ∃ s d : Nat, s < 18446744073709551616 ∧ d ≤ 1 ∧ x + 18446744073709551616 * d = s + y + b ∧
      ∀ w, (callFunc 68 #[u64 x, u64 y, u64 b]).run Tryd.prog w = .ok (.value (.tuple #[u64 s, u64 d])) w := by
  refine ⟨(x + 18446744073709551616 - y - b) % 18446744073709551616, if x < y + b then 1 else 0, by omega, by split <;> omega, by split <;> omega, fun w => ?_⟩
  rw [run_callFunc_extern Tryd.func68 (by kernel_rfl) (by kernel_rfl) (by kernel_rfl) (e := sub64Entry) (by kernel_rfl), run_sub64 x y b hb]
  rfl
theorem mul64_ex (x y : Nat) (hx : x < 18446744073709551616) (hy : y < 18446744073709551616) :
    ∃ hi lo : Nat, lo < 18446744073709551616 ∧ hi < 18446744073709551615 ∧ x * y = lo + 18446744073709551616 * hi ∧
      ∀ w, Calls Tryd.prog 109 #[u64 x, u64 y] w (Same (.tuple #[u64 hi, u64 lo]) w) := by
  have h1 : x * y ≤ 18446744073709551615 * 18446744073709551615 := Nat.mul_le_mul (by omega) (by omega)
  refine ⟨x * y / 18446744073709551616, x * y % 18446744073709551616, by omega, by omega, by omega, fun w => (Tryd.bits_Mul64 x y hx hy w).mono fun _ _ ⟨h, k⟩ => ⟨h, k.symm⟩⟩
theorem len64_any (x : Nat) (hx : x < 18446744073709551616) (w : World) : Calls Tryd.prog 83 #[u64 x] w (Same (.int .i64 (Lib.bitLen x)) w) :=
  (Tryd.bits_Len64 x w (by omega) (by omega)).mono fun _ _ ⟨h, k⟩ => ⟨by simpa using h, k.symm⟩
theorem lead64_any (x : Nat) (hx : x < 18446744073709551616) (w : World) : Calls Tryd.prog 107 #[u64 x] w (Same (.int .i64 (64 - (Lib.bitLen x : Int))) w) :=
  (Tryd.bits_LeadingZeros64 x w (by omega) (by omega)).mono fun _ _ ⟨h, k⟩ => ⟨by simpa using h, k.symm⟩

theorem made_zero (n : Nat) : (madeCells (Value.int .u64 0).cells (n * 1)).toList = cu (List.replicate n 0) := by
  have := toList_madeCells_one (.int .u64 0) n
  rw [Nat.mul_one]
  refine Eq.trans (show _ = (madeCells #[Value.int .u64 0] n).toList from rfl) (this.trans ?_)
  simp [cu]

/-- 'make(Nat, n)'. -/
theorem wpList_make_wd {P : Program} (w : World) {ops : Array Oper} {rest : List Oper} {o : Oper} {a : Act} {Q : Exit → Act → World → Prop}
    (hg : o.guard = none) (l c : Operand) (t : TypeId) (hop : o.op = Op.makeSlice t l c)
    (hP : (P.info? 41).map (fun i => (i.zero, i.size, i.bytes)) = some (some (.int .u64 0), 1, 8)) (h1 : P.underlying t = some (.slice 41))
    (L C : Int) (n : Nat) (hl : a.eval l = .int .i64 L) (hc : a.eval c = .int .i64 C) (hL : L = (n : Int)) (hC : C = (n : Int)) (hn : n ≤ 1099511627776)
    (hK : ∀ w', Ow w' w.heap.size (.slice (some ⟨w.heap.size, 0, none⟩) n n) n (List.replicate n 0) → w.grownBy w' none → wpList P ops Q rest (a.put o.dst (.slice (some ⟨w.heap.size, 0, none⟩) n n)) w') :
    wpList P ops Q (o :: rest) a w := by
  obtain ⟨i, hi, hz0, hz1, hz2⟩ := info_parts hP
  refine wpList_make_full w hg l c t hop w.heap.size 41 i _ 1 h1 hi hz0 hz1 .i64 .i64 L C n hl hc hL hC (by rw [hz2]; omega) (by simp only [maxLen]; omega) (Nat.le_refl _) fun w' k1 k2 => ?_
  exact hK w' (by rw [made_zero] at k1; exact k1) k2

theorem ret_u64s {a b : Int} {x y : Nat} (h : a = (x : Int)) (h' : b = (y : Int)) : Ending.returned (.tuple #[.int .u64 a, .int .u64 b]) = .returned (.tuple #[u64 x, u64 y]) := by rw [h, h']
end Go.Proofs.YteeepfhjbemgoaaDoor
