/-
  The laws of layer 6: what is asked of package mini; what each shows first; MiniTells, MiniDoubles.
-/
import Derived.Test.YtajfcdkdfmnmhaaDoorMr
import Derived.Test.YtajfcdkdfmnmhaaDoorTz
namespace Go.Proofs.YtajfcdkdfmnmhaaDoor
open Go.RowKit

def S3 (f m : Nat) (x : Int) (w : World) (e : Ending) (w' : World) : Prop := e = .returned (.tuple #[u64 f, u64 m, .int .i64 x]) ∧ Up w w'
def Vn6 (m : Nat) (z x : Int) (w : World) (e : Ending) (w' : World) : Prop := e = .returned (.tuple #[u64 m, .int .i64 z, .int .i64 x]) ∧ Up w w'
def Kn6 (k : Nat) (x : Int) (w : World) (e : Ending) (w' : World) : Prop := e = .returned (.tuple #[u64 k, .int .i64 x]) ∧ Up w w'
def True6 (w : World) (e : Ending) (w' : World) : Prop := e = .returned (.bool true) ∧ Up w w'
/-- What package mini's calls come to. -/
structure Mini : Prop where
  split : ∀ (w : World), Tz w → ∀ (p k f m : Nat), p ≤ 60 → k < 18446744073709551616 → k / 2 ^ p ≤ 4095 → k / 2 ^ p = f → k % 2 ^ p = m → Calls Tryd.prog 8 #[.int .i64 (p : Int), u64 k] w (S3 f m 0 w)
  splitBad : ∀ (w : World), Tz w → ∀ (man : Int) (k : Nat), k < 18446744073709551616 → bad6 man 0 k → Calls Tryd.prog 8 #[.int .i64 man, u64 k] w (S3 0 0 1 w)
  value : ∀ (w : World), Tz w → ∀ (p k m : Nat) (b z : Int), k < 18446744073709551616 → M.mok p b k → M.IsM p b k m z → Calls Tryd.prog 9 #[.int .i64 (p : Int), .int .i64 b, u64 k] w (Vn6 m z 0 w)
  valueBad : ∀ (w : World), Tz w → ∀ (man b : Int) (k : Nat), k < 18446744073709551616 → bad6 man b k → Calls Tryd.prog 9 #[.int .i64 man, .int .i64 b, u64 k] w (Vn6 0 0 1 w)
  key : ∀ (w : World), Tz w → ∀ (p k m0 m t : Nat) (b e0 z : Int), k < 18446744073709551616 → M.mok p b k → m0 < 18446744073709551616 → m0 = m * 2 ^ t → -9223372036854775808 ≤ e0 → e0 ≤ 9223372036854775807 → (m ≠ 0 → e0 + t = z) → M.IsM p b k m z → Calls Tryd.prog 13 #[.int .i64 (p : Int), .int .i64 b, u64 m0, .int .i64 e0] w (Kn6 k 0 w)
  keyNone : ∀ (w : World), Tz w → ∀ (p m0 m t : Nat) (b e0 : Int), p ≤ 60 → -2000 ≤ b → b ≤ 2000 → m0 < 18446744073709551616 → m0 = m * 2 ^ t → m % 2 = 1 → -9223372036854775808 ≤ e0 → e0 ≤ 9223372036854775807 → (∀ k, M.mok p b k → ¬ M.IsM p b k m (e0 + t)) → Calls Tryd.prog 13 #[.int .i64 (p : Int), .int .i64 b, u64 m0, .int .i64 e0] w (Kn6 0 8 w)
theorem bad_all {man b : Int} {k : Nat} (h : bad6 man 0 k) : bad6 man b k := by
  rcases h with h | h | h | h | h
  · exact .inl h
  · exact .inr (.inl h)
  · omega
  · omega
  · exact .inr (.inr (.inr (.inr h)))
theorem nat_u6 {x : Int} (h : (Lit.int .u64 x).wf = true) : ∃ k : Nat, x = (k : Int) ∧ k < 18446744073709551616 := by
  have h6 : (0 : Int) ≤ x ∧ x ≤ 18446744073709551615 := by simpa [Lit.wf, IntKind.min, IntKind.max, IntKind.signed, IntKind.bits] using h
  exact ⟨x.toNat, by omega, by omega⟩
namespace M
theorem ism56 : IsM 3 7 56 1 0 := .inr ⟨by decide, 3, by decide, by decide⟩
theorem ism1 : IsM 3 7 1 1 (-9) := .inr ⟨by decide, 0, by decide, by decide⟩
theorem ism126 : IsM 3 7 126 7 6 := .inr ⟨by decide, 1, by decide, by decide⟩
theorem ism17 : ∀ k, mok 3 7 k → ¬ IsM 3 7 k 17 0 := fun k _ h => by
  have hl := mX_lt 3 k
  rcases h with ⟨_, h2, _⟩ | ⟨_, t, h2, _⟩
  · omega
  · have p := p2 t
    have : 17 ≤ 17 * 2 ^ t := Nat.le_mul_of_pos_right _ p
    have : (2 : Nat) ^ 3 = 8 := by decide
    omega
end M
set_option maxHeartbeats 4000000 in
set_option maxRecDepth 100000 in
theorem mshown_any (w : World) (TT : Hid (Tz w)) (C : Mini) : Calls Tryd.prog 7 #[] w (True6 w) := by
  have V1 := Lib.hid (fun W (TW : Tz W) => show Calls Tryd.prog 9 #[.int .i64 3, .int .i64 7, .int .u64 56] W (Vn6 1 0 0 W) from C.value W TW 3 56 1 7 0 (by decide) (by unfold M.mok; decide) M.ism56)
  have V2 := Lib.hid (fun W (TW : Tz W) => show Calls Tryd.prog 9 #[.int .i64 3, .int .i64 7, .int .u64 1] W (Vn6 1 (-9) 0 W) from C.value W TW 3 1 1 7 (-9) (by decide) (by unfold M.mok; decide) M.ism1)
  have V3 := Lib.hid (fun W (TW : Tz W) => show Calls Tryd.prog 13 #[.int .i64 3, .int .i64 7, .int .u64 7, .int .i64 6] W (Kn6 126 0 W) from C.key W TW 3 126 7 7 0 7 6 6 (by decide) (by unfold M.mok; decide) (by decide) (by decide) (by decide) (by decide) (by decide) M.ism126)
  have V4 := Lib.hid (fun W (TW : Tz W) => show Calls Tryd.prog 13 #[.int .i64 3, .int .i64 7, .int .u64 17, .int .i64 0] W (Kn6 0 8 W) from C.keyNone W TW 3 17 17 0 7 0 (by decide) (by decide) (by decide) (by decide) (by decide) (by decide) (by decide) (by decide) M.ism17)
  have V5 := Lib.hid (fun W (TW : Tz W) => show Calls Tryd.prog 8 #[.int .i64 3, .int .u64 58] W (S3 7 2 0 W) from C.split W TW 3 58 7 2 (by decide) (by decide) (by decide) (by decide) (by decide))
  have V6 := Lib.hid (fun W (TW : Tz W) => show Calls Tryd.prog 8 #[.int .i64 61, .int .u64 0] W (S3 0 0 1 W) from C.splitBad W TW 61 0 (by decide) (.inr (.inl (by decide))))
  have U := Up.refl w
  go_enter Tryd.func7, Tryd.ntmps7
  go_wp2_with fail
  refine (V1.out _ (TT.out.up U)).mono ?_
  rintro _ w1 ⟨rfl, h1⟩
  replace U := U.trans h1
  clear h1
  go_wp2_with fail
  refine (V2.out _ (TT.out.up U)).mono ?_
  rintro _ w2 ⟨rfl, h2⟩
  replace U := U.trans h2
  clear h2
  go_wp2_with fail
  refine (V3.out _ (TT.out.up U)).mono ?_
  rintro _ w3 ⟨rfl, h3⟩
  replace U := U.trans h3
  clear h3
  go_wp2_with fail
  refine (V4.out _ (TT.out.up U)).mono ?_
  rintro _ w4 ⟨rfl, h4⟩
  replace U := U.trans h4
  clear h4
  go_wp2_with fail
  refine (V5.out _ (TT.out.up U)).mono ?_
  rintro _ w5 ⟨rfl, h5⟩
  replace U := U.trans h5
  clear h5
  go_wp2_with fail
  refine (V6.out _ (TT.out.up U)).mono ?_
  rintro _ w6 ⟨rfl, h6⟩
  replace U := U.trans h6
  clear h6
  go_wp2_with fail
  go_ret
  exact ⟨rfl, U⟩
set_option maxHeartbeats 4000000 in
set_option maxRecDepth 100000 in
theorem mtells_walk (w : World) (TT : Hid (Tz w)) (C : Mini) (x0 : Int) (_wx0 : (Lit.int .i64 x0).wf = true) (x1 : Int) (_wx1 : (Lit.int .i64 x1).wf = true) (x2 : Int) (wx2 : (Lit.int .u64 x2).wf = true) : Calls Tryd.prog 3 #[.int .i64 x0, .int .i64 x1, .int .u64 x2] w (True6 w) := by
  obtain ⟨k, rfl, hk⟩ := nat_u6 wx2
  clear wx2
  by_cases h : bad6 x0 0 k
  ·
    have C1 := Lib.hid (fun W (TW : Tz W) => C.splitBad W TW x0 k hk h)
    have C2 := Lib.hid (fun W (TW : Tz W) => C.valueBad W TW x0 x1 k hk (bad_all h))
    have C3 := Lib.hid (fun W (_ : Tz W) => rfits6_bad W x0 0 k h)
    clear h
    have U := Up.refl w
    go_enter Tryd.func3, Tryd.ntmps3
    go_wp2_with fail
    refine (mshown_any _ (Lib.hid (TT.out.up U)) C).mono ?_
    rintro _ w1 ⟨rfl, h1⟩
    replace U := U.trans h1
    clear h1
    go_wp2_with fail
    refine (C1.out _ (TT.out.up U)).mono ?_
    rintro _ w2 ⟨rfl, h2⟩
    replace U := U.trans h2
    clear h2
    go_wp2_with fail
    refine (C2.out _ (TT.out.up U)).mono ?_
    rintro _ w3 ⟨rfl, h3⟩
    replace U := U.trans h3
    clear h3
    go_wp2_with fail
    refine (C3.out _ (TT.out.up U)).mono ?_
    rintro _ _ ⟨rfl, rfl⟩
    go_wp2_with fail
    go_ret
    exact ⟨rfl, U⟩
  ·
    obtain ⟨p, rfl, ho⟩ := of_bad6 h
    clear h
    obtain ⟨f, hf⟩ : ∃ f, k / 2 ^ p = f := ⟨_, rfl⟩
    obtain ⟨a, ha⟩ : ∃ a, k % 2 ^ p = a := ⟨_, rfl⟩
    have C1 := Lib.hid (fun W (TW : Tz W) => C.split W TW p k f a ho.1 hk ho.2.2.2 hf ha)
    have C3 := Lib.hid (fun W (_ : Tz W) => rfits6_ok W p k 0 ho)
    have C4 := Lib.hid (fun W (_ : Tz W) => rsplit6 W p k ho.1 hk f a (Lib.hid hf) (Lib.hid ha))
    have q1 : ((f : Int) != (f : Int)) = false := by simp
    have q2 : ((a : Int) != (a : Int)) = false := by simp
    by_cases h : bad6 (p : Int) x1 k
    ·
      have C2 := Lib.hid (fun W (TW : Tz W) => C.valueBad W TW (p : Int) x1 k hk h)
      have C5 := Lib.hid (fun W (_ : Tz W) => rfits6_bad W (p : Int) x1 k h)
      clear h hf ha ho
      have U := Up.refl w
      go_enter Tryd.func3, Tryd.ntmps3
      go_wp2_with fail
      refine (mshown_any _ (Lib.hid (TT.out.up U)) C).mono ?_
      rintro _ w1 ⟨rfl, h1⟩
      replace U := U.trans h1
      clear h1
      go_wp2_with fail
      refine (C1.out _ (TT.out.up U)).mono ?_
      rintro _ w2 ⟨rfl, h2⟩
      replace U := U.trans h2
      clear h2
      go_wp2_with fail
      refine (C2.out _ (TT.out.up U)).mono ?_
      rintro _ w3 ⟨rfl, h3⟩
      replace U := U.trans h3
      clear h3
      go_wp2_with fail
      refine (C3.out _ (TT.out.up U)).mono ?_
      rintro _ _ ⟨rfl, rfl⟩
      go_wp2_with fail
      refine (C4.out _ (TT.out.up U)).mono ?_
      rintro _ w4 ⟨rfl, h4⟩
      replace U := U.trans h4
      clear h4
      go_wp2_with fail
      refine (C5.out _ (TT.out.up U)).mono ?_
      rintro _ _ ⟨rfl, rfl⟩
      go_wp2_with fail
      go_ret
      exact ⟨rfl, U⟩
    ·
      obtain ⟨p', ep, ho'⟩ := of_bad6 h
      obtain rfl : p = p' := by omega
      clear h ep
      obtain ⟨m, z, hm⟩ := M.ism_ex p x1 k
      have C2 := Lib.hid (fun W (TW : Tz W) => C.value W TW p k m x1 z hk ho' hm)
      have C5 := Lib.hid (fun W (_ : Tz W) => rfits6_ok W p k x1 ho')
      have C6 := Lib.hid (fun W (_ : Tz W) => rvalue6 W p k m x1 z hk ho' hm)
      have q3 : ((m : Int) == (m : Int)) = true := by simp
      have q4 : (z == z) = true := by simp
      clear hf ha ho ho' hm
      have U := Up.refl w
      go_enter Tryd.func3, Tryd.ntmps3
      go_wp2_with fail
      refine (mshown_any _ (Lib.hid (TT.out.up U)) C).mono ?_
      rintro _ w1 ⟨rfl, h1⟩
      replace U := U.trans h1
      clear h1
      go_wp2_with fail
      refine (C1.out _ (TT.out.up U)).mono ?_
      rintro _ w2 ⟨rfl, h2⟩
      replace U := U.trans h2
      clear h2
      go_wp2_with fail
      refine (C2.out _ (TT.out.up U)).mono ?_
      rintro _ w3 ⟨rfl, h3⟩
      replace U := U.trans h3
      clear h3
      go_wp2_with fail
      refine (C3.out _ (TT.out.up U)).mono ?_
      rintro _ _ ⟨rfl, rfl⟩
      go_wp2_with fail
      refine (C4.out _ (TT.out.up U)).mono ?_
      rintro _ w4 ⟨rfl, h4⟩
      replace U := U.trans h4
      clear h4
      go_wp2_with fail
      refine (C5.out _ (TT.out.up U)).mono ?_
      rintro _ _ ⟨rfl, rfl⟩
      go_wp2_with fail
      refine (C6.out _ (TT.out.up U)).mono ?_
      rintro _ w5 ⟨rfl, h5⟩
      replace U := U.trans h5
      clear h5
      go_wp2_with fail
      go_ret
      exact ⟨rfl, U⟩
end Go.Proofs.YtajfcdkdfmnmhaaDoor
