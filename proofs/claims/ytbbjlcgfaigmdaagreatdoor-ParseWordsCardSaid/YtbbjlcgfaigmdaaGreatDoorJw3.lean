/-
  The walk of ParseWords, put together.
-/
import Derived.Test.YtbbjlcgfaigmdaaGreatDoorJw0
import Derived.Test.YtbbjlcgfaigmdaaGreatDoorJw1
import Derived.Test.YtbbjlcgfaigmdaaGreatDoorJw2
namespace Go.Proofs.YtbbjlcgfaigmdaaGreatDoor
open Go.RowKit Go.Shelf
set_option linter.unusedSimpArgs false
set_option linter.unusedVariables false

theorem and_65535 (x : Int) : ∃ m : Nat, Go.bits BinOp.and IntKind.i64 x 65535 = (m : Int) ∧ m ≤ 65535 := by
  refine ⟨((BitVec.ofInt 64 x).toNat &&& 65535), ?_, ?_⟩
  · show IntKind.i64.wrap ((BitVec.ofInt 64 x &&& BitVec.ofInt 64 65535).toNat : Int) = _
    rw [BitVec.toNat_and, show (BitVec.ofInt 64 65535).toNat = 65535 from rfl]
    have : (BitVec.ofInt 64 x).toNat &&& 65535 ≤ 65535 := Nat.and_le_right
    exact IntWalk.i64_in _ (by omega)
  · exact Nat.and_le_right
theorem M.n_x (i : Nat) (a : 1 ≤ i) (b : i ≤ 14) : (M.tb i).n ≠ 0 → (M.tb i).x ≠ 0 := by
  refine M.all14 (p := fun i => (M.tb i).n ≠ 0 → (M.tb i).x ≠ 0) ?_ ?_ ?_ ?_ ?_ ?_ ?_ ?_ ?_ ?_ ?_ ?_ ?_ ?_ i a b <;> decide
theorem word_cases (x0 x1 : Int) (l : List UInt8) (K : Nat) (neg : Bool) (h : M.rs l = (⟨K, neg, ⟨0, 0, 0, false⟩⟩, 0, 0)) (hK : K ≠ 1) :
    ((x0 < 1 ∨ 15 ≤ x0) ∧ M.Jc x0 x1 l 0 0 3) ∨ ∃ i : Nat, x0 = i ∧ 1 ≤ i ∧ i ≤ 14 ∧ (((x1 != 1) = true ∧ (x1 != 2) = true ∧ M.Jc x0 x1 l 0 0 1) ∨
      (((x1 != 1) = false ∨ ((x1 != 1) = true ∧ (x1 != 2) = false)) ∧ ∃ p n e, M.Wq (M.tb i) K neg p n e ∧ M.Jc x0 x1 l p n e)) := by
  rcases M.in_or_out x0 with h0 | ⟨i, rfl, i1, i2⟩
  · exact .inl ⟨h0, .inl ⟨h0, rfl, rfl, rfl⟩⟩
  · refine .inr ⟨i, rfl, i1, i2, ?_⟩
    by_cases c : x1 = 1 ∨ x1 = 2
    · obtain ⟨p, n, e, hw⟩ := M.wq_ex (M.tb i) K neg
      refine .inr ⟨?_, p, n, e, hw, M.jc_of i1 i2 c h (.inl ⟨hK, hw⟩)⟩
      rcases c with rfl | rfl
      · exact .inl (by decide)
      · exact .inr ⟨by decide, by decide⟩
    · refine .inl ⟨?_, ?_, .inr ⟨i, rfl, i1, i2, .inl ⟨c, rfl, rfl, rfl⟩⟩⟩
      · rw [bne_iff_ne]; exact fun e => c (.inl e)
      · rw [bne_iff_ne]; exact fun e => c (.inr e)
set_option maxHeartbeats 4000000 in
set_option maxRecDepth 100000 in
theorem pw_0n (w : World) (L : Hid (Lp w)) (x0 x1 x2 : Int) (m : Nat) (hm : Go.bits BinOp.and IntKind.i64 x2 65535 = (m : Int)) (hr : (m : Int).tmod 3 = 0) (hr2 : (m : Int) % 3 = 0) : Calls Tryz.prog 6 #[.int .i64 x0, .int .i64 x1, .int .i64 x2, .bool true] w (True10 w) := by
  have nb : ∀ {x y : Int}, x ≠ y → (x != y) = true := fun h => by simpa using h
  have ne : ∀ {x y : Int}, x = y → (x != y) = false := fun h => by simpa using h
  have qb : ∀ {x y : Int}, x = y → (x == y) = true := fun h => by simpa using h
  have qe : ∀ {x y : Int}, x ≠ y → (x == y) = false := fun h => by simpa using h
  rcases word_cases x0 x1 [45, 105, 110, 102] 2 true (by kernel_rfl) (by decide) with ⟨h0, hj⟩ | ⟨i, rfl, i1, i2, ⟨m1, m2, hj⟩ | ⟨md, p, n, e, hw, hj⟩⟩
  · exact pw_out0n w L x0 h0 x1 x2 m hm hr hr2 rfl (Lib.hid (fun W U => jparse_any W (Lib.hid (L.out.up U)) _ x1 ⟨#[45, 105, 110, 102]⟩ [45, 105, 110, 102] (Lib.hid rfl) (show (4 : Nat) ≤ 1000000 by decide) 0 0 3 hj))
  · exact pw_mode0n w L i _ (Lib.hid rfl) i1 i2 x1 x2 m hm hr hr2 rfl (Lib.hid (fun W U => jparse_any W (Lib.hid (L.out.up U)) _ x1 ⟨#[45, 105, 110, 102]⟩ [45, 105, 110, 102] (Lib.hid rfl) (show (4 : Nat) ≤ 1000000 by decide) 0 0 1 hj)) m1 m2
  have ok := M.ok i i1 i2
  have ok2 := M.ok2 i i1 i2
  have ok3 := M.ok3 i i1 i2
  have hm' := ok.hm
  rcases (show M.Wq (M.tb i) 2 true p n e from hw) with ⟨g1, h, rfl, rfl, rfl⟩ | ⟨g1, h, h2, rfl, rfl, rfl⟩ | ⟨g1, h, h2, rfl, rfl, rfl⟩ | ⟨h2, h3, h4, rfl, rfl, rfl⟩
  · have hm2 := (ok3.most h).1
    have hx := M.n_x i i1 i2 h
    obtain ⟨_, p0, pm, hc⟩ := M.wq_cn i1 i2 hw
    have hs := ((M.sgn_ok ok).2 (by omega)).1
    rw [if_pos rfl] at p0 pm hc
    have CP := (Lib.hid (fun W U => jparse_any W (Lib.hid (L.out.up U)) _ x1 ⟨#[45, 105, 110, 102]⟩ [45, 105, 110, 102] (Lib.hid rfl) (show (4 : Nat) ≤ 1000000 by decide) ((M.tb i).n + M.half (M.tb i)) 0 0 hj))
    exact pw_has0n w L i _ (Lib.hid rfl) i1 i2 _ x1 x2 m hm hr hr2 rfl CP md (nb h) (nb hx) (nb (by omega)) (qe (by omega)) (M.half (M.tb i)) (Lib.hid (fun W => sign_any W (M.tb i) ok _ (Lib.hid hs))) (IntWalk.u64_in _ (by omega)) (Lib.hid (fun W F => canon_in W F i i1 i2 _ p0 (by omega) pm _ (Lib.hid hc)))
  · exact absurd g1 (by decide)
  · exact absurd g1 (by decide)
  · exact pw_none0na w L i _ (Lib.hid rfl) i1 i2 x1 x2 m hm hr hr2 rfl (Lib.hid (fun W U => jparse_any W (Lib.hid (L.out.up U)) _ x1 ⟨#[45, 105, 110, 102]⟩ [45, 105, 110, 102] (Lib.hid rfl) (show (4 : Nat) ≤ 1000000 by decide) 0 1 5 hj)) md (ne (Classical.not_not.1 (fun e => h2 ⟨rfl, e⟩)))
set_option maxHeartbeats 4000000 in
set_option maxRecDepth 100000 in
theorem pw_0p (w : World) (L : Hid (Lp w)) (x0 x1 x2 : Int) (m : Nat) (hm : Go.bits BinOp.and IntKind.i64 x2 65535 = (m : Int)) (hr : (m : Int).tmod 3 = 0) (hr2 : (m : Int) % 3 = 0) : Calls Tryz.prog 6 #[.int .i64 x0, .int .i64 x1, .int .i64 x2, .bool false] w (True10 w) := by
  have nb : ∀ {x y : Int}, x ≠ y → (x != y) = true := fun h => by simpa using h
  have ne : ∀ {x y : Int}, x = y → (x != y) = false := fun h => by simpa using h
  have qb : ∀ {x y : Int}, x = y → (x == y) = true := fun h => by simpa using h
  have qe : ∀ {x y : Int}, x ≠ y → (x == y) = false := fun h => by simpa using h
  rcases word_cases x0 x1 [105, 110, 102] 2 false (by kernel_rfl) (by decide) with ⟨h0, hj⟩ | ⟨i, rfl, i1, i2, ⟨m1, m2, hj⟩ | ⟨md, p, n, e, hw, hj⟩⟩
  · exact pw_out0p w L x0 h0 x1 x2 m hm hr hr2 (Lib.hid (fun W U => jparse_any W (Lib.hid (L.out.up U)) _ x1 ⟨#[105, 110, 102]⟩ [105, 110, 102] (Lib.hid rfl) (show (3 : Nat) ≤ 1000000 by decide) 0 0 3 hj))
  · exact pw_mode0p w L i _ (Lib.hid rfl) i1 i2 x1 x2 m hm hr hr2 (Lib.hid (fun W U => jparse_any W (Lib.hid (L.out.up U)) _ x1 ⟨#[105, 110, 102]⟩ [105, 110, 102] (Lib.hid rfl) (show (3 : Nat) ≤ 1000000 by decide) 0 0 1 hj)) m1 m2
  have ok := M.ok i i1 i2
  have ok2 := M.ok2 i i1 i2
  have ok3 := M.ok3 i i1 i2
  have hm' := ok.hm
  rcases (show M.Wq (M.tb i) 2 false p n e from hw) with ⟨g1, h, rfl, rfl, rfl⟩ | ⟨g1, h, h2, rfl, rfl, rfl⟩ | ⟨g1, h, h2, rfl, rfl, rfl⟩ | ⟨h2, h3, h4, rfl, rfl, rfl⟩
  · have hm2 := (ok3.most h).1
    have hx := M.n_x i i1 i2 h
    obtain ⟨_, p0, pm, hc⟩ := M.wq_cn i1 i2 hw
    rw [if_neg (by decide)] at p0 pm hc
    have CP := (Lib.hid (fun W U => jparse_any W (Lib.hid (L.out.up U)) _ x1 ⟨#[105, 110, 102]⟩ [105, 110, 102] (Lib.hid rfl) (show (3 : Nat) ≤ 1000000 by decide) (M.tb i).n 0 0 hj))
    exact pw_has0p w L i _ (Lib.hid rfl) i1 i2 x1 x2 m hm hr hr2 CP md (nb h) (nb hx) (nb (by omega)) (qe (by omega)) (Lib.hid (fun W F => canon_in W F i i1 i2 _ p0 (by omega) pm _ (Lib.hid hc)))
  · exact absurd g1 (by decide)
  · exact absurd g1 (by decide)
  · exact pw_none0pa w L i _ (Lib.hid rfl) i1 i2 x1 x2 m hm hr hr2 (Lib.hid (fun W U => jparse_any W (Lib.hid (L.out.up U)) _ x1 ⟨#[105, 110, 102]⟩ [105, 110, 102] (Lib.hid rfl) (show (3 : Nat) ≤ 1000000 by decide) 0 0 5 hj)) md (ne (Classical.not_not.1 (fun e => h2 ⟨rfl, e⟩)))
set_option maxHeartbeats 4000000 in
set_option maxRecDepth 100000 in
theorem pw_1n (w : World) (L : Hid (Lp w)) (x0 x1 x2 : Int) (m : Nat) (hm : Go.bits BinOp.and IntKind.i64 x2 65535 = (m : Int)) (hr : (m : Int).tmod 3 = 1) (hr2 : (m : Int) % 3 = 1) : Calls Tryz.prog 6 #[.int .i64 x0, .int .i64 x1, .int .i64 x2, .bool true] w (True10 w) := by
  have nb : ∀ {x y : Int}, x ≠ y → (x != y) = true := fun h => by simpa using h
  have ne : ∀ {x y : Int}, x = y → (x != y) = false := fun h => by simpa using h
  have qb : ∀ {x y : Int}, x = y → (x == y) = true := fun h => by simpa using h
  have qe : ∀ {x y : Int}, x ≠ y → (x == y) = false := fun h => by simpa using h
  rcases word_cases x0 x1 [45, 110, 97, 110] 3 true (by kernel_rfl) (by decide) with ⟨h0, hj⟩ | ⟨i, rfl, i1, i2, ⟨m1, m2, hj⟩ | ⟨md, p, n, e, hw, hj⟩⟩
  · exact pw_out1n w L x0 h0 x1 x2 m hm hr hr2 rfl (Lib.hid (fun W U => jparse_any W (Lib.hid (L.out.up U)) _ x1 ⟨#[45, 110, 97, 110]⟩ [45, 110, 97, 110] (Lib.hid rfl) (show (4 : Nat) ≤ 1000000 by decide) 0 0 3 hj))
  · exact pw_mode1n w L i _ (Lib.hid rfl) i1 i2 x1 x2 m hm hr hr2 rfl (Lib.hid (fun W U => jparse_any W (Lib.hid (L.out.up U)) _ x1 ⟨#[45, 110, 97, 110]⟩ [45, 110, 97, 110] (Lib.hid rfl) (show (4 : Nat) ≤ 1000000 by decide) 0 0 1 hj)) m1 m2
  have ok := M.ok i i1 i2
  have ok2 := M.ok2 i i1 i2
  have ok3 := M.ok3 i i1 i2
  have hm' := ok.hm
  rcases (show M.Wq (M.tb i) 3 true p n e from hw) with ⟨g1, h, rfl, rfl, rfl⟩ | ⟨g1, h, h2, rfl, rfl, rfl⟩ | ⟨g1, h, h2, rfl, rfl, rfl⟩ | ⟨h2, h3, h4, rfl, rfl, rfl⟩
  · exact absurd g1 (by decide)
  · obtain ⟨_, p0, pm, hc⟩ := M.wq_cn i1 i2 hw
    have CP := (Lib.hid (fun W U => jparse_any W (Lib.hid (L.out.up U)) _ x1 ⟨#[45, 110, 97, 110]⟩ [45, 110, 97, 110] (Lib.hid rfl) (show (4 : Nat) ≤ 1000000 by decide) (M.tb i).x 0 0 hj))
    exact pw_has1n w L i _ (Lib.hid rfl) i1 i2 x1 x2 m hm hr hr2 rfl CP md (by by_cases c : (M.tb i).n = 0; exact .inr (ne c); exact .inl (nb c)) (nb h) (nb h2) (qe h2) (Lib.hid (fun W F => canon_in W F i i1 i2 _ p0 (by omega) pm _ (Lib.hid hc)))
  · exact absurd g1 (by decide)
  · by_cases x0 : (M.tb i).x = 0
    · exact pw_none1na w L i _ (Lib.hid rfl) i1 i2 x1 x2 m hm hr hr2 rfl (Lib.hid (fun W U => jparse_any W (Lib.hid (L.out.up U)) _ x1 ⟨#[45, 110, 97, 110]⟩ [45, 110, 97, 110] (Lib.hid rfl) (show (4 : Nat) ≤ 1000000 by decide) 0 1 5 hj)) md (ne x0)
    · have k1 : (M.tb i).k = 1 := Classical.not_not.1 (fun e => h3 ⟨rfl, x0, e⟩)
      exact pw_none1nb w L i _ (Lib.hid rfl) i1 i2 x1 x2 m hm hr hr2 rfl (Lib.hid (fun W U => jparse_any W (Lib.hid (L.out.up U)) _ x1 ⟨#[45, 110, 97, 110]⟩ [45, 110, 97, 110] (Lib.hid rfl) (show (4 : Nat) ≤ 1000000 by decide) 0 1 5 hj)) md (nb x0) (ne k1) (qb k1)
set_option maxHeartbeats 4000000 in
set_option maxRecDepth 100000 in
theorem pw_1p (w : World) (L : Hid (Lp w)) (x0 x1 x2 : Int) (m : Nat) (hm : Go.bits BinOp.and IntKind.i64 x2 65535 = (m : Int)) (hr : (m : Int).tmod 3 = 1) (hr2 : (m : Int) % 3 = 1) : Calls Tryz.prog 6 #[.int .i64 x0, .int .i64 x1, .int .i64 x2, .bool false] w (True10 w) := by
  have nb : ∀ {x y : Int}, x ≠ y → (x != y) = true := fun h => by simpa using h
  have ne : ∀ {x y : Int}, x = y → (x != y) = false := fun h => by simpa using h
  have qb : ∀ {x y : Int}, x = y → (x == y) = true := fun h => by simpa using h
  have qe : ∀ {x y : Int}, x ≠ y → (x == y) = false := fun h => by simpa using h
  rcases word_cases x0 x1 [110, 97, 110] 3 false (by kernel_rfl) (by decide) with ⟨h0, hj⟩ | ⟨i, rfl, i1, i2, ⟨m1, m2, hj⟩ | ⟨md, p, n, e, hw, hj⟩⟩
  · exact pw_out1p w L x0 h0 x1 x2 m hm hr hr2 (Lib.hid (fun W U => jparse_any W (Lib.hid (L.out.up U)) _ x1 ⟨#[110, 97, 110]⟩ [110, 97, 110] (Lib.hid rfl) (show (3 : Nat) ≤ 1000000 by decide) 0 0 3 hj))
  · exact pw_mode1p w L i _ (Lib.hid rfl) i1 i2 x1 x2 m hm hr hr2 (Lib.hid (fun W U => jparse_any W (Lib.hid (L.out.up U)) _ x1 ⟨#[110, 97, 110]⟩ [110, 97, 110] (Lib.hid rfl) (show (3 : Nat) ≤ 1000000 by decide) 0 0 1 hj)) m1 m2
  have ok := M.ok i i1 i2
  have ok2 := M.ok2 i i1 i2
  have ok3 := M.ok3 i i1 i2
  have hm' := ok.hm
  rcases (show M.Wq (M.tb i) 3 false p n e from hw) with ⟨g1, h, rfl, rfl, rfl⟩ | ⟨g1, h, h2, rfl, rfl, rfl⟩ | ⟨g1, h, h2, rfl, rfl, rfl⟩ | ⟨h2, h3, h4, rfl, rfl, rfl⟩
  · exact absurd g1 (by decide)
  · obtain ⟨_, p0, pm, hc⟩ := M.wq_cn i1 i2 hw
    have CP := (Lib.hid (fun W U => jparse_any W (Lib.hid (L.out.up U)) _ x1 ⟨#[110, 97, 110]⟩ [110, 97, 110] (Lib.hid rfl) (show (3 : Nat) ≤ 1000000 by decide) (M.tb i).x 0 0 hj))
    exact pw_has1p w L i _ (Lib.hid rfl) i1 i2 x1 x2 m hm hr hr2 CP md (by by_cases c : (M.tb i).n = 0; exact .inr (ne c); exact .inl (nb c)) (nb h) (nb h2) (qe h2) (Lib.hid (fun W F => canon_in W F i i1 i2 _ p0 (by omega) pm _ (Lib.hid hc)))
  · exact absurd g1 (by decide)
  · by_cases x0 : (M.tb i).x = 0
    · exact pw_none1pa w L i _ (Lib.hid rfl) i1 i2 x1 x2 m hm hr hr2 (Lib.hid (fun W U => jparse_any W (Lib.hid (L.out.up U)) _ x1 ⟨#[110, 97, 110]⟩ [110, 97, 110] (Lib.hid rfl) (show (3 : Nat) ≤ 1000000 by decide) 0 0 5 hj)) md (ne x0)
    · have k1 : (M.tb i).k = 1 := Classical.not_not.1 (fun e => h3 ⟨rfl, x0, e⟩)
      exact pw_none1pb w L i _ (Lib.hid rfl) i1 i2 x1 x2 m hm hr hr2 (Lib.hid (fun W U => jparse_any W (Lib.hid (L.out.up U)) _ x1 ⟨#[110, 97, 110]⟩ [110, 97, 110] (Lib.hid rfl) (show (3 : Nat) ≤ 1000000 by decide) 0 0 5 hj)) md (nb x0) (ne k1) (qb k1)
set_option maxHeartbeats 4000000 in
set_option maxRecDepth 100000 in
theorem pw_2n (w : World) (L : Hid (Lp w)) (x0 x1 x2 : Int) (m : Nat) (hm : Go.bits BinOp.and IntKind.i64 x2 65535 = (m : Int)) (hr : (m : Int).tmod 3 = 2) (hr2 : (m : Int) % 3 = 2) : Calls Tryz.prog 6 #[.int .i64 x0, .int .i64 x1, .int .i64 x2, .bool true] w (True10 w) := by
  have nb : ∀ {x y : Int}, x ≠ y → (x != y) = true := fun h => by simpa using h
  have ne : ∀ {x y : Int}, x = y → (x != y) = false := fun h => by simpa using h
  have qb : ∀ {x y : Int}, x = y → (x == y) = true := fun h => by simpa using h
  have qe : ∀ {x y : Int}, x ≠ y → (x == y) = false := fun h => by simpa using h
  rcases word_cases x0 x1 [45, 78, 97, 82] 4 true (by kernel_rfl) (by decide) with ⟨h0, hj⟩ | ⟨i, rfl, i1, i2, ⟨m1, m2, hj⟩ | ⟨md, p, n, e, hw, hj⟩⟩
  · exact pw_out2n w L x0 h0 x1 x2 m hm hr hr2 rfl (Lib.hid (fun W U => jparse_any W (Lib.hid (L.out.up U)) _ x1 ⟨#[45, 78, 97, 82]⟩ [45, 78, 97, 82] (Lib.hid rfl) (show (4 : Nat) ≤ 1000000 by decide) 0 0 3 hj))
  · exact pw_mode2n w L i _ (Lib.hid rfl) i1 i2 x1 x2 m hm hr hr2 rfl (Lib.hid (fun W U => jparse_any W (Lib.hid (L.out.up U)) _ x1 ⟨#[45, 78, 97, 82]⟩ [45, 78, 97, 82] (Lib.hid rfl) (show (4 : Nat) ≤ 1000000 by decide) 0 0 1 hj)) m1 m2
  have ok := M.ok i i1 i2
  have ok2 := M.ok2 i i1 i2
  have ok3 := M.ok3 i i1 i2
  have hm' := ok.hm
  rcases (show M.Wq (M.tb i) 4 true p n e from hw) with ⟨g1, h, rfl, rfl, rfl⟩ | ⟨g1, h, h2, rfl, rfl, rfl⟩ | ⟨g1, h, h2, rfl, rfl, rfl⟩ | ⟨h2, h3, h4, rfl, rfl, rfl⟩
  · exact absurd g1 (by decide)
  · exact absurd g1 (by decide)
  · exact absurd h2 (by decide)
  · by_cases k1 : (M.tb i).k = 1
    · exact pw_none2nb w L i _ (Lib.hid rfl) i1 i2 x1 x2 m hm hr hr2 rfl (Lib.hid (fun W U => jparse_any W (Lib.hid (L.out.up U)) _ x1 ⟨#[45, 78, 97, 82]⟩ [45, 78, 97, 82] (Lib.hid rfl) (show (4 : Nat) ≤ 1000000 by decide) 0 1 5 hj)) md (qb k1) (ne k1)
    · exact pw_none2na w L i _ (Lib.hid rfl) i1 i2 x1 x2 m hm hr hr2 rfl (Lib.hid (fun W U => jparse_any W (Lib.hid (L.out.up U)) _ x1 ⟨#[45, 78, 97, 82]⟩ [45, 78, 97, 82] (Lib.hid rfl) (show (4 : Nat) ≤ 1000000 by decide) 0 1 5 hj)) md (qe k1) (nb k1)
set_option maxHeartbeats 4000000 in
set_option maxRecDepth 100000 in
theorem pw_2p (w : World) (L : Hid (Lp w)) (x0 x1 x2 : Int) (m : Nat) (hm : Go.bits BinOp.and IntKind.i64 x2 65535 = (m : Int)) (hr : (m : Int).tmod 3 = 2) (hr2 : (m : Int) % 3 = 2) : Calls Tryz.prog 6 #[.int .i64 x0, .int .i64 x1, .int .i64 x2, .bool false] w (True10 w) := by
  have nb : ∀ {x y : Int}, x ≠ y → (x != y) = true := fun h => by simpa using h
  have ne : ∀ {x y : Int}, x = y → (x != y) = false := fun h => by simpa using h
  have qb : ∀ {x y : Int}, x = y → (x == y) = true := fun h => by simpa using h
  have qe : ∀ {x y : Int}, x ≠ y → (x == y) = false := fun h => by simpa using h
  rcases word_cases x0 x1 [78, 97, 82] 4 false (by kernel_rfl) (by decide) with ⟨h0, hj⟩ | ⟨i, rfl, i1, i2, ⟨m1, m2, hj⟩ | ⟨md, p, n, e, hw, hj⟩⟩
  · exact pw_out2p w L x0 h0 x1 x2 m hm hr hr2 (Lib.hid (fun W U => jparse_any W (Lib.hid (L.out.up U)) _ x1 ⟨#[78, 97, 82]⟩ [78, 97, 82] (Lib.hid rfl) (show (3 : Nat) ≤ 1000000 by decide) 0 0 3 hj))
  · exact pw_mode2p w L i _ (Lib.hid rfl) i1 i2 x1 x2 m hm hr hr2 (Lib.hid (fun W U => jparse_any W (Lib.hid (L.out.up U)) _ x1 ⟨#[78, 97, 82]⟩ [78, 97, 82] (Lib.hid rfl) (show (3 : Nat) ≤ 1000000 by decide) 0 0 1 hj)) m1 m2
  have ok := M.ok i i1 i2
  have ok2 := M.ok2 i i1 i2
  have ok3 := M.ok3 i i1 i2
  have hm' := ok.hm
  rcases (show M.Wq (M.tb i) 4 false p n e from hw) with ⟨g1, h, rfl, rfl, rfl⟩ | ⟨g1, h, h2, rfl, rfl, rfl⟩ | ⟨g1, h, h2, rfl, rfl, rfl⟩ | ⟨h2, h3, h4, rfl, rfl, rfl⟩
  · exact absurd g1 (by decide)
  · exact absurd g1 (by decide)
  · obtain ⟨_, p0, pm, hc⟩ := M.wq_cn i1 i2 hw
    have CP := (Lib.hid (fun W U => jparse_any W (Lib.hid (L.out.up U)) _ x1 ⟨#[78, 97, 82]⟩ [78, 97, 82] (Lib.hid rfl) (show (3 : Nat) ≤ 1000000 by decide) (M.tb i).x 0 0 hj))
    have h1 := ok2.one h
    exact pw_has2p w L i _ (Lib.hid rfl) i1 i2 x1 x2 m hm hr hr2 CP md (ne (ok2.inf h)) (nb (by omega)) (qb h) (ne h) (Lib.hid (fun W F => canon_in W F i i1 i2 _ p0 (by omega) pm _ (Lib.hid hc)))
  · have k1 : (M.tb i).k ≠ 1 := fun e => h4 ⟨rfl, e, rfl⟩
    exact pw_none2pa w L i _ (Lib.hid rfl) i1 i2 x1 x2 m hm hr hr2 (Lib.hid (fun W U => jparse_any W (Lib.hid (L.out.up U)) _ x1 ⟨#[78, 97, 82]⟩ [78, 97, 82] (Lib.hid rfl) (show (3 : Nat) ≤ 1000000 by decide) 0 0 5 hj)) md (qe k1) (nb k1)
set_option maxHeartbeats 4000000 in
set_option maxRecDepth 100000 in
theorem pwords_walk (w : World) (L : Hid (Lp w)) (x0 : Int) (_wx0 : (Lit.int .i64 x0).wf = true) (x1 : Int) (_wx1 : (Lit.int .i64 x1).wf = true) (x2 : Int) (_wx2 : (Lit.int .i64 x2).wf = true) (x3 : Bool) :
    Calls Tryz.prog 6 #[.int .i64 x0, .int .i64 x1, .int .i64 x2, .bool x3] w (True10 w) := by
  obtain ⟨m, hm, _⟩ := and_65535 x2
  have ht : ∀ r : Nat, m % 3 = r → (m : Int).tmod 3 = (r : Int) ∧ (m : Int) % 3 = (r : Int) := fun r h => by
    rw [Int.tmod_eq_emod_of_nonneg (by omega)]
    omega
  rcases (show m % 3 = 0 ∨ m % 3 = 1 ∨ m % 3 = 2 by omega) with h | h | h
  · obtain ⟨a, b⟩ := ht 0 h
    cases x3
    · exact pw_0p w L x0 x1 x2 m hm a b
    · exact pw_0n w L x0 x1 x2 m hm a b
  · obtain ⟨a, b⟩ := ht 1 h
    cases x3
    · exact pw_1p w L x0 x1 x2 m hm a b
    · exact pw_1n w L x0 x1 x2 m hm a b
  · obtain ⟨a, b⟩ := ht 2 h
    cases x3
    · exact pw_2p w L x0 x1 x2 m hm a b
    · exact pw_2n w L x0 x1 x2 m hm a b
end Go.Proofs.YtbbjlcgfaigmdaaGreatDoor
