/-
  The walk of ParseSigns, put together.
-/
import Derived.Test.YtbbjlcgfaigmdaaGreatDoorJs
namespace Go.Proofs.YtbbjlcgfaigmdaaGreatDoor
open Go.RowKit Go.Shelf
set_option linter.unusedSimpArgs false
set_option linter.unusedVariables false

/-- A text's first byte. -/
theorem first_byte (T : ByteArray) (l : List UInt8) (hl : T.data.toList = l) (h : l ≠ []) : ∃ b : Nat, b = (l.headD 0).toNat ∧ ¬ T.toList = [] ∧ (T.toList == []) = false ∧ T.toList.isEmpty = false ∧ 0 < T.size ∧ ∀ W : World, (Instr.index 9 (.string T) (.int .i64 0)).run Tryz.prog W = .ok (.int .u8 (b : Int)) W := by
  have hs : T.size = l.length := by rw [← hl]; exact (Array.length_toList).symm
  have hp : 0 < l.length := List.length_pos_iff.2 h
  have ht : T.toList = l := by rw [← hl]; exact Lib.toList_data T
  have e3 : (T[(0 : Int).toNat]'(by show 0 < T.size; omega)) = l.headD 0 := by
    have h1 : ∀ (k : Nat) (hk : k < T.size), T[k] = T.data.toList[k]'(show k < T.data.toList.length by rw [Array.length_toList]; exact hk) := fun _ _ => rfl
    have key : ∀ (l : List UInt8) (h0 : 0 < l.length), l[0]'h0 = l.headD 0 := fun l h0 => by
      cases l with
      | nil => exact absurd h0 (by simp)
      | cons c r => rfl
    rw [h1]
    exact (key _ _).trans (by rw [hl])
  refine ⟨_, rfl, by rw [ht]; exact h, ?_, ?_, by omega, fun W => ?_⟩
  · rw [ht]
    cases l with
    | nil => exact absurd rfl h
    | cons c r => rfl
  · rw [ht]
    cases l with
    | nil => exact absurd rfl h
    | cons c r => rfl
  · have hb : (0 : Int) ≤ 0 ∧ (0 : Int) < (T.size : Int) := ⟨Int.le_refl _, by omega⟩
    rw [run_index_string W 9 T .i64 _ Tryz.underlying9, dif_pos hb, e3]
set_option maxHeartbeats 4000000 in
set_option maxRecDepth 100000 in
theorem psigns_walk (w : World) (L : Hid (Lp w)) (x0 : Int) (_wx0 : (Lit.int .i64 x0).wf = true) (x1 : Int) (_wx1 : (Lit.int .i64 x1).wf = true) (s : ByteArray) (_ws : s.size ≤ maxLen) :
    Calls Tryz.prog 9 #[.int .i64 x0, .int .i64 x1, .string s] w (True10 w) := by
  obtain ⟨k, hk, hk1, hk2⟩ : ∃ k : Nat, min (s.size : Int) 300 = (k : Int) ∧ k ≤ s.size ∧ k ≤ 300 := ⟨min s.size 300, by omega, by omega, by omega⟩
  obtain ⟨T, hT⟩ : ∃ T, s.extract 0 k = T := ⟨_, rfl⟩
  obtain ⟨l, hl⟩ : ∃ l, T.data.toList = l := ⟨_, rfl⟩
  have hTk : T.size = k := by rw [← hT]; simp; omega
  have hll : T.size = l.length := by rw [← hl]; exact (Array.length_toList).symm
  have hT1 : T.size ≤ 1000000 := by omega
  have HL := Lib.hid hl
  clear hl
  have nb : ∀ {x y : Int}, x ≠ y → (x != y) = true := fun h => by simpa using h
  have ne : ∀ {x y : Int}, x = y → (x != y) = false := fun h => by simpa using h
  have qb : ∀ {x y : Int}, x = y → (x == y) = true := fun h => by simpa using h
  have qe : ∀ {x y : Int}, x ≠ y → (x == y) = false := fun h => by simpa using h
  rcases M.in_or_out x0 with h | ⟨i, rfl, i1, i2⟩
  · exact psigns_out w L x0 x1 s T k hk hk1 hk2 hT h
  have ok := M.ok i i1 i2
  have ok2 := M.ok2 i i1 i2
  have hm := ok.hm
  obtain ⟨f, hf⟩ : ∃ f, M.tb i = f := ⟨_, rfl⟩
  have HF := Lib.hid hf
  by_cases hk12 : ¬ ((M.tb i).k = 1 ∨ (M.tb i).k = 2)
  · exact psigns_kind w L i f HF i1 i2 x1 s T k hk hk1 hk2 hT (by rw [← hf]; exact nb (by omega)) (by rw [← hf]; exact nb (by omega))
  have hk12 := Classical.not_not.1 hk12
  have kk : ((f.k != 2) = true ∧ (f.k != 1) = false ∧ (f.k == 1) = true ∧ (M.tb i).k = 1) ∨ ((f.k != 2) = false ∧ (f.k == 1) = false ∧ (M.tb i).k = 2) := by
    rw [← hf]
    rcases hk12 with e | e
    · exact .inl ⟨nb (by omega), ne e, qb e, e⟩
    · exact .inr ⟨ne e, qe (by omega), e⟩
  by_cases h0 : l = []
  · have ht : T.toList = [] := by rw [Lib.toList_data, HL.out, h0]
    rcases kk with ⟨a1, a2, a3, _⟩ | ⟨a1, a2, _⟩
    · exact psigns_empty1 w L i f HF i1 i2 x1 s T k hk hk1 hk2 hT a1 a2 a3 ht
    · exact psigns_empty2 w L i f HF i1 i2 x1 s T k hk hk1 hk2 hT a1 a2 ht
  obtain ⟨b, hb, t0, t1, t2, tz, tb⟩ := first_byte T l HL.out h0
  by_cases hd : ¬ (b = 46 ∨ (48 ≤ b ∧ b ≤ 57))
  · rcases Nat.lt_or_ge b 48 with c | c
    · rcases kk with ⟨a1, a2, a3, _⟩ | ⟨a1, a2, _⟩
      · exact psigns_low1 w L i f HF i1 i2 x1 s T k hk hk1 hk2 hT a1 a2 a3 b t0 t1 t2 tz tb (nb (by omega)) (decide_eq_true (by omega))
      · exact psigns_low2 w L i f HF i1 i2 x1 s T k hk hk1 hk2 hT a1 a2 b t0 t1 t2 tz tb (nb (by omega)) (decide_eq_true (by omega))
    · rcases kk with ⟨a1, a2, a3, _⟩ | ⟨a1, a2, _⟩
      · exact psigns_high1 w L i f HF i1 i2 x1 s T k hk hk1 hk2 hT a1 a2 a3 b t0 t1 t2 tz tb (nb (by omega)) (decide_eq_false (by omega)) (decide_eq_true (by omega))
      · exact psigns_high2 w L i f HF i1 i2 x1 s T k hk hk1 hk2 hT a1 a2 b t0 t1 t2 tz tb (nb (by omega)) (decide_eq_false (by omega)) (decide_eq_true (by omega))
  have hd := Classical.not_not.1 hd
  have bb : ((b : Int) != 46) = false ∨ (((b : Int) != 46) = true ∧ decide ((b : Int) < 48) = false ∧ decide (57 < (b : Int)) = false) := by
    by_cases c : b = 46
    · exact .inl (ne (by omega))
    · exact .inr ⟨nb (by omega), decide_eq_false (by omega), decide_eq_false (by omega)⟩
  obtain ⟨p, n, e, hj⟩ := M.jc_ex (i : Int) x1 l
  obtain ⟨q, m, e2, hj2⟩ := M.jc_ex (i : Int) x1 (45 :: l)
  obtain ⟨Tm, hcat⟩ : ∃ Tm, (⟨#[45]⟩ : ByteArray) ++ T = Tm := ⟨_, rfl⟩
  have HLm : Hid (Tm.data.toList = 45 :: l) := by
    show _ = _
    rw [← hcat, ByteArray.data_append, Array.toList_append, HL.out]
    rfl
  have hTm : Tm.size ≤ 1000000 := by
    rw [← hcat, ByteArray.size_append]
    show 1 + T.size ≤ 1000000
    omega
  have CP := Lib.hid (fun W (U : Up w W) => jparse_any W (Lib.hid (L.out.up U)) (i : Int) x1 T l HL hT1 p n e hj)
  have CQ := Lib.hid (fun W (U : Up w W) => jparse_any W (Lib.hid (L.out.up U)) (i : Int) x1 Tm (45 :: l) HLm hTm q m e2 hj2)
  have hfit : e ≠ 0 → n ≤ 300 := fun e0 => by
    rcases M.jc_fits hj with ⟨_, _, h, _⟩ | ⟨h, _⟩
    · omega
    · exact absurd h e0
  have hs := M.jc_signs i1 i2 hk12 (by rw [← hb]; exact hd) hj hj2
  rcases hs with ⟨e0, rfl, he⟩ | ⟨rfl, rfl, rfl, rfl, p0, pm, hs⟩
  · have hn : n ≤ 300 := hfit e0
    have he' : ((m : Int) == (n : Int) + 1) = true ∨ (((m : Int) == (n : Int) + 1) = false ∧ (e2 == 1) = true ∧ ((m : Int) == 0) = true) := by
      by_cases c : m = n + 1
      · exact .inl (qb (by omega))
      · rcases he with h | ⟨h1, h2⟩
        · exact absurd h c
        · exact .inr ⟨qe (by omega), qb h1, qb (by omega)⟩
    rcases kk with ⟨a1, a2, a3, _⟩ | ⟨a1, a2, _⟩
    · rcases bb with c1 | ⟨c1, c2, c3⟩
      · exact psigns_bad1dot w L i f HF i1 i2 x1 s T k hk hk1 hk2 hT a1 a2 a3 b t0 t1 t2 tz tb c1 Tm hcat (by omega) p q n m e2 e2 CP CQ (nb e0) (qb rfl) hn he'
      · exact psigns_bad1dig w L i f HF i1 i2 x1 s T k hk hk1 hk2 hT a1 a2 a3 b t0 t1 t2 tz tb c1 c2 c3 Tm hcat (by omega) p q n m e2 e2 CP CQ (nb e0) (qb rfl) hn he'
    · rcases bb with c1 | ⟨c1, c2, c3⟩
      · exact psigns_bad2dot w L i f HF i1 i2 x1 s T k hk hk1 hk2 hT a1 a2 b t0 t1 t2 tz tb c1 Tm hcat (by omega) p q n m e2 e2 CP CQ (nb e0) (qb rfl) hn he'
      · exact psigns_bad2dig w L i f HF i1 i2 x1 s T k hk hk1 hk2 hT a1 a2 b t0 t1 t2 tz tb c1 c2 c3 Tm hcat (by omega) p q n m e2 e2 CP CQ (nb e0) (qb rfl) hn he'
  · rcases hs with ⟨s1, s2, s3⟩ | ⟨s1, s2⟩
    · rw [hf] at s1 s2
      rcases kk with ⟨a1, a2, a3, _⟩ | ⟨a1, a2, _⟩
      · rcases bb with c1 | ⟨c1, c2, c3⟩
        · exact psigns_nan1dot w L i f HF i1 i2 x1 s T k hk hk1 hk2 hT a1 a2 a3 b t0 t1 t2 tz tb c1 Tm hcat (by omega) p q CP CQ (nb s1) (qb s2) (qb s3)
        · exact psigns_nan1dig w L i f HF i1 i2 x1 s T k hk hk1 hk2 hT a1 a2 a3 b t0 t1 t2 tz tb c1 c2 c3 Tm hcat (by omega) p q CP CQ (nb s1) (qb s2) (qb s3)
      · rcases bb with c1 | ⟨c1, c2, c3⟩
        · exact psigns_nan2dot w L i f HF i1 i2 x1 s T k hk hk1 hk2 hT a1 a2 b t0 t1 t2 tz tb c1 Tm hcat (by omega) p q CP CQ (nb s1) (qb s2) (qb s3)
        · exact psigns_nan2dig w L i f HF i1 i2 x1 s T k hk hk1 hk2 hT a1 a2 b t0 t1 t2 tz tb c1 c2 c3 Tm hcat (by omega) p q CP CQ (nb s1) (qb s2) (qb s3)
    · obtain ⟨S, hS⟩ : ∃ z, M.sgn f = z := ⟨_, rfl⟩
      have okf : M.Ok f := hf ▸ ok
      have CS := Lib.hid (fun W => sign_any W f okf S (Lib.hid hS))
      rcases kk with ⟨a1, a2, a3, k1⟩ | ⟨a1, a2, k2⟩
      · have x0 : (M.tb i).x ≠ 0 := by have := ok2.one k1; omega
        have px : p ≠ (M.tb i).x := by rcases s1 with e | e; exact absurd e x0; exact e
        have q2 : q = M.trn (M.tb i) p := by rcases s2 with ⟨e, _⟩ | ⟨_, e⟩; omega; exact e
        obtain ⟨M', hM⟩ : ∃ z, M.msk f = z := ⟨_, rfl⟩
        have CM := Lib.hid (fun W => mask_any W f okf M' (Lib.hid hM))
        have hb2 := M.and_neg_mask ok p0 pm
        rw [hf, hM] at hb2
        rw [hf] at x0 px q2
        have qs := qb (q2.trans hb2.symm)
        rcases bb with c1 | ⟨c1, c2, c3⟩
        · exact psigns_num1dot w L i f HF i1 i2 x1 s T k hk hk1 hk2 hT a1 a2 a3 b t0 t1 t2 tz tb c1 Tm hcat (by omega) p q CP CQ (nb x0) (qe px) S M' CS CM qs
        · exact psigns_num1dig w L i f HF i1 i2 x1 s T k hk hk1 hk2 hT a1 a2 a3 b t0 t1 t2 tz tb c1 c2 c3 Tm hcat (by omega) p q CP CQ (nb x0) (qe px) S M' CS CM qs
      · have q2 : q = if M.half (M.tb i) ≤ p then p - M.half (M.tb i) else p + M.half (M.tb i) := by rcases s2 with ⟨_, e⟩ | ⟨e, _⟩; exact e; omega
        have hx := M.xor_half ok p0 pm
        have hss := ((M.sgn_ok ok).2 (by omega)).1
        rw [hf] at hss q2 hx s1
        rw [hS] at hss
        have qs : (q == bits BinOp.xor IntKind.u64 p S) = true := qb (by rw [hss, hx, q2])
        have xx : (f.x != 0) = false ∨ ((f.x != 0) = true ∧ (p == f.x) = false) := by
          by_cases c : f.x = 0
          · exact .inl (ne c)
          · exact .inr ⟨nb c, qe (s1.resolve_left c)⟩
        rcases bb with c1 | ⟨c1, c2, c3⟩
        · exact psigns_num2dot w L i f HF i1 i2 x1 s T k hk hk1 hk2 hT a1 a2 b t0 t1 t2 tz tb c1 Tm hcat (by omega) p q CP CQ xx S CS qs
        · exact psigns_num2dig w L i f HF i1 i2 x1 s T k hk hk1 hk2 hT a1 a2 b t0 t1 t2 tz tb c1 c2 c3 Tm hcat (by omega) p q CP CQ xx S CS qs
end Go.Proofs.YtbbjlcgfaigmdaaGreatDoor
