/-
  The library's TrimLeft and TrimRight (of noughts), Grow and Concat, at bytes: their contracts.
-/
import Derived.Test.YtjmnobgllnaljaaGreatDoorSb
import Derived.Lib.AppendZeros
import Derived.Lib.SlBytesConst
import Derived.LoopN
import Derived.ArgAppend
namespace Go.Proofs.YtjmnobgllnaljaaGreatDoor
open Go.RowKit Go.Shelf

theorem M.lz_drop (l : List UInt8) (j : Nat) (hj : j ≤ l.length) (h1 : ∀ i, i < j → l.getD i 0 = 48) (h2 : j < l.length → l.getD j 0 ≠ 48) : M.lz l = l.drop j := by
  induction l generalizing j with
  | nil => simp [M.lz]
  | cons c t ih =>
    cases j with
    | zero =>
      have h3 : c ≠ 48 := h2 (by simp)
      rw [M.lz_cons, if_neg h3, List.drop_zero]
    | succ j =>
      have h0 : c = 48 := h1 0 (by omega)
      rw [M.lz_cons, if_pos h0, List.drop_succ_cons]
      exact ih j (by simpa using hj) (fun i hi => by have := h1 (i + 1) (by omega); simpa using this) (fun h => by have := h2 (by simpa using h); simpa using this)
theorem M.tz_take (l : List UInt8) (k : Nat) (hk : k ≤ l.length) (h1 : ∀ i, k ≤ i → i < l.length → l.getD i 0 = 48) (h2 : 0 < k → l.getD (k - 1) 0 ≠ 48) : M.tz l = l.take k := by
  unfold M.tz
  have e : M.lz l.reverse = l.reverse.drop (l.length - k) := by
    refine M.lz_drop _ _ (by rw [List.length_reverse]; omega) (fun i hi => ?_) (fun h => ?_)
    · rw [List.getD_eq_getElem?_getD, List.getElem?_reverse (by omega), ← List.getD_eq_getElem?_getD]
      exact h1 _ (by omega) (by omega)
    · rw [List.length_reverse] at h
      rw [List.getD_eq_getElem?_getD, List.getElem?_reverse (by omega), ← List.getD_eq_getElem?_getD]
      rw [show l.length - 1 - (l.length - k) = k - 1 from by omega]
      exact h2 (by omega)
  rw [e, List.drop_reverse, List.reverse_reverse]
  congr 1
  omega
theorem slice_1 (A : Option Addr) (n c : Nat) (hi : 1 ≤ n) (W : World) :
    (Instr.slice 67 (.slice A n c) (some (.int .i64 1)) none none).run Tryz.prog W = .ok (.slice (Adr A c 1) (n - 1) (c - 1)) W := slice_i A n c 1 hi W
theorem Sb.from {w : World} {A : Option Addr} {n c : Nat} {l : List UInt8} (h : Sb w A n c l) {i : Nat} (hi : i ≤ n) : Sb w (Adr A c i) (n - i) (c - i) (l.drop i) := by
  have h1 := h.piece hi (Nat.le_refl _)
  rwa [List.take_of_length_le (by rw [List.length_drop, h.num]; exact Nat.le_refl _)] at h1
theorem Sb.take {w : World} {A : Option Addr} {n c : Nat} {l : List UInt8} (h : Sb w A n c l) {k : Nat} (hk : k ≤ n) : Sb w A k c (l.take k) := by
  refine ⟨by rw [List.length_take, h.num]; omega, Nat.le_trans hk h.len, h.none_, fun ad hA j hj => ?_⟩
  rw [h.at_ ad hA j (by omega), List.getD_eq_getElem?_getD, List.getD_eq_getElem?_getD, List.getElem?_take_of_lt hj]

/-- What TrimLeft of noughts comes to. -/
def Tl (A : Option Addr) (n c : Nat) (l : List UInt8) (w : World) (e : Ending) (w' : World) : Prop :=
  w = w' ∧ ((e = .returned (.slice none 0 0) ∧ M.lz l = []) ∨ ∃ j, j < n ∧ e = .returned (.slice (A.map (·.add j)) (n - j) (c - j)) ∧ M.lz l = l.drop j)
set_option maxHeartbeats 1000000 in
set_option maxRecDepth 100000 in
theorem trimLeftByte_any (w : World) (A : Option Addr) (n c : Nat) (l : List UInt8) (h : Sb w A n c l) (_hn : n ≤ 1000000000) :
    Calls Tryz.prog 120 #[.slice A n c, .int .u8 48] w (Tl A n c l w) := by
  have hl := h.num
  have HS := Lib.hid h
  clear h
  go_enter Tryz.func120, Tryz.ntmps120
  go_wp2_with fail
  go_loop [0] (fun s => ∃ (j k : Nat) (A' : Option Addr), j + k = n ∧ s = .slice A' k (c - j) ∧ Sb w A' k (c - j) (l.drop j) ∧ (0 < k → A' = A.map (·.add j)) ∧ ∀ i, i < j → l.getD i 0 = 48) (fun s => lenOf s)
  case atStart =>
    refine ⟨0, n, A, Nat.zero_add _, rfl, HS.out, fun _ => ?_, fun i hi => absurd hi (Nat.not_lt_zero i)⟩
    cases A with
    | none => rfl
    | some a => simp [Addr.add]
  case round =>
    obtain ⟨j, k, A', hj, rfl, S, hA, hz⟩ := hrel
    rcases Nat.eq_zero_or_pos k with h0 | h0
    · subst h0
      have HZ := Lib.hid hz
      clear S hA hz
      go_wp2_with fail
      go_ret
      refine ⟨rfl, .inl ⟨rfl, ?_⟩⟩
      rw [M.lz_drop l j (by omega) HZ.out (fun h => by omega), List.drop_of_length_le (by omega)]
    · obtain ⟨ad, rfl⟩ := S.ad h0
      obtain ⟨x, hx⟩ : ∃ x, l.getD j 0 = x := ⟨_, rfl⟩
      have cx := S.at_ ad rfl 0 h0
      have ex : (l.drop j).getD 0 0 = x := by rw [← hx, List.getD_eq_getElem?_getD, List.getElem?_drop, ← List.getD_eq_getElem?_getD]; rfl
      rw [ex, show ad.add 0 = ad from by simp [Addr.add]] at cx
      have d : decide ((k : Int) > 0) = true := decide_eq_true (by omega)
      have HA := Lib.hid (hA h0)
      have HX := Lib.hid hx
      have HZ := Lib.hid hz
      have HS2 := Lib.hid S
      clear hA hx hz ex
      by_cases h48 : x = 48
      · subst h48
        have hs := slice_1 (some ad) k (c - j) (by omega) w
        have d2 : ((48 : Int) == 48) = true := rfl
        clear S
        go_wp2_with fail
        go_round
        case rel =>
          have S1 := HS2.out.from (i := 1) (by omega)
          rw [List.drop_drop, show c - j - 1 = c - (j + 1) from by omega] at S1
          refine ⟨j + 1, k - 1, Adr (some ad) (c - j) 1, by omega, by rw [show c - j - 1 = c - (j + 1) from by omega], S1, fun h => ?_, fun i hi => ?_⟩
          · have hc := HS2.out.len
            have e := HA.out
            unfold Adr
            rw [if_neg (by omega), e, Option.map_map]
            congr 1
            funext a
            exact add_add a j 1
          · rcases Nat.eq_or_lt_of_le (Nat.le_of_lt_succ hi) with e | e
            · rw [e]; exact HX.out
            · exact HZ.out i e
        case measure => simp [lenOf]; omega
      · have d2 : ((x.toNat : Int) == 48) = false := by
          rw [beq_eq_false_iff_ne]
          intro e
          exact h48 (UInt8.toNat_inj.1 (by show x.toNat = 48; omega))
        have d4 : ((k : Int) == 0) = false := by rw [beq_eq_false_iff_ne]; omega
        clear S
        go_wp2_with fail
        go_ret
        refine ⟨rfl, .inr ⟨j, by omega, by rw [← HA.out, show n - j = k from by omega]; rfl, M.lz_drop l j (by omega) HZ.out (fun _ => by rw [HX.out]; exact h48)⟩⟩

set_option maxHeartbeats 1000000 in
set_option maxRecDepth 100000 in
theorem trimLeft_any (w : World) (A : Option Addr) (n c : Nat) (l : List UInt8) (h : Sb w A n c l) (hn : n ≤ 1000000000) :
    Calls Tryz.prog 100 #[.slice A n c, .string ⟨#[48]⟩] w (Tl A n c l w) := by
  have HC := Lib.hid (trimLeftByte_any w A n c l h hn)
  have hl := h.num
  rcases Nat.eq_zero_or_pos n with h0 | h0
  · subst h0
    obtain rfl : l = [] := List.eq_nil_of_length_eq_zero hl
    clear h hl
    go_enter Tryz.func100, Tryz.ntmps100
    go_wp2_with fail
    go_ret
    exact ⟨rfl, .inl ⟨rfl, rfl⟩⟩
  · have d : ((n : Int) == 0) = false := by rw [beq_eq_false_iff_ne]; omega
    clear h hl
    go_enter Tryz.func100, Tryz.ntmps100
    go_wp2_with fail
    refine HC.out.mono ?_
    rintro e w' ⟨rfl, h1 | ⟨j, h1, rfl, h2⟩⟩
    · obtain ⟨rfl, h2⟩ := h1
      go_wp2_with fail
      go_ret
      exact ⟨rfl, .inl ⟨rfl, h2⟩⟩
    · obtain ⟨X, hX⟩ : ∃ X, A.map (·.add j) = X := ⟨_, rfl⟩
      rw [hX]
      have HX := Lib.hid hX
      have H2 := Lib.hid h2
      clear hX h2
      go_wp2_with fail
      go_ret
      exact ⟨rfl, .inr ⟨j, h1, by rw [HX.out]; rfl, H2.out⟩⟩

/-- What TrimRight of noughts comes to. -/
def Tr (A : Option Addr) (n c : Nat) (l : List UInt8) (w : World) (e : Ending) (w' : World) : Prop :=
  w = w' ∧ ∃ k, k ≤ n ∧ e = .returned (.slice A k c) ∧ M.tz l = l.take k
set_option maxHeartbeats 1000000 in
set_option maxRecDepth 100000 in
theorem trimRightByte_any (w : World) (A : Option Addr) (n c : Nat) (l : List UInt8) (h : Sb w A n c l) (hn : n ≤ 1000000000) :
    Calls Tryz.prog 124 #[.slice A n c, .int .u8 48] w (Tr A n c l w) := by
  have hl := h.num
  have hc := h.len
  have HS := Lib.hid h
  clear h
  go_enter Tryz.func124, Tryz.ntmps124
  go_wp2_with fail
  go_loop [0] (fun s => ∃ k : Nat, k ≤ n ∧ s = .slice A k c ∧ ∀ i, k ≤ i → i < n → l.getD i 0 = 48) (fun s => lenOf s)
  case atStart => exact ⟨n, Nat.le_refl _, rfl, fun i _ _ => by omega⟩
  case round =>
    obtain ⟨k, hk, rfl, hz⟩ := hrel
    have HZ := Lib.hid hz
    clear hz
    by_cases hlt : 0 < k
    · obtain ⟨j, rfl⟩ : ∃ j, k = j + 1 := ⟨k - 1, by omega⟩
      obtain ⟨ad, rfl⟩ := HS.out.ad (by omega)
      obtain ⟨x, hx⟩ : ∃ x, l.getD j 0 = x := ⟨_, rfl⟩
      have cx := HS.out.at_ ad rfl j (by omega)
      rw [hx] at cx
      have d : decide (((j + 1 : Nat) : Int) > 0) = true := decide_eq_true (by omega)
      have q : ((j + 1 : Nat) : Int) - 1 = (j : Int) := by omega
      have HX := Lib.hid hx
      clear hx
      by_cases h48 : x = 48
      · subst h48
        have hs := slice_j (some ad) (j + 1) c j (by omega) (fun e => by cases e) w
        have d2 : ((48 : Int) == 48) = true := rfl
        go_wp2_with fail
        go_round
        case rel =>
          refine ⟨j, by omega, rfl, fun i h1 h2 => ?_⟩
          rcases Nat.eq_or_lt_of_le h1 with e | e
          · rw [← e]; exact HX.out
          · exact HZ.out i e h2
        case measure => simp [lenOf]
      · have d2 : ((x.toNat : Int) == 48) = false := by
          rw [beq_eq_false_iff_ne]
          intro e
          exact h48 (UInt8.toNat_inj.1 (by show x.toNat = 48; omega))
        go_wp2_with fail
        go_ret
        exact ⟨rfl, j + 1, hk, rfl, M.tz_take l (j + 1) (by omega) (fun i h1 h2 => HZ.out i h1 (by omega)) (fun _ => by show l.getD j 0 ≠ 48; rw [HX.out]; exact h48)⟩
    · obtain rfl : k = 0 := by omega
      go_wp2_with fail
      go_ret
      exact ⟨rfl, 0, hk, rfl, M.tz_take l 0 (by omega) (fun i h1 h2 => HZ.out i h1 (by omega)) (fun h => by omega)⟩
set_option maxHeartbeats 1000000 in
set_option maxRecDepth 100000 in
theorem trimRight_any (w : World) (A : Option Addr) (n c : Nat) (l : List UInt8) (h : Sb w A n c l) (hn : n ≤ 1000000000) :
    Calls Tryz.prog 101 #[.slice A n c, .string ⟨#[48]⟩] w (Tr A n c l w) := by
  have HC := Lib.hid (trimRightByte_any w A n c l h hn)
  have hl := h.num
  rcases Nat.eq_zero_or_pos n with h0 | h0
  · subst h0
    obtain rfl : l = [] := List.eq_nil_of_length_eq_zero hl
    clear h hl
    go_enter Tryz.func101, Tryz.ntmps101
    go_wp2_with fail
    go_ret
    exact ⟨rfl, 0, Nat.le_refl _, rfl, rfl⟩
  · have d : ((n : Int) == 0) = false := by rw [beq_eq_false_iff_ne]; omega
    clear h hl
    go_enter Tryz.func101, Tryz.ntmps101
    go_wp2_with fail
    refine HC.out.mono ?_
    rintro e w' ⟨rfl, k, h1, rfl, h2⟩
    have H2 := Lib.hid h2
    clear h2
    go_wp2_with fail
    go_ret
    exact ⟨rfl, k, h1, rfl, H2.out⟩

/-- A slice of bytes of the call's own, by its bytes. -/
def Rb (w : World) (base : Nat) (v : Value) (bs : List UInt8) : Prop := By w base v bs
theorem Rb.form {w : World} {base : Nat} {v : Value} {bs : List UInt8} (h : Rb w base v bs) : (v = .slice none 0 0 ∧ bs = []) ∨ ∃ g c, v = .slice (some ⟨g, 0, none⟩) bs.length c ∧ base ≤ g ∧ Sb w (some ⟨g, 0, none⟩) bs.length c bs ∧ (∀ j, j < c → (w.cell? ⟨g, j, none⟩).isSome = true ∧ w.frozen? ⟨g, j, none⟩ = false) ∧ c ≤ maxLen := by
  have hb := h
  rcases h.2 with ⟨e, h1⟩ | ⟨g, cap, cur, e, h1, h2, h3, h4, h5, h6⟩
  · exact .inl ⟨e, List.eq_nil_of_length_eq_zero h1⟩
  · right
    refine ⟨g, cap, e, h1, ⟨rfl, h3, (fun e => by cases e), fun ad hA j hj => ?_⟩, fun j hj => ?_, h4⟩
    · cases hA
      have hc := World.ownsRow.cells hb (g := g) (by rw [e]; rfl)
      have := hc j (u8 (bs.getD j 0)) (by simp [Lib.byteCells, List.getD_eq_getElem?_getD, List.getElem?_eq_getElem hj])
      exact this
    · have hj' : j < cur.size := by omega
      constructor
      · simp [World.cell?, h2, hj']
      · simp [World.frozen?, h2]
set_option maxHeartbeats 1000000 in
set_option maxRecDepth 100000 in
theorem grow_any (w : World) (n : Nat) (hn : n ≤ 1000000000) :
    Calls Tryz.prog 119 #[.slice none 0 0, .int .i64 (n : Int)] w (fun e w' => ∃ v, e = .returned v ∧ Rb w' w.heap.size v [] ∧ Up w w') := by
  have d : decide ((n : Int) < 0) = false := decide_eq_false (by omega)
  rcases Nat.eq_zero_or_pos n with h0 | h0
  · subst h0
    go_enter Tryz.func119, Tryz.ntmps119
    go_wp2_with fail
    go_ret
    exact ⟨_, rfl, ⟨rfl, .inl ⟨rfl, rfl⟩⟩, Up.refl _⟩
  · obtain ⟨i0, hi, hz0, hz1, hz2⟩ := info_parts info_u8
    have happ := Lib.run_append_nil_zeros (P := Tryz.prog) w 67 3 67 5 i0 (.int .u8 0) .i64 .i64 Tryz.underlying67 Tryz.underlying3 hi hz0 n h0 (by rw [hz1]; omega) (by omega) (by rw [hz2]; omega)
    generalize hcap : grownCap w n 0 5 = cap2 at happ
    have hcapge : n ≤ cap2 := by rw [← hcap]; exact grownCap_ge w _ 0 5
    have hcaple : cap2 ≤ maxLen := by rw [← hcap]; exact grownCap_le_maxLen w _ 0 5 (by unfold maxLen; omega)
    generalize hZ : (Builtin.zeroCells (Value.int .u8 0).cells n ++ Builtin.zeroCells (Value.int .u8 0).cells (cap2 - n)) = Z at happ
    have hZs : Z.size = cap2 := by rw [← hZ]; simp [size_zeroCells, Value.cells]; omega
    have d2 : decide ((n : Int) > 0) = true := decide_eq_true (by omega)
    have hs : ∀ W, (Instr.slice 67 (.slice none 0 0) none (some (.int .i64 0)) none).run Tryz.prog W = .ok (.slice none 0 0) W := fun W => slice_j none 0 0 0 (Nat.le_refl _) (fun _ => rfl) W
    have hs2 : ∀ W, (Instr.slice 67 (.slice (some ⟨w.heap.size, 0, none⟩) n cap2) none (some (.int .i64 0)) none).run Tryz.prog W = .ok (.slice (some ⟨w.heap.size, 0, none⟩) 0 cap2) W := fun W => slice_j _ n cap2 0 (Nat.zero_le _) (fun e => by cases e) W
    have HZ := Lib.hid hZs
    have HL := Lib.hid hcaple
    clear hcap hZ hZs hcaple hi hz0 hz1 hz2
    go_enter Tryz.func119, Tryz.ntmps119
    go_wp2_with (at_builtin; refine Lib.wpList_append_run _ rfl _ _ _ _ rfl _ _ rfl rfl _ _ happ ?_)
    go_ret
    refine ⟨_, rfl, ⟨rfl, .inr ⟨w.heap.size, cap2, Z, rfl, Nat.le_refl _, ?_, Nat.zero_le _, HL.out, ?_, rfl⟩⟩, ?_⟩
    · exact Array.getElem?_push_size
    · rw [HZ.out, Nat.mul_one]
    · first | exact ((Up.refl w).drew).alloc _ | exact ((Up.refl w).alloc _).drew

/-- Bytes are appended, wherever they lie. -/
theorem wpList_append_sb {P : Program} (w : World) {ops : Array Oper} {rest : List Oper} {o : Oper} {a : Act} {Q : Exit → Act → World → Prop} (hgd : o.guard = none) (sl x : Operand) (t : TypeId)
    (ho : o.op = .call { callee := .builtin .append, args := #[sl, x], argTypes := #[t, t] })
    (hP : (P.info? 5).map (fun i => (i.zero, i.size, i.bytes)) = some (some (.int .u8 0), 1, 1)) (base : Nat) (ht : P.underlying t = some (.slice 5))
    (v : Value) (bs : List UInt8) (hs : a.eval sl = v) (hown : Rb w base v bs) (A : Option Addr) (m c : Nat) (cs : List UInt8) (hx : a.eval x = .slice A m c) (hS : Sb w A m c cs) (hn : bs.length + m ≤ 1000000000000) (hbase : base ≤ w.heap.size)
    (h : ∀ v' w', Rb w' base v' (bs ++ cs) → w.grownBy w' v.ownBlock → wpList P ops Q rest (a.put o.dst v') w') : wpList P ops Q (o :: rest) a w := by
  obtain ⟨i, hi, hz0, hz1, hz2⟩ := info_parts hP
  have hm := hS.num
  cases A with
  | none =>
    have hc0 := hS.none_ rfl
    have hlen := hS.len
    have hm0 : m = 0 := by omega
    subst hm0
    obtain rfl : cs = [] := List.eq_nil_of_length_eq_zero hm
    refine wpList_plain hgd fun K hK => ?_
    have hr := append_of_none (P := P) w base t o.type _ i 1 ht hi v bs.length _ hown c
    unfold Oper.wp execOp
    simp only [ho, resolve, invoke, builtin, Sem.run_bind, Sem.run_pure, Result.andThen_ok, List.map_toArray, List.map_cons, List.map_nil, hs, hx, hr]
    exact hK _ _ (h v w (by rw [List.append_nil]; exact hown) (World.grownBy.refl w _))
  | some ad =>
    have hy : ∀ j u, (Lib.byteCells cs)[j]? = some u → w.cell? (ad.add j) = some u := by
      intro j u hu
      have hj : j < m := by
        have := (List.getElem?_eq_some_iff.1 hu).1
        rw [Lib.byteCells_length] at this; omega
      rw [hS.at_ ad rfl j hj, ← hu]
      simp [Lib.byteCells, List.getD_eq_getElem?_getD, List.getElem?_eq_getElem (show j < cs.length by omega)]
    refine wpList_plain hgd fun K hK => ?_
    obtain ⟨v', w', hr, h2, h3, _, _⟩ := run_append_own_at (P := P) w base t o.type 5 i _ 1 1 ht hi hz0 hz1 hz2 rfl (by omega) v bs.length _ hown ad m c (Lib.byteCells cs) (by rw [Lib.byteCells_length]; omega) hy (Lib.byteCells_one _)
      (by simp only [maxLen]; omega) (by omega) hbase
    unfold Oper.wp execOp
    simp only [ho, resolve, invoke, builtin, Sem.run_bind, Sem.run_pure, Result.andThen_ok, List.map_toArray, List.map_cons, List.map_nil, hs, hx, hr]
    refine hK _ _ (h v' w' ?_ h3)
    rw [Rb, By, List.length_append, Lib.byteCells_append, hm]
    exact h2
theorem Rb.up {w w' : World} {base : Nat} {v : Value} {bs : List UInt8} (h : Rb w base v bs) (hu : Up w w') : Rb w' base v bs := By.up h hu
set_option maxHeartbeats 4000000 in
set_option maxRecDepth 100000 in
theorem concat_any (w : World) (g n c n' c' : Nat) (A A' : Option Addr) (l l' : List UInt8) (h0 : w.cell? ⟨g, 0, none⟩ = some (.slice A n c)) (h1 : w.cell? ⟨g, 1, none⟩ = some (.slice A' n' c')) (hS : Sb w A n c l) (hS' : Sb w A' n' c' l') (hn : n + n' ≤ 1000000000) :
    Calls Tryz.prog 99 #[.slice (some ⟨g, 0, none⟩) 2 2] w (fun e w' => ∃ v, e = .returned v ∧ Rb w' w.heap.size v (l ++ l') ∧ Up w w') := by
  have d1 : decide ((n : Int) < 0) = false := decide_eq_false (by omega)
  have d2 : decide ((n : Int) + (n' : Int) < 0) = false := decide_eq_false (by omega)
  have hlt := World.block_lt_of_cell? w _ h0
  have hl := hS.num
  have hl' := hS'.num
  obtain ⟨T, hT⟩ : ∃ T, n + n' = T := ⟨_, rfl⟩
  have q : (n : Int) + (n' : Int) = (T : Int) := by omega
  have CG := Lib.hid (grow_any w T (by omega))
  have HS := Lib.hid hS
  have HS' := Lib.hid hS'
  clear hS hS'
  go_enter Tryz.func99, Tryz.ntmps99
  go_wp2_with fail
  refine wp_loop_rounds 3 ?_
  rw [rounds_succ]; go_wp2_with fail
  rw [rounds_succ]; go_wp2_with fail
  rw [rounds_succ]; go_wp2_with fail
  refine CG.out.mono ?_
  rintro _ w1 ⟨v1, rfl, R1, U1⟩
  have c0 := (Below.cell (p := ⟨g, 0, none⟩) U1 hlt).trans h0
  have c1 := (Below.cell (p := ⟨g, 1, none⟩) U1 hlt).trans h1
  have HR1 := Lib.hid R1
  clear CG R1 d1 d2 h0
  go_wp2_with fail
  refine wp_loop_rounds 3 ?_
  rw [rounds_succ]
  go_wp2_with (at_builtin; refine wpList_append_sb _ rfl _ _ 67 rfl info_u8 w.heap.size Tryz.underlying67 _ _ rfl HR1.out A n c l rfl (HS.out.up U1) (by simp; omega) (Up.size U1) ?_; intro v2 w2 R2 G2)
  have U2 : Up w w2 := Up.grown U1 G2 (fun b hb => (HR1.out.lt b hb).1)
  have c1 := (Below.cell (p := ⟨g, 1, none⟩) U2 hlt).trans h1
  have HR2 := Lib.hid R2
  have hl2 : ([] ++ l : List UInt8).length = n := hl
  clear HR1 G2 U1 R2 c0
  rw [rounds_succ]
  go_wp2_with (at_builtin; refine wpList_append_sb _ rfl _ _ 67 rfl info_u8 w.heap.size Tryz.underlying67 _ _ rfl HR2.out A' n' c' l' rfl (HS'.out.up U2) (by rw [hl2]; omega) (Up.size U2) ?_; intro v3 w3 R3 G3)
  have U3 : Up w w3 := Up.grown U2 G3 (fun b hb => (HR2.out.lt b hb).1)
  have HR3 := Lib.hid R3
  clear HR2 G3 U2 R3 c1
  rw [rounds_succ]
  go_wp2_with fail
  go_ret
  exact ⟨_, rfl, HR3.out, U3⟩

/-- What lies there may be written, up to the capacity; it lies at lo or above. -/
def Own (w : World) (lo : Nat) (A : Option Addr) (c : Nat) : Prop := ∀ ad, A = some ad → ∃ g o, ad = ⟨g, o, none⟩ ∧ lo ≤ g ∧ ∀ j, j < c → (w.cell? ⟨g, o + j, none⟩).isSome = true ∧ w.frozen? ⟨g, o + j, none⟩ = false
theorem Own.nil (w : World) (lo c : Nat) : Own w lo none c := fun _ e => by cases e
theorem Own.up {w w' : World} {lo c : Nat} {A : Option Addr} (h : Own w lo A c) (hu : Up w w') : Own w' lo A c := by
  intro ad e
  obtain ⟨g, o, e1, e2, e3⟩ := h ad e
  refine ⟨g, o, e1, e2, fun j hj => ?_⟩
  obtain ⟨k1, k2⟩ := e3 j hj
  obtain ⟨v, hv⟩ := Option.isSome_iff_exists.1 k1
  exact ⟨by rw [Below.cell hu (World.block_lt_of_cell? w _ hv)]; exact k1, (Below.frozen (p := ⟨g, o + j, none⟩) hu (World.block_lt_of_cell? w _ hv)).trans k2⟩
/-- A slice of bytes that is the call's own. -/
def Sl (lo : Nat) (l : List UInt8) (w : World) (v : Value) : Prop := ∃ A n c, v = .slice A n c ∧ Sb w A n c l ∧ Own w lo A c ∧ c ≤ maxLen
theorem Rb.sl {w : World} {lo : Nat} {v : Value} {bs : List UInt8} (h : Rb w lo v bs) : Sl lo bs w v := by
  rcases h.form with ⟨rfl, rfl⟩ | ⟨g, c, rfl, h1, h2, h3, h4⟩
  · exact ⟨none, 0, 0, rfl, Sb.nil0 w, Own.nil _ _ _, Nat.zero_le _⟩
  · refine ⟨_, _, c, rfl, h2, fun ad e => ?_, h4⟩
    cases e
    exact ⟨g, 0, rfl, h1, fun j hj => by rw [Nat.zero_add]; exact h3 j hj⟩
theorem trimLeft_sl (w : World) (lo : Nat) (A : Option Addr) (n c : Nat) (l : List UInt8) (h : Sb w A n c l) (ho : Own w lo A c) (hc : c ≤ maxLen) (hn : n ≤ 1000000000) (d : List UInt8) (hd : Hid (M.lz l = d)) :
    Calls Tryz.prog 100 #[.slice A n c, .string ⟨#[48]⟩] w (fun e w' => w = w' ∧ ∃ v, e = .returned v ∧ Sl lo d w v) := by
  refine (trimLeft_any w A n c l h hn).mono ?_
  have hd2 := hd.out; subst hd2
  rintro e w' ⟨rfl, ⟨rfl, h2⟩ | ⟨j, hj, rfl, h2⟩⟩
  · exact ⟨rfl, _, rfl, none, 0, 0, rfl, by rw [h2]; exact Sb.nil0 w, Own.nil _ _ _, Nat.zero_le _⟩
  · have hlen := h.len
    have S := h.from (i := j) (by omega)
    have ea : Adr A c j = A.map (·.add j) := by unfold Adr; rw [if_neg (by omega)]
    rw [ea] at S
    refine ⟨rfl, _, rfl, A.map (·.add j), n - j, c - j, rfl, by rw [h2]; exact S, fun ad e => ?_, by omega⟩
    cases hA : A with
    | none => rw [hA] at e; cases e
    | some a =>
      obtain ⟨g, o, e1, e2, e3⟩ := ho a hA
      rw [hA] at e
      simp only [Option.map_some, Option.some.injEq] at e
      refine ⟨g, o + j, ?_, e2, fun k hk => by rw [Nat.add_assoc]; exact e3 (j + k) (by omega)⟩
      rw [← e, e1]
      unfold Addr.add
      by_cases h0 : j = 0
      · simp [h0]
      · simp [h0]
theorem trimRight_sl (w : World) (lo : Nat) (A : Option Addr) (n c : Nat) (l : List UInt8) (h : Sb w A n c l) (ho : Own w lo A c) (hc : c ≤ maxLen) (hn : n ≤ 1000000000) (d : List UInt8) (hd : Hid (M.tz l = d)) :
    Calls Tryz.prog 101 #[.slice A n c, .string ⟨#[48]⟩] w (fun e w' => w = w' ∧ ∃ v, e = .returned v ∧ Sl lo d w v) := by
  refine (trimRight_any w A n c l h hn).mono ?_
  have hd2 := hd.out; subst hd2
  rintro e w' ⟨rfl, k, hk, rfl, h2⟩
  exact ⟨rfl, _, rfl, A, k, c, rfl, by rw [h2]; exact h.take hk, ho, hc⟩
end Go.Proofs.YtjmnobgllnaljaaGreatDoor
