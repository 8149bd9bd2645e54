/-
  The reference of layer 5: Split.
-/
import Derived.Test.YtjcbncfpcechnaaDoorPr
namespace Go.Proofs.YtjcbncfpcechnaaDoor
open Go.RowKit

namespace M
theorem vl_rep0 : ∀ n, vl (List.replicate n 0) = 0
  | 0 => rfl
  | n + 1 => by rw [List.replicate_succ', vl_snoc, vl_rep0 n]
theorem vl_rep1 : ∀ n, vl (List.replicate n 1) + 1 = 2 ^ n
  | 0 => rfl
  | n + 1 => by rw [List.replicate_succ', vl_snoc, p2s, ← vl_rep1 n]; omega
theorem bl_of {n k : Nat} {l : List Nat} (h : ∀ b ∈ l, b < 2) (hn : l.length = n) (hk : vl l = k) : bl n k = l := by
  subst hn hk
  exact bl_vl h
/-- The bits of a magnitude: a run, the bit that ends it, and what is behind. -/
theorem Ps.bits {n k r q : Nat} {R : Int} (h : Ps n k R r q) :
    (∃ b g, b < 2 ∧ 1 ≤ g ∧ g + 1 + r = n ∧ bl n k = List.replicate g b ++ ([1 - b] ++ bl r q) ∧ ((b = 0 ∧ R = -(g : Int)) ∨ (b = 1 ∧ R = (g : Int) - 1))) ∨ (bl n k = List.replicate n 1 ∧ 2 ≤ n ∧ r = 0 ∧ q = 0 ∧ R = (n : Int) - 1) := by
  obtain ⟨hq, h | h | h⟩ := h
  · obtain ⟨rfl, h1, rfl⟩ := h
    refine .inl ⟨0, n - 1 - r, by decide, by omega, by omega, ?_, .inl ⟨rfl, by omega⟩⟩
    refine bl_of (fun b hb => ?_) (by simp [bl_len]; omega) ?_
    · simp only [List.mem_append, List.mem_replicate, List.mem_singleton] at hb
      rcases hb with ⟨_, rfl⟩ | rfl | hb
      · decide
      · decide
      · exact bl_two _ _ b hb
    · rw [vl_app, vl_rep0, vl_app, vl_bl, bl_len, Nat.mod_eq_of_lt hq]
      simp [vl]
  · obtain ⟨h0, h1, rfl⟩ := h
    refine .inl ⟨1, n - 1 - r, by decide, by omega, by omega, ?_, .inr ⟨rfl, by omega⟩⟩
    refine bl_of (fun b hb => ?_) (by simp [bl_len]; omega) ?_
    · simp only [List.mem_append, List.mem_replicate, List.mem_singleton] at hb
      rcases hb with ⟨_, rfl⟩ | rfl | hb
      · decide
      · decide
      · exact bl_two _ _ b hb
    · rw [vl_app, vl_app, vl_bl, bl_len, Nat.mod_eq_of_lt hq]
      have e := vl_rep1 (n - 1 - r)
      have e2 : 2 ^ n = 2 ^ (n - 1 - r) * 2 ^ (r + 1) := by rw [← Nat.pow_add, show n - 1 - r + (r + 1) = n by omega]
      have e3 : ([1 - 1] ++ bl r q).length = r + 1 := by rw [List.length_append, bl_len]; simp; omega
      rw [e3]
      rw [← e, Nat.add_mul, Nat.one_mul] at e2
      simp [vl] at e2 ⊢
      omega
  · obtain ⟨h0, rfl, h1, rfl⟩ := h
    have h2 : q = 0 := by simpa using hq
    refine .inr ⟨bl_of (fun b hb => ?_) (by simp) ?_, h1, rfl, h2, rfl⟩
    · rw [List.mem_replicate] at hb
      omega
    · have := vl_rep1 n
      omega
theorem vl_ex {r q : Nat} (h : q < 2 ^ r) : vl ((bl r q ++ [0, 0]).take 2) = ex r q := by
  rcases (show r = 0 ∨ r = 1 ∨ 2 ≤ r by omega) with rfl | rfl | h2
  · obtain rfl : q = 0 := by simpa using h
    decide
  · have : q < 2 := by simpa using h
    rcases (show q = 0 ∨ q = 1 by omega) with rfl | rfl <;> decide
  · obtain ⟨b, rfl⟩ : ∃ b, r = b + 2 := ⟨r - 2, by omega⟩
    have e := bl_app b 2 q
    rw [Nat.add_comm 2 b] at e
    rw [e, List.append_assoc, List.take_append_of_le_length (by rw [bl_len]; omega), List.take_of_length_le (by rw [bl_len]; omega), vl_bl]
    unfold ex
    rw [if_pos h2, Nat.add_sub_cancel]
    apply Nat.mod_eq_of_lt
    rw [Nat.div_lt_iff_lt_mul (p2 b)]
    rw [p2s, p2s] at h
    omega
theorem vl_fr {r q : Nat} (h : 2 ≤ r) : vl ((bl r q).drop 2) = fr r q := by
  obtain ⟨b, rfl⟩ : ∃ b, r = b + 2 := ⟨r - 2, by omega⟩
  have e := bl_app b 2 q
  rw [Nat.add_comm 2 b] at e
  rw [e, List.drop_append_of_le_length (by rw [bl_len]; omega), List.drop_of_length_le (by rw [bl_len]; omega), List.nil_append, vl_bl]
  rfl
end M
theorem St.ext {s : ByteArray} {l : List Nat} (h : St s l) (i j : Nat) (hj : j ≤ s.size) : St (s.extract i j) ((l.drop i).take (j - i)) := by
  have hs := h.size
  have hz : (s.extract i j).size = j - i := by rw [ByteArray.size_extract]; omega
  refine ⟨by rw [hz, List.length_take, List.length_drop]; omega, fun k hk => ?_, fun x hx => h.two x (List.mem_of_mem_drop (List.mem_of_mem_take hx))⟩
  rw [ByteArray.getElem_extract, h.at_ (i + k) (by omega), List.getD_eq_getElem?_getD, List.getD_eq_getElem?_getD, List.getElem?_take_of_lt (by omega), List.getElem?_drop]
theorem St.noughts : St ⟨#[48, 48]⟩ [0, 0] := by
  refine ⟨rfl, fun i hi => ?_, fun x hx => by simp at hx; omega⟩
  have h2 : (⟨#[48, 48]⟩ : ByteArray).size = 2 := rfl
  rcases (show i = 0 ∨ i = 1 by omega) with rfl | rfl <;> rfl
section
variable {w w' : World} {b : Nat} {ty : TypeId} {cs : Array Value}
/-- A variable's whole block, which may be written. -/
def Ob (w : World) (b : Nat) (ty : TypeId) (cs : Array Value) : Prop := w.heap[b]? = some (.cells cs ty (0, 0))
theorem Ob.mk_ (w : World) (ty : TypeId) (cs : Array Value) : Ob (w.alloc (.cells cs ty)) w.heap.size ty cs := by
  show (w.heap.push _)[w.heap.size]? = _
  exact Array.getElem?_push_size
theorem Ob.lt (h : Ob w b ty cs) : b < w.heap.size := (Array.getElem?_eq_some_iff.1 h).1
theorem Ob.up (h : Ob w b ty cs) (hu : Up w w') : Ob w' b ty cs := (Below.block hu b h.lt).trans h
theorem Ob.get (h : Ob w b ty cs) (i : Nat) : w.cell? ⟨b, i, none⟩ = cs[i]? := by
  unfold Ob at h
  simp [World.cell?, h]
theorem Ob.fr (h : Ob w b ty cs) (i : Nat) : w.frozen? ⟨b, i, none⟩ = false := by
  unfold Ob at h
  simp [World.frozen?, h]
theorem Ob.other {b' i : Nat} (h : Ob w b ty cs) (hne : b ≠ b') (v : Value) : Ob (w.setCell ⟨b', i, none⟩ v) b ty cs :=
  (Below.heap_setCell w ⟨b', i, none⟩ v b hne).trans h
theorem Ob.drewN (h : Ob w b ty cs) (k : Nat) : Ob (w.drewN k) b ty cs := h
theorem Ob.put (h : Ob w b ty cs) (i : Nat) (v : Value) : Ob (w.setCell ⟨b, i, none⟩ v) b ty (cs.setIfInBounds i v) := by
  unfold Ob at h ⊢
  rw [setCell_eq_setRow w b i _ ty (0, 0) _ h, setRow_heap w b _ _ ty _ h]
theorem Up.setRow_ (h : Up w w') {b : Nat} (hb : w.heap.size ≤ b) (cs : Array Value) : Up w (w'.setRow b cs) :=
  ⟨h.os, h.tape, h.output, by have := h.size; simpa [World.setRow] using this, fun k hk => (setRow_other w' b k cs (by omega)).trans (h.block k hk)⟩
end
/-- A whole variable is stored. -/
theorem store_ob {P : Program} {ops : Array Oper} {rest : List Oper} {o : Oper} {a : Act} {w : World} {Q : Exit → Act → World → Prop} (hgd : o.guard = none) (ty : TypeId) (x y : Operand) (ho : o.op = .store ty x y)
    (g : Nat) (cs cs' : Array Value) (hx : a.eval x = .pointer (some ⟨g, 0, none⟩)) (hy : a.eval y = .agg cs') (N : Nat) (hi : (P.info? ty).map (·.size) = some N) (hN : cs'.size = N) (hs : cs.size = N) (h1 : cs'.all (·.oneCell') = true)
    (w0 : World) (U : Up w0 w) (hb : w0.heap.size ≤ g) (t : TypeId) (hB : Ob w g t cs)
    (h : ∀ V, Ob V g t cs' → Up w0 V → wpList P ops Q rest (a.put o.dst undef) V) : wpList P ops Q (o :: rest) a w :=
  wpList_store_row hgd ty x y ho g _ hx hy t _ hB (hi.trans (by rw [hN])) (hs.trans hN.symm) h1 (h _ (setRow_heap w g _ _ t _ hB) (U.setRow_ hb _))
/-- Fields as a value. -/
abbrev fdv (R E : Int) (F : Nat) (B : Int) : Value := .agg #[.int .i64 R, .int .i64 E, u64 F, .int .i64 B]
theorem St.get {s : ByteArray} {l : List Nat} (h : St s l) {i b : Nat} (hi : i < s.size) (hb : l.getD i 0 = b) : ((s[i]).toNat : Int) = 48 + (b : Int) := by
  have := h.at_ i hi
  rw [hb] at this
  omega
theorem rep_get {g b r : Nat} {m : List Nat} {i : Nat} (h : i < g) : (List.replicate g b ++ m).getD i r = b := by
  rw [List.getD_eq_getElem?_getD, List.getElem?_append_left (by simpa using h)]
  simp [h]
theorem rep_end {g b r c : Nat} {m : List Nat} : (List.replicate g b ++ ([c] ++ m)).getD g r = c := by
  rw [List.getD_eq_getElem?_getD, List.getElem?_append_right (by simp)]
  simp

set_option maxHeartbeats 4000000 in
set_option maxRecDepth 100000 in
theorem rsplit_run (w : World) (n k r q : Nat) (R : Int) (hn : n ≤ 64) (hP : M.Ps n k R r q) (b g : Nat) (hb : b < 2) (hg : 1 ≤ g) (hgr : g + 1 + r = n) (hbl : M.bl n k = List.replicate g b ++ ([1 - b] ++ M.bl r q)) (hR : (b = 0 ∧ R = -(g : Int)) ∨ (b = 1 ∧ R = (g : Int) - 1)) (E F : Nat) (B : Int) (hE : Hid (M.ex r q = E)) (hF : Hid (M.fr r q = F)) (hB : Hid (((r - 2 : Nat) : Int) = B)) :
    Calls Tryd.prog 50 #[.int .i64 ((n : Int) + 1), u64 k] w (fun e w' => e = .returned (.tuple #[fdv R E F B, .bool true]) ∧ Up w w') := by
  have rg := hP.rng
  have h64 : 2 ^ n ≤ 18446744073709551616 := M.p2le (b := 64) hn
  have hk2 : decide (k < 2 ^ n) = true := decide_eq_true rg.2.1
  have CB := Lib.hid (fun W => rbits_in W n k rg.2.2.1 hn rg.1 (by omega))
  rw [hk2, hbl] at CB
  obtain ⟨c, hc⟩ : ∃ c, 1 - b = c := ⟨_, rfl⟩
  rw [hc] at CB
  have hcb : ((48 + (c : Int)) == 48 + (b : Int)) = false := by rw [beq_eq_false_iff_ne]; omega
  have HQ := Lib.hid hP.1
  have HQ0 : Hid (r = 0 → q = 0) := fun e => by have := hP.1; rw [e] at this; simpa using this
  clear rg h64 hk2 hbl hP
  go_enter Tryd.func50, Tryd.ntmps50
  go_wp2_with fail
  refine (CB.out _).mono ?_
  rintro _ w1 ⟨s, rfl, HS, U1⟩
  have U : Up w w1 := ((Up.refl w).alloc _).trans U1
  have a := (Ob.mk_ w 83 #[.int .i64 0, .int .i64 0, .int .u64 0, .int .i64 0]).up U1
  have hsz : s.size = n := by rw [HS.size]; simp [M.bl_len]; omega
  have hpos : 0 < s.size := by omega
  have h0 := HS.get hpos (rep_get (by omega))
  have HS2 := Lib.hid HS
  have HST : Hid (St (s.extract (g + 1) n) (M.bl r q)) := by
    have h := HS.ext (g + 1) n (by omega)
    have e : ((List.replicate g b ++ ([c] ++ M.bl r q)).drop (g + 1)).take (n - (g + 1)) = M.bl r q := by
      rw [← List.append_assoc, List.drop_append_of_le_length (by simp), List.drop_of_length_le (by simp), List.nil_append, List.take_of_length_le (by rw [M.bl_len]; omega)]
    rw [e] at h
    exact h
  clear HS CB U1
  go_wp2_with fail
  go_loopw [8] (fun jv wr => ∃ j : Nat, j ≤ g ∧ jv = .int .i64 (j : Int) ∧ Up w1 wr) (fun jv _ => g - (intOf jv).toNat)
  case atStart => exact ⟨0, by omega, rfl, Up.refl _⟩
  case round =>
    obtain ⟨j, hj, rfl, U2⟩ := hrel
    have hjs : j < s.size := by omega
    have hjn : j < n := by omega
    rcases (show j < g ∨ j = g by omega) with hlt | rfl
    · have hjb := HS2.out.get hjs (rep_get hlt)
      go_wp2_with fail
      go_quiet (fail)
      go_wp2_with fail
      go_roundw
      case rel => exact ⟨j + 1, hlt, by go_num, by first | exact U2 | exact U2.drewN _⟩
      case measure => simp [intOf]; omega
    · have hjb := HS2.out.get hjs rep_end
      go_wp2_with fail
      go_quiet (fail)
      obtain ⟨wq, hwq⟩ : ∃ wq, wr.drewN nq = wq := ⟨_, rfl⟩
      have Uq : Up w wq := by rw [← hwq]; exact (U.trans U2).drewN _
      replace a := (a.up U2).drewN nq
      rw [hwq] at a ⊢
      clear hwq U U2 hjb hj
      rcases hR with ⟨rfl, rfl⟩ | ⟨rfl, rfl⟩
      · rcases (show r = 0 ∨ (1 ≤ r ∧ r ≤ 2) ∨ 3 ≤ r by omega) with h | h | h
        · obtain rfl : r = 0 := h
          have CE := Lib.hid (fun W => rnum_any W _ _ ((St.nil.app St.noughts).ext 0 2 (by decide)) (by decide) 0 (by show _ = _; decide))
          obtain rfl : E = 0 := by rw [← hE.out, show q = 0 from HQ0.out rfl]; rfl
          obtain rfl : F = 0 := by rw [← hF.out, show q = 0 from HQ0.out rfl]; rfl
          obtain rfl : B = 0 := by rw [← hB.out]; rfl
          go_wp2_with fail
          refine (CE.out _).mono ?_
          rintro _ _ ⟨rfl, rfl⟩
          go_wp2_with (refine store_ob rfl 83 (.tmp 4) (.tmp 71) rfl _ _ #[.int .i64 (-(j : Int)), .int .i64 0, .int .u64 0, .int .i64 (0)] rfl rfl 4 (by kernel_rfl) rfl rfl (by simp [Value.oneCell']) w (Uq.alloc _) (Nat.le_refl _) 83 (a.up ((Up.refl _).alloc _)) ?_; clear Uq; intro V z Uv)
          have z0 := z.get 0
          have z1 := z.get 1
          have z2 := z.get 2
          have z3 := z.get 3
          simp only [List.getElem?_toArray, List.getElem?_cons_zero, List.getElem?_cons_succ] at z0 z1 z2 z3
          refine bodyPost_ret (v := .tuple #[fdv (-(j : Int)) 0 0 (0), .bool true]) (by simp [results, Tryd.results50, go_sem, z0, z1, z2, z3]) rfl ?_
          exact ⟨rfl, Uv⟩
        · have hT := HST.out
          obtain ⟨T, hTT⟩ : ∃ T, s.extract (j + 1) n = T := ⟨_, rfl⟩
          rw [hTT] at hT
          have hTs : T.size = r := by rw [hT.size, M.bl_len]
          have CE := Lib.hid (fun W => rnum_any W _ _ ((hT.app St.noughts).ext 0 2 (by rw [ByteArray.size_append]; exact Nat.le_add_left 2 _)) (by first | (simp; done) | (simp; omega)) (M.ex r q) (by show _ = _; rw [List.drop_zero]; exact M.vl_ex HQ.out))
          obtain rfl : F = 0 := by rw [← hF.out]; unfold M.fr; rw [show r - 2 = 0 by omega]; exact Nat.mod_one q
          obtain rfl : B = 0 := by rw [← hB.out]; omega
          have hr3 : ¬ 2 < r := by omega
          have hE3 : E ≤ 3 := by rw [← hE.out]; exact M.ex_le HQ.out
          rw [hE.out] at CE
          clear hT
          go_wp2_with fail
          refine (CE.out _).mono ?_
          rintro _ _ ⟨rfl, rfl⟩
          go_wp2_with (refine store_ob rfl 83 (.tmp 4) (.tmp 71) rfl _ _ #[.int .i64 (-(j : Int)), .int .i64 (E : Int), .int .u64 0, .int .i64 (0)] rfl rfl 4 (by kernel_rfl) rfl rfl (by simp [Value.oneCell']) w (Uq.alloc _) (Nat.le_refl _) 83 (a.up ((Up.refl _).alloc _)) ?_; clear Uq; intro V z Uv)
          have z0 := z.get 0
          have z1 := z.get 1
          have z2 := z.get 2
          have z3 := z.get 3
          simp only [List.getElem?_toArray, List.getElem?_cons_zero, List.getElem?_cons_succ] at z0 z1 z2 z3
          refine bodyPost_ret (v := .tuple #[fdv (-(j : Int)) (E : Int) 0 (0), .bool true]) (by simp [results, Tryd.results50, go_sem, z0, z1, z2, z3]) rfl ?_
          exact ⟨rfl, Uv⟩
        · have hT := HST.out
          obtain ⟨T, hTT⟩ : ∃ T, s.extract (j + 1) n = T := ⟨_, rfl⟩
          rw [hTT] at hT
          have hTs : T.size = r := by rw [hT.size, M.bl_len]
          have CE := Lib.hid (fun W => rnum_any W _ _ ((hT.app St.noughts).ext 0 2 (by rw [ByteArray.size_append]; exact Nat.le_add_left 2 _)) (by first | (simp; done) | (simp; omega)) (M.ex r q) (by show _ = _; rw [List.drop_zero]; exact M.vl_ex HQ.out))
          have CF := Lib.hid (fun W => rnum_any W _ _ (hT.ext 2 r (by omega)) (by simp [M.bl_len]; omega) (M.fr r q) (by show _ = _; rw [List.take_of_length_le (by simp [M.bl_len])]; exact M.vl_fr (by omega)))
          rw [hF.out] at CF
          obtain rfl : B = (r : Int) - 2 := by rw [← hB.out]; omega
          have hr3 : 2 < r := by omega
          have hE3 : E ≤ 3 := by rw [← hE.out]; exact M.ex_le HQ.out
          rw [hE.out] at CE
          clear hT
          go_wp2_with fail
          refine (CE.out _).mono ?_
          rintro _ _ ⟨rfl, rfl⟩
          go_wp2_with fail
          refine (CF.out _).mono ?_
          rintro _ _ ⟨rfl, rfl⟩
          go_wp2_with (refine store_ob rfl 83 (.tmp 4) (.tmp 71) rfl _ _ #[.int .i64 (-(j : Int)), .int .i64 (E : Int), .int .u64 (F : Int), .int .i64 ((r : Int) - 2)] rfl rfl 4 (by kernel_rfl) rfl rfl (by simp [Value.oneCell']) w (Uq.alloc _) (Nat.le_refl _) 83 (a.up ((Up.refl _).alloc _)) ?_; clear Uq; intro V z Uv)
          have z0 := z.get 0
          have z1 := z.get 1
          have z2 := z.get 2
          have z3 := z.get 3
          simp only [List.getElem?_toArray, List.getElem?_cons_zero, List.getElem?_cons_succ] at z0 z1 z2 z3
          refine bodyPost_ret (v := .tuple #[fdv (-(j : Int)) (E : Int) F ((r : Int) - 2), .bool true]) (by simp [results, Tryd.results50, go_sem, z0, z1, z2, z3]) rfl ?_
          exact ⟨rfl, Uv⟩
      · rcases (show r = 0 ∨ (1 ≤ r ∧ r ≤ 2) ∨ 3 ≤ r by omega) with h | h | h
        · obtain rfl : r = 0 := h
          have CE := Lib.hid (fun W => rnum_any W _ _ ((St.nil.app St.noughts).ext 0 2 (by decide)) (by decide) 0 (by show _ = _; decide))
          obtain rfl : E = 0 := by rw [← hE.out, show q = 0 from HQ0.out rfl]; rfl
          obtain rfl : F = 0 := by rw [← hF.out, show q = 0 from HQ0.out rfl]; rfl
          obtain rfl : B = 0 := by rw [← hB.out]; rfl
          go_wp2_with fail
          refine (CE.out _).mono ?_
          rintro _ _ ⟨rfl, rfl⟩
          go_wp2_with (refine store_ob rfl 83 (.tmp 4) (.tmp 71) rfl _ _ #[.int .i64 ((j : Int) - 1), .int .i64 0, .int .u64 0, .int .i64 (0)] rfl rfl 4 (by kernel_rfl) rfl rfl (by simp [Value.oneCell']) w (Uq.alloc _) (Nat.le_refl _) 83 (a.up ((Up.refl _).alloc _)) ?_; clear Uq; intro V z Uv)
          have z0 := z.get 0
          have z1 := z.get 1
          have z2 := z.get 2
          have z3 := z.get 3
          simp only [List.getElem?_toArray, List.getElem?_cons_zero, List.getElem?_cons_succ] at z0 z1 z2 z3
          refine bodyPost_ret (v := .tuple #[fdv ((j : Int) - 1) 0 0 (0), .bool true]) (by simp [results, Tryd.results50, go_sem, z0, z1, z2, z3]) rfl ?_
          exact ⟨rfl, Uv⟩
        · have hT := HST.out
          obtain ⟨T, hTT⟩ : ∃ T, s.extract (j + 1) n = T := ⟨_, rfl⟩
          rw [hTT] at hT
          have hTs : T.size = r := by rw [hT.size, M.bl_len]
          have CE := Lib.hid (fun W => rnum_any W _ _ ((hT.app St.noughts).ext 0 2 (by rw [ByteArray.size_append]; exact Nat.le_add_left 2 _)) (by first | (simp; done) | (simp; omega)) (M.ex r q) (by show _ = _; rw [List.drop_zero]; exact M.vl_ex HQ.out))
          obtain rfl : F = 0 := by rw [← hF.out]; unfold M.fr; rw [show r - 2 = 0 by omega]; exact Nat.mod_one q
          obtain rfl : B = 0 := by rw [← hB.out]; omega
          have hr3 : ¬ 2 < r := by omega
          have hE3 : E ≤ 3 := by rw [← hE.out]; exact M.ex_le HQ.out
          rw [hE.out] at CE
          clear hT
          go_wp2_with fail
          refine (CE.out _).mono ?_
          rintro _ _ ⟨rfl, rfl⟩
          go_wp2_with (refine store_ob rfl 83 (.tmp 4) (.tmp 71) rfl _ _ #[.int .i64 ((j : Int) - 1), .int .i64 (E : Int), .int .u64 0, .int .i64 (0)] rfl rfl 4 (by kernel_rfl) rfl rfl (by simp [Value.oneCell']) w (Uq.alloc _) (Nat.le_refl _) 83 (a.up ((Up.refl _).alloc _)) ?_; clear Uq; intro V z Uv)
          have z0 := z.get 0
          have z1 := z.get 1
          have z2 := z.get 2
          have z3 := z.get 3
          simp only [List.getElem?_toArray, List.getElem?_cons_zero, List.getElem?_cons_succ] at z0 z1 z2 z3
          refine bodyPost_ret (v := .tuple #[fdv ((j : Int) - 1) (E : Int) 0 (0), .bool true]) (by simp [results, Tryd.results50, go_sem, z0, z1, z2, z3]) rfl ?_
          exact ⟨rfl, Uv⟩
        · have hT := HST.out
          obtain ⟨T, hTT⟩ : ∃ T, s.extract (j + 1) n = T := ⟨_, rfl⟩
          rw [hTT] at hT
          have hTs : T.size = r := by rw [hT.size, M.bl_len]
          have CE := Lib.hid (fun W => rnum_any W _ _ ((hT.app St.noughts).ext 0 2 (by rw [ByteArray.size_append]; exact Nat.le_add_left 2 _)) (by first | (simp; done) | (simp; omega)) (M.ex r q) (by show _ = _; rw [List.drop_zero]; exact M.vl_ex HQ.out))
          have CF := Lib.hid (fun W => rnum_any W _ _ (hT.ext 2 r (by omega)) (by simp [M.bl_len]; omega) (M.fr r q) (by show _ = _; rw [List.take_of_length_le (by simp [M.bl_len])]; exact M.vl_fr (by omega)))
          rw [hF.out] at CF
          obtain rfl : B = (r : Int) - 2 := by rw [← hB.out]; omega
          have hr3 : 2 < r := by omega
          have hE3 : E ≤ 3 := by rw [← hE.out]; exact M.ex_le HQ.out
          rw [hE.out] at CE
          clear hT
          go_wp2_with fail
          refine (CE.out _).mono ?_
          rintro _ _ ⟨rfl, rfl⟩
          go_wp2_with fail
          refine (CF.out _).mono ?_
          rintro _ _ ⟨rfl, rfl⟩
          go_wp2_with (refine store_ob rfl 83 (.tmp 4) (.tmp 71) rfl _ _ #[.int .i64 ((j : Int) - 1), .int .i64 (E : Int), .int .u64 (F : Int), .int .i64 ((r : Int) - 2)] rfl rfl 4 (by kernel_rfl) rfl rfl (by simp [Value.oneCell']) w (Uq.alloc _) (Nat.le_refl _) 83 (a.up ((Up.refl _).alloc _)) ?_; clear Uq; intro V z Uv)
          have z0 := z.get 0
          have z1 := z.get 1
          have z2 := z.get 2
          have z3 := z.get 3
          simp only [List.getElem?_toArray, List.getElem?_cons_zero, List.getElem?_cons_succ] at z0 z1 z2 z3
          refine bodyPost_ret (v := .tuple #[fdv ((j : Int) - 1) (E : Int) F ((r : Int) - 2), .bool true]) (by simp [results, Tryd.results50, go_sem, z0, z1, z2, z3]) rfl ?_
          exact ⟨rfl, Uv⟩
end Go.Proofs.YtjcbncfpcechnaaDoor
