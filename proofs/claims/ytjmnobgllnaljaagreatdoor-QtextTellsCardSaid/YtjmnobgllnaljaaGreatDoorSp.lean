/-
  Package scan: split, that goes by labels: its contract.
-/
import Derived.Test.YtjmnobgllnaljaaGreatDoorSc
namespace Go
/-- As Q; by a goto: what is left from its label on, n gotos at most. -/
def Land (P : Program) (c : Code) (Q : Exit → Act → World → Prop) : Nat → Exit → Act → World → Prop
  | 0 => fun e a w => match e with
    | .goto _ => False
    | e => Q e a w
  | n + 1 => fun e a w => match e with
    | .goto l => ∃ rest, findLabel c l = some rest ∧ rest.wp P (Land P c Q n) a w
    | e => Q e a w
section
variable {P : Program} {a : Act} {w : World} {Q : Exit → Act → World → Prop}
theorem Land.ret {c : Code} : ∀ (n : Nat) {a : Act} {w : World}, Q .ret a w → Land P c Q n .ret a w
  | 0, _, _, h => h
  | _ + 1, _, _, h => h
theorem wp_scope_land {c : Code} (n : Nat) (first : c.wp P (Land P c Q n) a w) : (Code.scope c).wp P Q a w := by
  intro b k cs
  have key : ∀ n rest a w, rest.wp P (Land P c Q n) a w → ∃ e a' w', Q e a' w' ∧ Arrives P (lone (b.at a (.code rest :: .inScope c :: k)) cs w) b k cs e a' w' := by
    intro n
    induction n with
    | zero =>
      intro rest a w h
      obtain ⟨e, a₁, w₁, hq, harr⟩ := h b (.inScope c :: k) cs
      cases e with
      | normal => exact ⟨.normal, a₁, w₁, hq, Steps.trans harr (.one step_inScope)⟩
      | exit id => exact ⟨.exit id, a₁, w₁, hq, fun k' hk => harr k' (by simp [exitTo, hk])⟩
      | goto l' => exact hq.elim
      | ret => exact ⟨_, a₁, w₁, hq, harr⟩
      | panic ch => exact ⟨_, a₁, w₁, hq, harr⟩
      | outgrown => exact ⟨_, a₁, w₁, hq, harr⟩
    | succ n ih =>
      intro rest a w h
      obtain ⟨e, a₁, w₁, hq, harr⟩ := h b (.inScope c :: k) cs
      cases e with
      | normal => exact ⟨.normal, a₁, w₁, hq, Steps.trans harr (.one step_inScope)⟩
      | exit id => exact ⟨.exit id, a₁, w₁, hq, fun k' hk => harr k' (by simp [exitTo, hk])⟩
      | goto l' =>
        obtain ⟨rest', hf, hr⟩ := hq
        have hg : gotoIn l' (.inScope c :: k) = some (.code rest' :: .inScope c :: k) := by simp [gotoIn, hf]
        obtain ⟨e₂, a₂, w₂, hq₂, harr₂⟩ := ih rest' a₁ w₁ hr
        exact ⟨e₂, a₂, w₂, hq₂, .of_steps (harr _ hg) harr₂⟩
      | ret => exact ⟨_, a₁, w₁, hq, harr⟩
      | panic ch => exact ⟨_, a₁, w₁, hq, harr⟩
      | outgrown => exact ⟨_, a₁, w₁, hq, harr⟩
  obtain ⟨e, a₁, w₁, hq, harr⟩ := key n c a w first
  cases e with
  | normal => exact ⟨.normal, a₁, w₁, hq, .head step_scope harr⟩
  | exit id => exact ⟨.exit id, a₁, w₁, hq, fun k' hk => .head step_scope (harr k' hk)⟩
  | goto l' => exact ⟨.goto l', a₁, w₁, hq, .of_steps (.one step_scope) harr⟩
  | ret => exact ⟨_, a₁, w₁, hq, .of_steps (.one step_scope) harr⟩
  | panic ch => exact ⟨_, a₁, w₁, hq, .of_steps (.one step_scope) harr⟩
  | outgrown => exact ⟨_, a₁, w₁, hq, .of_steps (.one step_scope) harr⟩
/-- .. with what a goto leads to as a letter. -/
theorem wp_scope_gen {c : Code} (n : Nat) (h : ∀ L : Nat → Exit → Act → World → Prop, (∀ n a w, Q .ret a w → L n .ret a w) → (∀ n l rest a w, findLabel c l = some rest → rest.wp P (L n) a w → L (n + 1) (.goto l) a w) → c.wp P (L n) a w) : (Code.scope c).wp P Q a w :=
  wp_scope_land n (h (Land P c Q) (fun n _ _ hq => Land.ret n hq) (fun _ _ rest _ _ hf hr => ⟨rest, hf, hr⟩))
end
end Go
namespace Go.Proofs.YtjmnobgllnaljaaGreatDoor
open Go.RowKit Go.Shelf
set_option linter.unusedVariables false

/-- The state while split goes: the closures' variables, the parts so far, the result's variable. -/
structure Sp9 (w0 w : World) (ga gp gb gt gd p r : Nat) (A : Option Addr) (n c i : Nat) (l : List UInt8) (ps : Array Value) : Prop where
  C : Cv9 w0 w ga gp gb gt gd A n c i l
  P : Ob w p 106 ps
  R : Ob w r 106 #[.int .i64 0, .bool false, .slice none 0 0, .slice none 0 0, .bool false, .slice none 0 0]
  lp : w0.heap.size ≤ p
  lr : w0.heap.size ≤ r
  pa : ga ≠ p
  pp : gp ≠ p
  pb : gb ≠ p
  pt : gt ≠ p
  pd : gd ≠ p
  rp : r ≠ p
  ra : r ≠ ga
section
variable {w0 w w' : World} {ga gp gb gt gd p r n c i : Nat} {A : Option Addr} {l : List UInt8} {ps : Array Value}
theorem Sp9.took (h : Sp9 w0 w ga gp gb gt gd p r A n c i l ps) {j : Nat} (k : Kb ga ga w w') (a : Ob w' ga 3 #[.int .i64 (j : Int)]) : Sp9 w0 w' ga gp gb gt gd p r A n c j l ps :=
  ⟨h.C.kb k a, h.P.kb k h.pa.symm h.pa.symm, h.R.kb k h.ra h.ra, h.lp, h.lr, h.pa, h.pp, h.pb, h.pt, h.pd, h.rp, h.ra⟩
theorem Sp9.dig (h : Sp9 w0 w ga gp gb gt gd p r A n c i l ps) {j : Nat} (k : Kb ga ga w w') (C : Cv9 w0 w' ga gp gb gt gd A n c j l) : Sp9 w0 w' ga gp gb gt gd p r A n c j l ps :=
  ⟨C, h.P.kb k h.pa.symm h.pa.symm, h.R.kb k h.ra h.ra, h.lp, h.lr, h.pa, h.pp, h.pb, h.pt, h.pd, h.rp, h.ra⟩
theorem Sp9.put (h : Sp9 w0 w ga gp gb gt gd p r A n c i l ps) (f : Nat) (v : Value) {qs : Array Value} (e : ps.setIfInBounds f v = qs) : Sp9 w0 (w.setCell ⟨p, f, none⟩ v) ga gp gb gt gd p r A n c i l qs := by
  have ho : ∀ b', b' ≠ p → (w.setCell ⟨p, f, none⟩ v).heap[b']? = w.heap[b']? := fun b' hne => Below.heap_setCell _ _ _ b' hne
  subst e
  exact ⟨h.C.oth ho (h.C.up.setCell (p := ⟨p, f, none⟩) h.lp _) h.pa h.pp h.pb h.pt h.pd, h.P.put f v, h.R.oth ho h.rp, h.lp, h.lr, h.pa, h.pp, h.pb, h.pt, h.pd, h.rp, h.ra⟩
theorem Sp9.drew (h : Sp9 w0 w ga gp gb gt gd p r A n c i l ps) (k : Nat) : Sp9 w0 (w.drewN k) ga gp gb gt gd p r A n c i l ps :=
  h.dig (Kb.of_up ((Up.refl _).drewN k)) (h.C.kb (Kb.of_up ((Up.refl _).drewN k)) (h.C.a.drewN k))
end

/-- What split comes to. -/
def Spl (l : List UInt8) (w : World) (e : Ending) (w' : World) : Prop :=
  (∃ i : Nat, M.scan l = .error i ∧ e = .returned (.tuple #[ptv 0 false none 0 0 none 0 0 false none 0 0, .int .i64 (i : Int), .bool false]) ∧ Up w w') ∨
  (∃ x : M.Sc, M.scan l = .ok x ∧ ∃ (A1 A2 A3 : Option Addr) (n1 c1 n2 c2 n3 c3 : Nat) (dn : Bool) (l1 l2 l3 : List UInt8) (K : Int) (ng : Bool),
    e = .returned (.tuple #[ptv K ng A1 n1 c1 A2 n2 c2 dn A3 n3 c3, .int .i64 0, .bool true]) ∧ Up w w' ∧ ng = x.neg ∧ K = ((if 10 ≤ x.st then x.st / 10 + 1 else 1 : Nat) : Int) ∧
    (x.st < 10 → Sb w' A1 n1 c1 l1 ∧ Sb w' A2 n2 c2 l2 ∧ Sb w' A3 n3 c3 l3 ∧ l1 ++ l2 = x.ds ∧ n2 = x.bh ∧ dn = x.dn ∧ l3 = x.pw ∧ M.allD x.ds = true ∧ M.allD x.pw = true))
theorem use_goto {P : Program} {c : Code} {L : Nat → Exit → Act → World → Prop} (hgo : ∀ n l rest a w, findLabel c l = some rest → rest.wp P (L n) a w → L (n + 1) (.goto l) a w) (l : Nat) (rest : Code) (hf : findLabel c l = some rest) (J : Act → World → Prop)
    (hJ : ∀ n a w, J a w → rest.wp P (L n) a w) : ∀ n a w, J a w → L (n + 1) (.goto l) a w := fun n a w h => hgo n l rest a w hf (hJ n a w h)
/-- The parts of what has been read. -/
def Prt (w : World) (x : M.Sc) (ps : Array Value) : Prop := ∃ (A1 A2 A3 : Option Addr) (n1 c1 n2 c2 n3 c3 : Nat) (dn : Bool) (l1 l2 l3 : List UInt8) (K : Int) (ng : Bool),
  ps = #[.int .i64 K, .bool ng, .slice A1 n1 c1, .slice A2 n2 c2, .bool dn, .slice A3 n3 c3] ∧ ng = x.neg ∧ K = ((if 10 ≤ x.st then x.st / 10 + 1 else 1 : Nat) : Int) ∧
  (x.st < 10 → Sb w A1 n1 c1 l1 ∧ Sb w A2 n2 c2 l2 ∧ Sb w A3 n3 c3 l3 ∧ l1 ++ l2 = x.ds ∧ n2 = x.bh ∧ dn = x.dn ∧ l3 = x.pw ∧ M.allD x.ds = true ∧ M.allD x.pw = true)
namespace M
theorem drop_split (l : List UInt8) {i m : Nat} (h : i ≤ m) : l.drop i = (l.drop i).take (m - i) ++ l.drop m := by
  have e : l.drop m = (l.drop i).drop (m - i) := by rw [List.drop_drop, show i + (m - i) = m from by omega]
  rw [e, List.take_append_drop]
theorem dgt.len {l : List UInt8} {i m : Nat} (h : dgt l i m) : ((l.drop i).take (m - i)).length = m - i := by
  rw [List.length_take, List.length_drop]
  have := h.1
  have := h.2.1
  omega
theorem dgt.all {l : List UInt8} {i m : Nat} (h : dgt l i m) : allD ((l.drop i).take (m - i)) = true := by
  unfold allD
  rw [List.all_eq_true]
  intro c hc
  obtain ⟨j, hj, rfl⟩ := List.getElem_of_mem hc
  have hj2 := hj
  rw [h.len] at hj2
  have h2 := h.2.1
  have h1 := h.2.2.1 (i + j) (by omega) (by omega)
  rw [List.getD_eq_getElem?_getD, List.getElem?_eq_getElem (show i + j < l.length by omega), Option.getD_some] at h1
  rw [List.getElem_take, List.getElem_drop]
  exact h1
theorem dgt.ne {l : List UInt8} {i m : Nat} (h : dgt l i m) (hm : m ≠ i) : (l.drop i).take (m - i) ≠ [] := by
  intro e
  have h1 := h.len
  rw [e] at h1
  have h2 := h.1
  simp at h1
  omega
theorem Rdn.whole {l : List UInt8} {i m : Nat} {x : Sc} (h : Rdn l i x) (hm : dgt l i m) (hs : x.st ≤ 2) : Rdn l m ⟨if m = i then x.st else 2, x.neg, x.ds ++ (l.drop i).take (m - i), x.bh, x.dn, x.pw⟩ := by
  refine ⟨hm.2.1, ?_⟩
  by_cases e : m = i
  · subst e
    rw [if_pos rfl, Nat.sub_self, List.take_zero, List.append_nil]
    exact h.eq
  · have k := scf_whole _ (l.drop m) x i hm.all (hm.ne e) hs
    rw [← drop_split l hm.1, hm.len, show i + (m - i) = m from by have := hm.1; omega] at k
    rw [h.eq, if_neg e, k]
theorem Rdn.frac {l : List UInt8} {i m : Nat} {x : Sc} (h : Rdn l i x) (hm : dgt l i m) (hs : 3 ≤ x.st) (hs' : x.st ≤ 5) : Rdn l m ⟨if m = i then x.st else 5, x.neg, x.ds ++ (l.drop i).take (m - i), x.bh + (m - i), x.dn, x.pw⟩ := by
  refine ⟨hm.2.1, ?_⟩
  by_cases e : m = i
  · subst e
    rw [if_pos rfl, Nat.sub_self, List.take_zero, List.append_nil]
    exact h.eq
  · have k := scf_frac _ (l.drop m) x i hm.all (hm.ne e) hs hs'
    rw [← drop_split l hm.1, hm.len, show i + (m - i) = m from by have := hm.1; omega] at k
    rw [h.eq, if_neg e, k]
theorem Rdn.power {l : List UInt8} {i m : Nat} {x : Sc} (h : Rdn l i x) (hm : dgt l i m) (hs : 6 ≤ x.st) (hs' : x.st ≤ 8) : Rdn l m ⟨if m = i then x.st else 8, x.neg, x.ds, x.bh, x.dn, x.pw ++ (l.drop i).take (m - i)⟩ := by
  refine ⟨hm.2.1, ?_⟩
  by_cases e : m = i
  · subst e
    rw [if_pos rfl, Nat.sub_self, List.take_zero, List.append_nil]
    exact h.eq
  · have k := scf_power _ (l.drop m) x i hm.all (hm.ne e) hs hs'
    rw [← drop_split l hm.1, hm.len, show i + (m - i) = m from by have := hm.1; omega] at k
    rw [h.eq, if_neg e, k]
theorem not_dig {c : UInt8} (h : isD c = false) : ¬ (48 ≤ c.toNat ∧ c.toNat ≤ 57) := by
  intro k
  rw [(isD_iff c).2 k] at h
  cases h
/-- No text goes on. -/
theorem nx_dead {s c : Nat} (hd : ¬ (48 ≤ c ∧ c ≤ 57)) (h0 : s < 2 → c ≠ 105 ∧ c ≠ 110 ∧ c ≠ 78 ∧ c ≠ 46 ∧ (s = 0 → c ≠ 45)) (h2 : s = 2 → c ≠ 46 ∧ c ≠ 101 ∧ c ≠ 69) (h3 : s = 3 ∨ s = 5 → c ≠ 101 ∧ c ≠ 69) (h6 : s = 6 → c ≠ 43 ∧ c ≠ 45) (hs : s ≤ 8) : nx s c = 99 := by
  unfold nx
  refine ite_mem (P := fun n => n = 99) (fun h => ?_) (fun _ => ?_)
  · exact ite_mem (P := fun n => n = 99) (fun k => absurd h.2 ((h0 h.1).2.2.2.2 k)) (fun _ => rfl)
  refine ite_mem (P := fun n => n = 99) (fun h => absurd h.2 ((h0 h.1).1)) (fun _ => ?_)
  refine ite_mem (P := fun n => n = 99) (fun h => absurd h.2 ((h0 h.1).2.1)) (fun _ => ?_)
  refine ite_mem (P := fun n => n = 99) (fun h => absurd h.2 ((h0 h.1).2.2.1)) (fun _ => ?_)
  refine ite_mem (P := fun n => n = 99) (fun h => absurd h.2 ((h0 h.1).2.2.2.1)) (fun _ => ?_)
  refine ite_mem (P := fun n => n = 99) (fun h => absurd h.1 hd) (fun _ => ?_)
  refine ite_mem (P := fun n => n = 99) (fun h => absurd h.1 hd) (fun _ => ?_)
  refine ite_mem (P := fun n => n = 99) (fun h => absurd h.1 hd) (fun _ => ?_)
  refine ite_mem (P := fun n => n = 99) (fun h => absurd h.2 (h2 h.1).1) (fun _ => ?_)
  refine ite_mem (P := fun n => n = 99) (fun h => ?_) (fun _ => ?_)
  · exfalso
    have k1 : c ≠ 101 ∧ c ≠ 69 := by
      rcases h.1 with k | k | k
      · exact (h2 k).2
      · exact h3 (.inl k)
      · exact h3 (.inr k)
    rcases h.2 with k | k
    · exact k1.1 k
    · exact k1.2 k
  refine ite_mem (P := fun n => n = 99) (fun h => ?_) (fun _ => ?_)
  · exfalso
    rcases h.2 with k | k
    · exact (h6 h.1).1 k
    · exact (h6 h.1).2 k
  refine ite_mem (P := fun n => n = 99) (fun h => ?_) (fun _ => rfl)
  exfalso
  clear h0 h2 h3 h6 hd
  omega
theorem has_one (k c : UInt8) : [k].contains c = decide (c.toNat = k.toNat) := by
  rw [Bool.eq_iff_iff, decide_eq_true_iff, UInt8.toNat_inj]
  simp
theorem has_two (k k' c : UInt8) : [k, k'].contains c = decide (c.toNat = k.toNat ∨ c.toNat = k'.toNat) := by
  rw [Bool.eq_iff_iff, decide_eq_true_iff, UInt8.toNat_inj, UInt8.toNat_inj]
  simp
/-- Whether the next byte is one of these. -/
theorem has_yes {i n : Nat} {ts : List UInt8} {c : UInt8} (h : (decide (i < n) && ts.contains c) = true) : i < n ∧ ts.contains c = true := by
  rw [Bool.and_eq_true, decide_eq_true_iff] at h
  exact h
theorem has_no {i n : Nat} {ts : List UInt8} {c : UInt8} (h : (decide (i < n) && ts.contains c) = false) (hi : i < n) : ts.contains c = false := by
  rw [decide_eq_true hi, Bool.true_and] at h
  exact h
end M
/-- Behind the digits and the point. -/
def Fr (w wx : World) (ga gp gb gt gd p r : Nat) (A : Option Addr) (n c : Nat) (l : List UInt8) (neg : Bool) (A1 : Option Addr) (n1 c1 : Nat) (l1 : List UInt8) : Prop :=
  ∃ (i2 : Nat) (A2 : Option Addr) (n2 c2 : Nat) (l2 : List UInt8) (s2 : Nat), Sp9 w wx ga gp gb gt gd p r A n c i2 l #[.int .i64 1, .bool neg, .slice A1 n1 c1, .slice A2 n2 c2, .bool false, .slice none 0 0] ∧ n2 ≤ n ∧ Sb w A2 n2 c2 l2 ∧ M.allD l2 = true ∧ M.Rdn l i2 ⟨s2, neg, l1 ++ l2, n2, false, []⟩ ∧
    ((n1 + n2 = 0 ∧ M.wh s2 = false ∧ (i2 < n → M.nx s2 (l.getD i2 0).toNat = 99)) ∨ (0 < n1 + n2 ∧ (s2 = 2 ∨ s2 = 3 ∨ s2 = 5) ∧ (i2 < n → (l.getD i2 0).toNat ≠ 101 → (l.getD i2 0).toNat ≠ 69 → M.nx s2 (l.getD i2 0).toNat = 99)))
/-- Behind the sign of the power. -/
def Sg (w wx : World) (ga gp gb gt gd p r : Nat) (A : Option Addr) (n c : Nat) (l : List UInt8) (neg : Bool) (A1 : Option Addr) (n1 c1 : Nat) (A2 : Option Addr) (n2 c2 : Nat) (ds : List UInt8) (dn : Bool) : Prop :=
  ∃ (i4 : Nat) (s4 : Nat), Sp9 w wx ga gp gb gt gd p r A n c i4 l #[.int .i64 1, .bool neg, .slice A1 n1 c1, .slice A2 n2 c2, .bool dn, .slice none 0 0] ∧ M.Rdn l i4 ⟨s4, neg, ds, n2, dn, []⟩ ∧ ((s4 = 6 ∧ (i4 < n → (l.getD i4 0).toNat ≠ 43 ∧ (l.getD i4 0).toNat ≠ 45)) ∨ s4 = 7)
namespace M
/-- The letters of words. -/
theorem nx_word {s c : Nat} (b : Nat) (h : (s = 10 ∧ c = 110) ∨ (s = 20 ∧ c = 97) ∨ (s = 30 ∧ c = 97) ∨ (s = 11 ∧ c = 102) ∨ (s = 21 ∧ c = 110) ∨ (s = 31 ∧ c = 82)) : nx s b = if b = c then s + 1 else 99 := by
  rcases h with ⟨rfl, rfl⟩ | ⟨rfl, rfl⟩ | ⟨rfl, rfl⟩ | ⟨rfl, rfl⟩ | ⟨rfl, rfl⟩ | ⟨rfl, rfl⟩ <;> simp [nx]
theorem nx_over {s : Nat} (b : Nat) (h : s = 12 ∨ s = 22 ∨ s = 32) : nx s b = 99 := by
  rcases h with rfl | rfl | rfl <;> simp [nx]
end M
set_option maxHeartbeats 16000000 in
set_option maxRecDepth 100000 in
theorem sp_none (w : World) (A : Option Addr) (n c : Nat) (l : List UInt8) (HS : Hid (Sb w A n c l)) (hn : n ≤ 100000000) (L : Nat → Exit → Act → World → Prop) (hret : Hid (∀ n a W, bodyPost Tryz.prog Tryz.f77 (Spl l w) .ret a W → L n .ret a W)) (cc : Code) (hcc : ∃ r0, Tryz.f77.body = some (.seq r0 (.scope cc)))
    (hgo : Hid (∀ n l rest a W, findLabel cc l = some rest → rest.wp Tryz.prog (L n) a W → L (n + 1) (.goto l) a W)) : Hid (∀ (k ga gp gb gt gd p r : Nat) (ps : Array Value) (i : Nat) (u0_ u1_ u3_ u4_ u5_ u7_ u8_ u9_ u10_ u11_ u12_ u13_ u14_ u15_ u16_ u17_ u18_ u19_ u20_ u21_ u22_ u23_ u24_ u25_ u26_ u27_ u28_ u29_ u30_ u31_ u32_ u33_ u34_ u35_ u36_ u37_ u38_ u39_ u40_ u41_ u42_ u43_ u44_ u45_ u46_ u47_ u48_ u49_ u50_ u51_ u52_ u53_ u54_ u55_ u56_ u57_ u58_ u59_ u60_ u61_ u62_ u63_ u64_ u65_ u66_ u67_ u68_ u69_ u70_ u71_ u72_ u73_ u74_ u75_ u76_ u77_ u78_ : Value) (W : World), Sp9 w W ga gp gb gt gd p r A n c i l ps → M.scan l = .error i → L (k + 1) (.goto 3) { tmps := #[u0_, u1_, .pointer (some ⟨r, 0, none⟩), u3_, u4_, u5_, .pointer (some ⟨ga, 0, none⟩), u7_, u8_, u9_, u10_, u11_, u12_, u13_, u14_, u15_, u16_, u17_, u18_, u19_, u20_, u21_, u22_, u23_, u24_, u25_, u26_, u27_, u28_, u29_, u30_, u31_, u32_, u33_, u34_, u35_, u36_, u37_, u38_, u39_, u40_, u41_, u42_, u43_, u44_, u45_, u46_, u47_, u48_, u49_, u50_, u51_, u52_, u53_, u54_, u55_, u56_, u57_, u58_, u59_, u60_, u61_, u62_, u63_, u64_, u65_, u66_, u67_, u68_, u69_, u70_, u71_, u72_, u73_, u74_, u75_, u76_, u77_, u78_], defers := [] } W) := by
  obtain ⟨r0, hcc⟩ := hcc
  have hb : Tryz.f77.body = some _ := rfl
  rw [hb] at hcc
  injection hcc with hcc
  injection hcc with _ hcc
  injection hcc with hcc
  subst hcc
  clear hb
  show ∀ (k ga gp gb gt gd p r : Nat) (ps : Array Value) (i : Nat) (u0_ u1_ u3_ u4_ u5_ u7_ u8_ u9_ u10_ u11_ u12_ u13_ u14_ u15_ u16_ u17_ u18_ u19_ u20_ u21_ u22_ u23_ u24_ u25_ u26_ u27_ u28_ u29_ u30_ u31_ u32_ u33_ u34_ u35_ u36_ u37_ u38_ u39_ u40_ u41_ u42_ u43_ u44_ u45_ u46_ u47_ u48_ u49_ u50_ u51_ u52_ u53_ u54_ u55_ u56_ u57_ u58_ u59_ u60_ u61_ u62_ u63_ u64_ u65_ u66_ u67_ u68_ u69_ u70_ u71_ u72_ u73_ u74_ u75_ u76_ u77_ u78_ : Value) (W : World), Sp9 w W ga gp gb gt gd p r A n c i l ps → M.scan l = .error i → L (k + 1) (.goto 3) { tmps := #[u0_, u1_, .pointer (some ⟨r, 0, none⟩), u3_, u4_, u5_, .pointer (some ⟨ga, 0, none⟩), u7_, u8_, u9_, u10_, u11_, u12_, u13_, u14_, u15_, u16_, u17_, u18_, u19_, u20_, u21_, u22_, u23_, u24_, u25_, u26_, u27_, u28_, u29_, u30_, u31_, u32_, u33_, u34_, u35_, u36_, u37_, u38_, u39_, u40_, u41_, u42_, u43_, u44_, u45_, u46_, u47_, u48_, u49_, u50_, u51_, u52_, u53_, u54_, u55_, u56_, u57_, u58_, u59_, u60_, u61_, u62_, u63_, u64_, u65_, u66_, u67_, u68_, u69_, u70_, u71_, u72_, u73_, u74_, u75_, u76_, u77_, u78_], defers := [] } W
  intro k ga gp gb gt gd p r ps i u0_ u1_ u3_ u4_ u5_ u7_ u8_ u9_ u10_ u11_ u12_ u13_ u14_ u15_ u16_ u17_ u18_ u19_ u20_ u21_ u22_ u23_ u24_ u25_ u26_ u27_ u28_ u29_ u30_ u31_ u32_ u33_ u34_ u35_ u36_ u37_ u38_ u39_ u40_ u41_ u42_ u43_ u44_ u45_ u46_ u47_ u48_ u49_ u50_ u51_ u52_ u53_ u54_ u55_ u56_ u57_ u58_ u59_ u60_ u61_ u62_ u63_ u64_ u65_ u66_ u67_ u68_ u69_ u70_ u71_ u72_ u73_ u74_ u75_ u76_ u77_ u78_ W h hsc
  refine hgo.out _ _ _ _ _ rfl ?_
  have HH := Lib.hid h
  have HSC := Lib.hid hsc
  have ca := h.C.a.get 0
  obtain ⟨r0, r1, r2, r3, r4, r5⟩ := h.R.six
  obtain ⟨f0, f1, f2, f3, f4, f5⟩ := h.R.fsix
  simp only [List.getElem?_toArray, List.getElem?_cons_zero] at ca
  have Uw := h.C.up
  have ra := h.ra
  have RR := h.R
  have lr := h.lr
  clear h hsc
  go_wp2_with fail
  have e1 : (⟨r, 0, none⟩ : Addr) ≠ ⟨ga, 0, none⟩ := fun e => ra (congrArg Addr.block e)
  go_region
  obtain ⟨V, hV⟩ : ∃ V, ((((((W.setCell ⟨r, 0, none⟩ (.int .i64 0)).setCell ⟨r, 1, none⟩ (.bool false)).setCell ⟨r, 2, none⟩ (.slice none 0 0)).setCell ⟨r, 3, none⟩ (.slice none 0 0)).setCell ⟨r, 4, none⟩ (.bool false)).setCell ⟨r, 5, none⟩ (.slice none 0 0)).drew = V := ⟨_, rfl⟩
  have UV : Up w V := by rw [← hV]; exact ((((((Uw.setCell (p := ⟨r, 0, none⟩) lr _).setCell (p := ⟨r, 1, none⟩) lr _).setCell (p := ⟨r, 2, none⟩) lr _).setCell (p := ⟨r, 3, none⟩) lr _).setCell (p := ⟨r, 4, none⟩) lr _).setCell (p := ⟨r, 5, none⟩) lr _).drew
  have RV : Ob V r 106 #[.int .i64 0, .bool false, .slice none 0 0, .slice none 0 0, .bool false, .slice none 0 0] := by rw [← hV]; exact ((((((RR.put 0 _).put 1 _).put 2 _).put 3 _).put 4 _).put 5 _).drewN 1
  rw [hV]
  clear hV r0 r1 r2 r3 r4 r5 f0 f1 f2 f3 f4 f5 RR e1 ca Uw
  obtain ⟨r0, r1, r2, r3, r4, r5⟩ := RV.six
  go_wp2_with fail
  refine hret.out _ _ _ ?_
  refine bodyPost_ret (v := .tuple #[ptv 0 false none 0 0 none 0 0 false none 0 0, .int .i64 (i : Int), .bool false]) (by simp [results, Tryz.results77, go_sem, r0, r1, r2, r3, r4, r5]) rfl ?_
  exact .inl ⟨i, HSC.out, rfl, UV⟩
set_option maxHeartbeats 16000000 in
set_option maxRecDepth 100000 in
theorem sp_end (w : World) (A : Option Addr) (n c : Nat) (l : List UInt8) (HS : Hid (Sb w A n c l)) (hn : n ≤ 100000000) (L : Nat → Exit → Act → World → Prop) (hret : Hid (∀ n a W, bodyPost Tryz.prog Tryz.f77 (Spl l w) .ret a W → L n .ret a W)) (cc : Code) (hcc : ∃ r0, Tryz.f77.body = some (.seq r0 (.scope cc)))
    (hgo : Hid (∀ n l rest a W, findLabel cc l = some rest → rest.wp Tryz.prog (L n) a W → L (n + 1) (.goto l) a W)) : Hid (∀ (k ga gp gb gt gd p r : Nat) (ps : Array Value) (i : Nat) (x : M.Sc) (u0_ u3_ u4_ u7_ u8_ u9_ u10_ u11_ u12_ u13_ u14_ u15_ u16_ u17_ u18_ u19_ u20_ u21_ u22_ u23_ u24_ u25_ u26_ u27_ u28_ u29_ u30_ u31_ u32_ u33_ u34_ u35_ u36_ u37_ u38_ u39_ u40_ u41_ u42_ u43_ u44_ u45_ u46_ u47_ u48_ u49_ u50_ u51_ u52_ u53_ u54_ u55_ u56_ u57_ u58_ u59_ u60_ u61_ u62_ u63_ u64_ u65_ u66_ u67_ u68_ u69_ u70_ u71_ u72_ u73_ u74_ u75_ u76_ u77_ u78_ : Value) (W : World), Sp9 w W ga gp gb gt gd p r A n c i l ps → M.Rdn l i x → M.wh x.st = true → (i < n → M.nx x.st (l.getD i 0).toNat = 99) → Prt w x ps → L (k + 1) (.goto 1) { tmps := #[u0_, .pointer (some ⟨gd, 0, none⟩), .pointer (some ⟨r, 0, none⟩), u3_, u4_, .pointer (some ⟨p, 0, none⟩), .pointer (some ⟨ga, 0, none⟩), u7_, u8_, u9_, u10_, u11_, u12_, u13_, u14_, u15_, u16_, u17_, u18_, u19_, u20_, u21_, u22_, u23_, u24_, u25_, u26_, u27_, u28_, u29_, u30_, u31_, u32_, u33_, u34_, u35_, u36_, u37_, u38_, u39_, u40_, u41_, u42_, u43_, u44_, u45_, u46_, u47_, u48_, u49_, u50_, u51_, u52_, u53_, u54_, u55_, u56_, u57_, u58_, u59_, u60_, u61_, u62_, u63_, u64_, u65_, u66_, u67_, u68_, u69_, u70_, u71_, u72_, u73_, u74_, u75_, u76_, u77_, u78_], defers := [] } W) := by
  obtain ⟨r0, hcc⟩ := hcc
  have hb : Tryz.f77.body = some _ := rfl
  rw [hb] at hcc
  injection hcc with hcc
  injection hcc with _ hcc
  injection hcc with hcc
  subst hcc
  clear hb
  show ∀ (k ga gp gb gt gd p r : Nat) (ps : Array Value) (i : Nat) (x : M.Sc) (u0_ u3_ u4_ u7_ u8_ u9_ u10_ u11_ u12_ u13_ u14_ u15_ u16_ u17_ u18_ u19_ u20_ u21_ u22_ u23_ u24_ u25_ u26_ u27_ u28_ u29_ u30_ u31_ u32_ u33_ u34_ u35_ u36_ u37_ u38_ u39_ u40_ u41_ u42_ u43_ u44_ u45_ u46_ u47_ u48_ u49_ u50_ u51_ u52_ u53_ u54_ u55_ u56_ u57_ u58_ u59_ u60_ u61_ u62_ u63_ u64_ u65_ u66_ u67_ u68_ u69_ u70_ u71_ u72_ u73_ u74_ u75_ u76_ u77_ u78_ : Value) (W : World), Sp9 w W ga gp gb gt gd p r A n c i l ps → M.Rdn l i x → M.wh x.st = true → (i < n → M.nx x.st (l.getD i 0).toNat = 99) → Prt w x ps → L (k + 1) (.goto 1) { tmps := #[u0_, .pointer (some ⟨gd, 0, none⟩), .pointer (some ⟨r, 0, none⟩), u3_, u4_, .pointer (some ⟨p, 0, none⟩), .pointer (some ⟨ga, 0, none⟩), u7_, u8_, u9_, u10_, u11_, u12_, u13_, u14_, u15_, u16_, u17_, u18_, u19_, u20_, u21_, u22_, u23_, u24_, u25_, u26_, u27_, u28_, u29_, u30_, u31_, u32_, u33_, u34_, u35_, u36_, u37_, u38_, u39_, u40_, u41_, u42_, u43_, u44_, u45_, u46_, u47_, u48_, u49_, u50_, u51_, u52_, u53_, u54_, u55_, u56_, u57_, u58_, u59_, u60_, u61_, u62_, u63_, u64_, u65_, u66_, u67_, u68_, u69_, u70_, u71_, u72_, u73_, u74_, u75_, u76_, u77_, u78_], defers := [] } W
  intro k ga gp gb gt gd p r ps i x u0_ u3_ u4_ u7_ u8_ u9_ u10_ u11_ u12_ u13_ u14_ u15_ u16_ u17_ u18_ u19_ u20_ u21_ u22_ u23_ u24_ u25_ u26_ u27_ u28_ u29_ u30_ u31_ u32_ u33_ u34_ u35_ u36_ u37_ u38_ u39_ u40_ u41_ u42_ u43_ u44_ u45_ u46_ u47_ u48_ u49_ u50_ u51_ u52_ u53_ u54_ u55_ u56_ u57_ u58_ u59_ u60_ u61_ u62_ u63_ u64_ u65_ u66_ u67_ u68_ u69_ u70_ u71_ u72_ u73_ u74_ u75_ u76_ u77_ u78_ W h hrd hwh hnx hprt
  obtain ⟨A1, A2, A3, n1, c1, n2, c2, n3, c3, dn, l1, l2, l3, K, ng, rfl, hng, hK, hpr⟩ := hprt
  refine hgo.out _ _ _ _ _ rfl ?_
  have HRD := Lib.hid hrd
  have HWH := Lib.hid hwh
  have HNX := Lib.hid hnx
  have HPR := Lib.hid hpr
  have HNG := Lib.hid hng
  have HK := Lib.hid hK
  have HNUM : Hid (l.length = n) := HS.out.num
  clear hrd hwh hnx hpr hng hK
  have HH := Lib.hid h
  have ca := h.C.a.get 0
  have cd := h.C.d.get 0
  obtain ⟨r0, r1, r2, r3, r4, r5⟩ := h.R.six
  obtain ⟨f0, f1, f2, f3, f4, f5⟩ := h.R.fsix
  simp only [List.getElem?_toArray, List.getElem?_cons_zero] at ca cd
  have Uw := h.C.up
  have ra := h.ra
  have RR := h.R
  have lr := h.lr
  by_cases hin : i = n
  · subst hin
    have d : ((i : Int) == (i : Int)) = true := by simp
    have HSC : Hid (M.scan l = .ok x) := HRD.out.fin HNUM.out.symm HWH.out
    have HP := h.P
    obtain ⟨p0, p1, p2, p3, p4, p5⟩ := HP.six
    clear h HP r0 r1 r2 r3 r4 r5 f0 f1 f2 f3 f4 f5
    go_wp2_with (refine store_ob2 rfl 106 (.tmp 2) (.tmp 76) rfl _ #[.int .i64 0, .bool false, .slice none 0 0, .slice none 0 0, .bool false, .slice none 0 0] #[.int .i64 K, .bool ng, .slice A1 n1 c1, .slice A2 n2 c2, .bool dn, .slice A3 n3 c3] rfl rfl 6 (by kernel_rfl) rfl rfl (by simp [Value.oneCell']) w Uw lr 106 RR ?_; clear Uw; intro V9 Z9 U9 ho)
    obtain ⟨r0, r1, r2, r3, r4, r5⟩ := Z9.six
    refine hret.out _ _ _ ?_
    refine bodyPost_ret (v := .tuple #[ptv K ng A1 n1 c1 A2 n2 c2 dn A3 n3 c3, .int .i64 0, .bool true]) (by simp [results, Tryz.results77, go_sem, r0, r1, r2, r3, r4, r5]) rfl ?_
    refine .inr ⟨x, HSC.out, A1, A2, A3, n1, c1, n2, c2, n3, c3, dn, l1, l2, l3, K, ng, rfl, U9, HNG.out, HK.out, fun hx => ?_⟩
    obtain ⟨k1, k2, k3, k4⟩ := HPR.out hx
    exact ⟨k1.up U9, k2.up U9, k3.up U9, k4⟩
  · have d : ((i : Int) == (n : Int)) = false := by rw [beq_eq_false_iff_ne]; omega
    have HSC : Hid (M.scan l = .error i) := HRD.out.stop (by have := HRD.out.le; have := HNUM.out; omega) (HNX.out (by have := HRD.out.le; have := HNUM.out; omega))
    clear h
    go_wp2_with fail
    go_step3
    go_wp2_with fail
    have e1 : (⟨r, 0, none⟩ : Addr) ≠ ⟨ga, 0, none⟩ := fun e => ra (congrArg Addr.block e)
    go_region
    obtain ⟨V, hV⟩ : ∃ V, ((((((W.setCell ⟨r, 0, none⟩ (.int .i64 0)).setCell ⟨r, 1, none⟩ (.bool false)).setCell ⟨r, 2, none⟩ (.slice none 0 0)).setCell ⟨r, 3, none⟩ (.slice none 0 0)).setCell ⟨r, 4, none⟩ (.bool false)).setCell ⟨r, 5, none⟩ (.slice none 0 0)).drew = V := ⟨_, rfl⟩
    have UV : Up w V := by rw [← hV]; exact ((((((Uw.setCell (p := ⟨r, 0, none⟩) lr _).setCell (p := ⟨r, 1, none⟩) lr _).setCell (p := ⟨r, 2, none⟩) lr _).setCell (p := ⟨r, 3, none⟩) lr _).setCell (p := ⟨r, 4, none⟩) lr _).setCell (p := ⟨r, 5, none⟩) lr _).drew
    have RV : Ob V r 106 #[.int .i64 0, .bool false, .slice none 0 0, .slice none 0 0, .bool false, .slice none 0 0] := by rw [← hV]; exact ((((((RR.put 0 _).put 1 _).put 2 _).put 3 _).put 4 _).put 5 _).drewN 1
    rw [hV]
    clear hV r0 r1 r2 r3 r4 r5 f0 f1 f2 f3 f4 f5 RR e1 ca Uw
    obtain ⟨r0, r1, r2, r3, r4, r5⟩ := RV.six
    go_wp2_with fail
    refine hret.out _ _ _ ?_
    refine bodyPost_ret (v := .tuple #[ptv 0 false none 0 0 none 0 0 false none 0 0, .int .i64 (i : Int), .bool false]) (by simp [results, Tryz.results77, go_sem, r0, r1, r2, r3, r4, r5]) rfl ?_
    exact .inl ⟨i, HSC.out, rfl, UV⟩
set_option maxHeartbeats 16000000 in
set_option maxRecDepth 100000 in
theorem sp_num (w : World) (A : Option Addr) (n c : Nat) (l : List UInt8) (HS : Hid (Sb w A n c l)) (hn : n ≤ 100000000) (L : Nat → Exit → Act → World → Prop) (hret : Hid (∀ n a W, bodyPost Tryz.prog Tryz.f77 (Spl l w) .ret a W → L n .ret a W)) (cc : Code) (hcc : ∃ r0, Tryz.f77.body = some (.seq r0 (.scope cc)))
    (hgo : Hid (∀ n l rest a W, findLabel cc l = some rest → rest.wp Tryz.prog (L n) a W → L (n + 1) (.goto l) a W)) (HNone : Hid (∀ (k ga gp gb gt gd p r : Nat) (ps : Array Value) (i : Nat) (u0_ u1_ u3_ u4_ u5_ u7_ u8_ u9_ u10_ u11_ u12_ u13_ u14_ u15_ u16_ u17_ u18_ u19_ u20_ u21_ u22_ u23_ u24_ u25_ u26_ u27_ u28_ u29_ u30_ u31_ u32_ u33_ u34_ u35_ u36_ u37_ u38_ u39_ u40_ u41_ u42_ u43_ u44_ u45_ u46_ u47_ u48_ u49_ u50_ u51_ u52_ u53_ u54_ u55_ u56_ u57_ u58_ u59_ u60_ u61_ u62_ u63_ u64_ u65_ u66_ u67_ u68_ u69_ u70_ u71_ u72_ u73_ u74_ u75_ u76_ u77_ u78_ : Value) (W : World), Sp9 w W ga gp gb gt gd p r A n c i l ps → M.scan l = .error i → L (k + 1) (.goto 3) { tmps := #[u0_, u1_, .pointer (some ⟨r, 0, none⟩), u3_, u4_, u5_, .pointer (some ⟨ga, 0, none⟩), u7_, u8_, u9_, u10_, u11_, u12_, u13_, u14_, u15_, u16_, u17_, u18_, u19_, u20_, u21_, u22_, u23_, u24_, u25_, u26_, u27_, u28_, u29_, u30_, u31_, u32_, u33_, u34_, u35_, u36_, u37_, u38_, u39_, u40_, u41_, u42_, u43_, u44_, u45_, u46_, u47_, u48_, u49_, u50_, u51_, u52_, u53_, u54_, u55_, u56_, u57_, u58_, u59_, u60_, u61_, u62_, u63_, u64_, u65_, u66_, u67_, u68_, u69_, u70_, u71_, u72_, u73_, u74_, u75_, u76_, u77_, u78_], defers := [] } W)) (HEnd : Hid (∀ (k ga gp gb gt gd p r : Nat) (ps : Array Value) (i : Nat) (x : M.Sc) (u0_ u3_ u4_ u7_ u8_ u9_ u10_ u11_ u12_ u13_ u14_ u15_ u16_ u17_ u18_ u19_ u20_ u21_ u22_ u23_ u24_ u25_ u26_ u27_ u28_ u29_ u30_ u31_ u32_ u33_ u34_ u35_ u36_ u37_ u38_ u39_ u40_ u41_ u42_ u43_ u44_ u45_ u46_ u47_ u48_ u49_ u50_ u51_ u52_ u53_ u54_ u55_ u56_ u57_ u58_ u59_ u60_ u61_ u62_ u63_ u64_ u65_ u66_ u67_ u68_ u69_ u70_ u71_ u72_ u73_ u74_ u75_ u76_ u77_ u78_ : Value) (W : World), Sp9 w W ga gp gb gt gd p r A n c i l ps → M.Rdn l i x → M.wh x.st = true → (i < n → M.nx x.st (l.getD i 0).toNat = 99) → Prt w x ps → L (k + 1) (.goto 1) { tmps := #[u0_, .pointer (some ⟨gd, 0, none⟩), .pointer (some ⟨r, 0, none⟩), u3_, u4_, .pointer (some ⟨p, 0, none⟩), .pointer (some ⟨ga, 0, none⟩), u7_, u8_, u9_, u10_, u11_, u12_, u13_, u14_, u15_, u16_, u17_, u18_, u19_, u20_, u21_, u22_, u23_, u24_, u25_, u26_, u27_, u28_, u29_, u30_, u31_, u32_, u33_, u34_, u35_, u36_, u37_, u38_, u39_, u40_, u41_, u42_, u43_, u44_, u45_, u46_, u47_, u48_, u49_, u50_, u51_, u52_, u53_, u54_, u55_, u56_, u57_, u58_, u59_, u60_, u61_, u62_, u63_, u64_, u65_, u66_, u67_, u68_, u69_, u70_, u71_, u72_, u73_, u74_, u75_, u76_, u77_, u78_], defers := [] } W)) : Hid (∀ (k ga gp gb gt gd p r i st : Nat) (neg : Bool) (u0_ u3_ u4_ u7_ u10_ u11_ u12_ u13_ u14_ u15_ u16_ u17_ u18_ u19_ u20_ u21_ u22_ u23_ u24_ u25_ u26_ u27_ u28_ u29_ u30_ u31_ u32_ u33_ u34_ u35_ u36_ u37_ u38_ u39_ u40_ u41_ u42_ u43_ u44_ u45_ u46_ u47_ u48_ u49_ u50_ u51_ u52_ u53_ u54_ u55_ u56_ u57_ u58_ u59_ u60_ u61_ u62_ u63_ u64_ u65_ u66_ u67_ u68_ u69_ u70_ u71_ u72_ u73_ u74_ u75_ u76_ u77_ u78_ : Value) (W : World), Sp9 w W ga gp gb gt gd p r A n c i l #[.int .i64 1, .bool neg, .slice none 0 0, .slice none 0 0, .bool false, .slice none 0 0] → M.Rdn l i ⟨st, neg, [], 0, false, []⟩ → st < 2 → (i < n → (l.getD i 0).toNat ≠ 105 ∧ (l.getD i 0).toNat ≠ 110 ∧ (l.getD i 0).toNat ≠ 78 ∧ (st = 0 → (l.getD i 0).toNat ≠ 45)) → L (k + 2) (.goto 0) { tmps := #[u0_, .pointer (some ⟨gd, 0, none⟩), .pointer (some ⟨r, 0, none⟩), u3_, u4_, .pointer (some ⟨p, 0, none⟩), .pointer (some ⟨ga, 0, none⟩), u7_, .pointer (some ⟨gt, 0, none⟩), .func (Fn.func 98) #[] #[.pointer (some ⟨ga, 0, none⟩), .pointer (some ⟨gt, 0, none⟩), .pointer (some ⟨gd, 0, none⟩)], u10_, u11_, u12_, u13_, u14_, u15_, u16_, u17_, u18_, u19_, u20_, u21_, u22_, u23_, u24_, u25_, u26_, u27_, u28_, u29_, u30_, u31_, u32_, u33_, u34_, u35_, u36_, u37_, u38_, u39_, u40_, u41_, u42_, u43_, u44_, u45_, u46_, u47_, u48_, u49_, u50_, u51_, u52_, u53_, u54_, u55_, u56_, u57_, u58_, u59_, u60_, u61_, u62_, u63_, u64_, u65_, u66_, u67_, u68_, u69_, u70_, u71_, u72_, u73_, u74_, u75_, u76_, u77_, u78_], defers := [] } W) := by
  obtain ⟨r0, hcc⟩ := hcc
  have hb : Tryz.f77.body = some _ := rfl
  rw [hb] at hcc
  injection hcc with hcc
  injection hcc with _ hcc
  injection hcc with hcc
  subst hcc
  clear hb
  show ∀ (k ga gp gb gt gd p r i st : Nat) (neg : Bool) (u0_ u3_ u4_ u7_ u10_ u11_ u12_ u13_ u14_ u15_ u16_ u17_ u18_ u19_ u20_ u21_ u22_ u23_ u24_ u25_ u26_ u27_ u28_ u29_ u30_ u31_ u32_ u33_ u34_ u35_ u36_ u37_ u38_ u39_ u40_ u41_ u42_ u43_ u44_ u45_ u46_ u47_ u48_ u49_ u50_ u51_ u52_ u53_ u54_ u55_ u56_ u57_ u58_ u59_ u60_ u61_ u62_ u63_ u64_ u65_ u66_ u67_ u68_ u69_ u70_ u71_ u72_ u73_ u74_ u75_ u76_ u77_ u78_ : Value) (W : World), Sp9 w W ga gp gb gt gd p r A n c i l #[.int .i64 1, .bool neg, .slice none 0 0, .slice none 0 0, .bool false, .slice none 0 0] → M.Rdn l i ⟨st, neg, [], 0, false, []⟩ → st < 2 → (i < n → (l.getD i 0).toNat ≠ 105 ∧ (l.getD i 0).toNat ≠ 110 ∧ (l.getD i 0).toNat ≠ 78 ∧ (st = 0 → (l.getD i 0).toNat ≠ 45)) → L (k + 2) (.goto 0) { tmps := #[u0_, .pointer (some ⟨gd, 0, none⟩), .pointer (some ⟨r, 0, none⟩), u3_, u4_, .pointer (some ⟨p, 0, none⟩), .pointer (some ⟨ga, 0, none⟩), u7_, .pointer (some ⟨gt, 0, none⟩), .func (Fn.func 98) #[] #[.pointer (some ⟨ga, 0, none⟩), .pointer (some ⟨gt, 0, none⟩), .pointer (some ⟨gd, 0, none⟩)], u10_, u11_, u12_, u13_, u14_, u15_, u16_, u17_, u18_, u19_, u20_, u21_, u22_, u23_, u24_, u25_, u26_, u27_, u28_, u29_, u30_, u31_, u32_, u33_, u34_, u35_, u36_, u37_, u38_, u39_, u40_, u41_, u42_, u43_, u44_, u45_, u46_, u47_, u48_, u49_, u50_, u51_, u52_, u53_, u54_, u55_, u56_, u57_, u58_, u59_, u60_, u61_, u62_, u63_, u64_, u65_, u66_, u67_, u68_, u69_, u70_, u71_, u72_, u73_, u74_, u75_, u76_, u77_, u78_], defers := [] } W
  intro k ga gp gb gt gd p r i st neg u0_ u3_ u4_ u7_ u10_ u11_ u12_ u13_ u14_ u15_ u16_ u17_ u18_ u19_ u20_ u21_ u22_ u23_ u24_ u25_ u26_ u27_ u28_ u29_ u30_ u31_ u32_ u33_ u34_ u35_ u36_ u37_ u38_ u39_ u40_ u41_ u42_ u43_ u44_ u45_ u46_ u47_ u48_ u49_ u50_ u51_ u52_ u53_ u54_ u55_ u56_ u57_ u58_ u59_ u60_ u61_ u62_ u63_ u64_ u65_ u66_ u67_ u68_ u69_ u70_ u71_ u72_ u73_ u74_ u75_ u76_ u77_ u78_ W h hrd hst hfc
  refine hgo.out _ _ _ _ _ rfl ?_
  have HNUM : Hid (l.length = n) := HS.out.num
  have hrdl := hrd.le
  rw [HNUM.out] at hrdl
  obtain ⟨m1, hm1⟩ := M.dgt_ex l (l.length - i) i rfl (by rw [HNUM.out]; exact hrdl)
  have HM1 := Lib.hid hm1
  have q1 : i ≤ m1 := hm1.1
  have q2 : m1 ≤ n := by have := hm1.2.1; have := HNUM.out; omega
  have CD := Lib.hid (digits_any w W ga gp gb gt gd i n c A l h.C (by omega) m1 HM1)
  have S1 := HS.out.piece q1 q2
  have D1 := Lib.hid hm1.all
  have HX1 := hrd.whole hm1 (by show st ≤ 2; omega)
  simp only [List.nil_append] at HX1
  obtain ⟨l1, hl1⟩ : ∃ l1, (l.drop i).take (m1 - i) = l1 := ⟨_, rfl⟩
  rw [hl1] at S1 D1 HX1
  obtain ⟨A1, hA1⟩ : ∃ A1, Adr A c i = A1 := ⟨_, rfl⟩
  obtain ⟨n1, hn1⟩ : ∃ n1, m1 - i = n1 := ⟨_, rfl⟩
  obtain ⟨c1, hc1⟩ : ∃ c1, c - i = c1 := ⟨_, rfl⟩
  rw [hA1, hn1, hc1] at CD S1
  obtain ⟨s1, hs1⟩ : ∃ s1, (if m1 = i then st else 2) = s1 := ⟨_, rfl⟩
  rw [hs1] at HX1
  have K1 : Hid ((n1 = 0 ∧ s1 < 2 ∧ (m1 < n → (l.getD m1 0).toNat ≠ 105 ∧ (l.getD m1 0).toNat ≠ 110 ∧ (l.getD m1 0).toNat ≠ 78 ∧ (s1 = 0 → (l.getD m1 0).toNat ≠ 45))) ∨ (0 < n1 ∧ s1 = 2)) := by
    by_cases e : m1 = i
    · left
      rw [if_pos e] at hs1
      subst hs1
      subst e
      exact ⟨by omega, hst, hfc⟩
    · right
      rw [if_neg e] at hs1
      exact ⟨by omega, hs1.symm⟩
  have HS1 := Lib.hid S1
  have HRD1 := Lib.hid HX1
  clear S1 HX1 hs1 hl1 hA1 hc1 hst hfc hrd hm1
  have q3 : n1 ≤ n := by omega
  clear hn1
  have ct := h.C.t.get 0
  simp only [List.getElem?_toArray, List.getElem?_cons_zero] at ct
  go_upto_region 16 with (go_at_call 98; refine CD.out.mono ?_; rintro _ W1 ⟨rfl, k1, C1⟩; have h1 := h.dig k1 C1; obtain ⟨p0, p1, p2, p3, p4, p5⟩ := h1.P.six; obtain ⟨f0, f1, f2, f3, f4, f5⟩ := h1.P.fsix)
  have h2 := h1.put 2 (.slice A1 n1 c1) rfl
  obtain ⟨W2, hW2⟩ : ∃ W2, W1.setCell ⟨p, 2, none⟩ (.slice A1 n1 c1) = W2 := ⟨_, rfl⟩
  rw [hW2] at h2 ⊢
  clear hW2 h1 k1 C1 CD ct p0 p1 p2 p3 p4 p5 f0 f1 f2 f3 f4 f5 h
  obtain ⟨t, ht⟩ : ∃ t, (decide (m1 < n) && [46].contains (l.getD m1 0)) = t := ⟨_, rfl⟩
  have Ht := Lib.hid ht
  clear ht
  have TKC := Lib.hid (took_any W2 ga gp gb m1 n c A l ⟨#[46]⟩ [46] rfl h2.C.p h2.C.b h2.C.a (h2.C.s.up h2.C.up) (by omega) (by omega) t Ht)
  have ct := h2.C.t.get 0
  simp only [List.getElem?_toArray, List.getElem?_cons_zero] at ct
  go_upto_if 42 with (go_at_call 117; refine TKC.out.mono ?_; rintro _ W3 ⟨rfl, k3, a3⟩)
  have h3 := h2.took k3 a3
  clear TKC ct k3 a3 h2
  go_cut [] from 42 (fun wx => Fr w wx ga gp gb gt gd p r A n c l neg A1 n1 c1 l1)
  case first =>
    cases t with
    | false =>
      go_wp2_with fail
      go_meet
      rw [if_neg Bool.false_ne_true] at h3
      have hno : m1 < n → (l.getD m1 0).toNat ≠ 46 := fun hlt e => by
        have := M.has_no Ht.out hlt
        rw [M.has_one] at this
        exact absurd e (of_decide_eq_false this)
      have hnd : m1 < n → ¬ (48 ≤ (l.getD m1 0).toNat ∧ (l.getD m1 0).toNat ≤ 57) := fun hlt => M.not_dig (HM1.out.2.2.2 (by rw [HNUM.out]; exact hlt))
      refine ⟨m1, none, 0, 0, [], s1, h3, Nat.zero_le _, Sb.nil0 w, rfl, by rw [List.append_nil]; exact HRD1.out, ?_⟩
      rcases K1.out with ⟨e1, e2, e3⟩ | ⟨e1, e2⟩
      · left
        refine ⟨by omega, ?_, fun hlt => ?_⟩
        · rcases (show s1 = 0 ∨ s1 = 1 by omega) with rfl | rfl <;> rfl
        · obtain ⟨k1, k2, k3, k4⟩ := e3 hlt
          exact M.nx_dead (hnd hlt) (fun _ => ⟨k1, k2, k3, hno hlt, k4⟩) (fun h => by omega) (fun h => by omega) (fun h => by omega) (by omega)
      · right
        refine ⟨by omega, .inl e2, fun hlt k1 k2 => ?_⟩
        subst e2
        exact M.nx_dead (hnd hlt) (fun h => by omega) (fun _ => ⟨hno hlt, k1, k2⟩) (fun h => by omega) (fun h => by omega) (by omega)
    | true =>
      rw [if_pos rfl] at h3
      obtain ⟨hlt, hpt⟩ := M.has_yes Ht.out
      rw [M.has_one, decide_eq_true_iff] at hpt
      replace hpt : (l.getD m1 0).toNat = 46 := hpt
      obtain ⟨m2, hm2⟩ := M.dgt_ex l (l.length - (m1 + 1)) (m1 + 1) rfl (by rw [HNUM.out]; exact hlt)
      have HM2 := Lib.hid hm2
      have q4 : m1 + 1 ≤ m2 := hm2.1
      have q5 : m2 ≤ n := by have := hm2.2.1; have := HNUM.out; omega
      have CD := Lib.hid (digits_any w W3 ga gp gb gt gd (m1 + 1) n c A l h3.C (by omega) m2 HM2)
      have S2 := HS.out.piece q4 q5
      have D2 := Lib.hid hm2.all
      have hs1' : s1 = 0 ∨ s1 = 1 ∨ s1 = 2 := by
        rcases K1.out with ⟨_, e2, _⟩ | ⟨_, e2⟩ <;> omega
      have hX2 := HRD1.out.step (by rw [HNUM.out]; exact hlt) (by show M.nx s1 _ ≠ 99; rw [hpt]; rcases hs1' with rfl | rfl | rfl <;> decide)
      obtain ⟨s2, hs2, es2⟩ : ∃ s2, (s2 = 3 ∧ s1 = 2 ∨ s2 = 4 ∧ s1 < 2) ∧ M.stp ⟨s1, neg, l1, 0, false, []⟩ (l.getD m1 0) = ⟨s2, neg, l1, 0, false, []⟩ := by
        unfold M.stp
        simp only [hpt]
        rcases hs1' with rfl | rfl | rfl
        · exact ⟨4, .inr ⟨rfl, by omega⟩, rfl⟩
        · exact ⟨4, .inr ⟨rfl, by omega⟩, rfl⟩
        · exact ⟨3, .inl ⟨rfl, rfl⟩, rfl⟩
      rw [es2] at hX2
      have hX3 := hX2.frac hm2 (by show 3 ≤ s2; omega) (by show s2 ≤ 5; omega)
      simp only [Nat.zero_add] at hX3
      obtain ⟨l2, hl2⟩ : ∃ l2, (l.drop (m1 + 1)).take (m2 - (m1 + 1)) = l2 := ⟨_, rfl⟩
      rw [hl2] at S2 D2 hX3
      obtain ⟨A2, hA2⟩ : ∃ A2, Adr A c (m1 + 1) = A2 := ⟨_, rfl⟩
      obtain ⟨n2, hn2⟩ : ∃ n2, m2 - (m1 + 1) = n2 := ⟨_, rfl⟩
      obtain ⟨c2, hc2⟩ : ∃ c2, c - (m1 + 1) = c2 := ⟨_, rfl⟩
      rw [hA2, hn2, hc2] at CD S2
      rw [hn2] at hX3
      have HS2 := Lib.hid S2
      have HX3 := Lib.hid hX3
      have HS3 := Lib.hid hs2
      have HN2 := Lib.hid hn2
      clear S2 hX3 hX2 es2 hl2 hA2 hc2 hn2 hs2 hpt hm2 hs1'
      have ct := h3.C.t.get 0
      simp only [List.getElem?_toArray, List.getElem?_cons_zero] at ct
      go_wp2_with (go_at_call 98; refine CD.out.mono ?_; rintro _ W4 ⟨rfl, k4, C4⟩; have h4 := h3.dig k4 C4; obtain ⟨p0, p1, p2, p3, p4, p5⟩ := h4.P.six; obtain ⟨f0, f1, f2, f3, f4, f5⟩ := h4.P.fsix)
      go_meet
      have hnd : m2 < n → ¬ (48 ≤ (l.getD m2 0).toNat ∧ (l.getD m2 0).toNat ≤ 57) := fun hlt => M.not_dig (HM2.out.2.2.2 (by rw [HNUM.out]; exact hlt))
      refine ⟨m2, A2, n2, c2, l2, _, h4.put 3 (.slice A2 n2 c2) rfl, by have := HN2.out; omega, HS2.out, D2.out, HX3.out, ?_⟩
      have hs2 := HS3.out
      have hn2 := HN2.out
      by_cases e : m2 = m1 + 1
      · rw [if_pos e]
        rcases hs2 with ⟨rfl, e2⟩ | ⟨rfl, e2⟩
        · right
          refine ⟨by rcases K1.out with ⟨_, k, _⟩ | ⟨k, _⟩ <;> omega, .inr (.inl rfl), fun hlt k1 k2 => M.nx_dead (hnd hlt) (fun h => by omega) (fun h => by omega) (fun _ => ⟨k1, k2⟩) (fun h => by omega) (by omega)⟩
        · left
          refine ⟨by rcases K1.out with ⟨k, _, _⟩ | ⟨_, k⟩ <;> omega, rfl, fun hlt => M.nx_dead (hnd hlt) (fun h => by omega) (fun h => by omega) (fun h => by omega) (fun h => by omega) (by omega)⟩
      · rw [if_neg e]
        right
        exact ⟨by omega, .inr (.inr rfl), fun hlt k1 k2 => M.nx_dead (hnd hlt) (fun h => by omega) (fun h => by omega) (fun _ => ⟨k1, k2⟩) (fun h => by omega) (by omega)⟩
  case rest =>
    obtain ⟨i2, A2, n2, c2, l2, s2, h5, q7, S2, hD2, hX, hK⟩ := hcut
    have HD2 := Lib.hid hD2
    have HS2 := Lib.hid S2
    have HX := Lib.hid hX
    have q6 : i2 ≤ n := by have := hX.le; rw [HNUM.out] at this; exact this
    have HDD : Hid (M.allD (l1 ++ l2) = true) := by show _ = _; rw [M.allD_append, D1.out, HD2.out]; rfl
    clear h3 HM1 K1 HRD1 Ht hD2 S2 hX
    obtain ⟨p0, p1, p2, p3, p4, p5⟩ := h5.P.six
    rcases hK with ⟨k0, k1, k2⟩ | ⟨k0, k1, k2⟩
    · have d : ((n1 : Int) + (n2 : Int) == 0) = true := by rw [beq_iff_eq]; omega
      have HSC : M.scan l = .error i2 := HX.out.none k1 (fun hlt => k2 (by have := HNUM.out; omega))
      have HSCH := Lib.hid HSC
      have H5 := Lib.hid h5
      clear k0 k1 k2 HSC h5
      go_wp2_with fail
      go_step3
      exact HNone.out _ _ _ _ _ _ _ _ _ _ _ _ _ _ _ _ _ _ _ _ _ _ _ _ _ _ _ _ _ _ _ _ _ _ _ _ _ _ _ _ _ _ _ _ _ _ _ _ _ _ _ _ _ _ _ _ _ _ _ _ _ _ _ _ _ _ _ _ _ _ _ _ _ _ _ _ _ _ _ _ _ _ _ _ _ _ _ _ H5.out HSCH.out
    · have d : ((n1 : Int) + (n2 : Int) == 0) = false := by rw [beq_eq_false_iff_ne]; omega
      have K1 := Lib.hid k1
      have K2 := Lib.hid k2
      clear k0 k1 k2
      obtain ⟨t, ht⟩ : ∃ t, (decide (i2 < n) && [101, 69].contains (l.getD i2 0)) = t := ⟨_, rfl⟩
      have Ht := Lib.hid ht
      clear ht
      have TKC := Lib.hid (took_any wc ga gp gb i2 n c A l ⟨#[101, 69]⟩ [101, 69] rfl h5.C.p h5.C.b h5.C.a (h5.C.s.up h5.C.up) q6 (by omega) t Ht)
      have ct := h5.C.t.get 0
      simp only [List.getElem?_toArray, List.getElem?_cons_zero] at ct
      go_upto_if 56 with (go_at_call 117; refine TKC.out.mono ?_; rintro _ W3 ⟨rfl, k3, a3⟩)
      have h6 := h5.took k3 a3
      clear TKC ct k3 a3 h5 p0 p1 p2 p3 p4 p5
      cases t with
      | false =>
        rw [if_neg Bool.false_ne_true] at h6
        have H6 := Lib.hid h6
        clear h6
        go_wp2_with fail
        go_step3
        have hne : i2 < n → (l.getD i2 0).toNat ≠ 101 ∧ (l.getD i2 0).toNat ≠ 69 := fun hlt => by
          have := M.has_no Ht.out hlt
          rw [M.has_two] at this
          have k := of_decide_eq_false this
          exact ⟨fun e => k (.inl e), fun e => k (.inr e)⟩
        refine HEnd.out _ _ _ _ _ _ _ _ _ _ ⟨s2, neg, l1 ++ l2, n2, false, []⟩ _ _ _ _ _ _ _ _ _ _ _ _ _ _ _ _ _ _ _ _ _ _ _ _ _ _ _ _ _ _ _ _ _ _ _ _ _ _ _ _ _ _ _ _ _ _ _ _ _ _ _ _ _ _ _ _ _ _ _ _ _ _ _ _ _ _ _ _ _ _ _ _ _ _ _ _ H6.out HX.out ?_ (fun hlt => K2.out hlt (hne hlt).1 (hne hlt).2) ?_
        · show M.wh s2 = true
          rcases K1.out with rfl | rfl | rfl <;> rfl
        · refine ⟨A1, A2, none, n1, c1, n2, c2, 0, 0, false, l1, l2, [], 1, neg, rfl, rfl, ?_, fun _ => ⟨HS1.out, HS2.out, Sb.nil0 w, rfl, rfl, rfl, rfl, HDD.out, rfl⟩⟩
          show (1 : Int) = ((if 10 ≤ s2 then s2 / 10 + 1 else 1 : Nat) : Int)
          rcases K1.out with rfl | rfl | rfl <;> rfl
      | true =>
        rw [if_pos rfl] at h6
        obtain ⟨hlt, hpt⟩ := M.has_yes Ht.out
        rw [M.has_two, decide_eq_true_iff] at hpt
        have hX6 := HX.out.step (by rw [HNUM.out]; exact hlt) (by
          show M.nx s2 _ ≠ 99
          rcases hpt with e | e <;> rw [e] <;> rcases K1.out with rfl | rfl | rfl <;> decide)
        have es : M.stp ⟨s2, neg, l1 ++ l2, n2, false, []⟩ (l.getD i2 0) = ⟨6, neg, l1 ++ l2, n2, false, []⟩ := by
          unfold M.stp
          rcases hpt with e | e <;> simp only [e] <;> rcases K1.out with rfl | rfl | rfl <;> rfl
        rw [es] at hX6
        have HX6 := Lib.hid hX6
        clear HX hX6 es hpt K1 K2 Ht
        obtain ⟨t, ht⟩ : ∃ t, (decide (i2 + 1 < n) && [45].contains (l.getD (i2 + 1) 0)) = t := ⟨_, rfl⟩
        have Ht := Lib.hid ht
        clear ht
        have TKC := Lib.hid (took_any W3 ga gp gb (i2 + 1) n c A l ⟨#[45]⟩ [45] rfl h6.C.p h6.C.b h6.C.a (h6.C.s.up h6.C.up) hlt (by omega) t Ht)
        have ct := h6.C.t.get 0
        simp only [List.getElem?_toArray, List.getElem?_cons_zero] at ct
        go_upto_region 21 with (go_at_call 117; refine TKC.out.mono ?_; rintro _ W4 ⟨rfl, k3, a3⟩; have h7 := h6.took k3 a3; obtain ⟨p0, p1, p2, p3, p4, p5⟩ := h7.P.six; obtain ⟨f0, f1, f2, f3, f4, f5⟩ := h7.P.fsix)
        have h8 := h7.put 4 (.bool t) rfl
        obtain ⟨W5, hW5⟩ : ∃ W5, W4.setCell ⟨p, 4, none⟩ (.bool t) = W5 := ⟨_, rfl⟩
        rw [hW5] at h8 ⊢
        replace h8 : Sp9 w W5 ga gp gb gt gd p r A n c (if t = true then i2 + 1 + 1 else i2 + 1) l #[.int .i64 1, .bool neg, .slice A1 n1 c1, .slice A2 n2 c2, .bool t, .slice none 0 0] := h8
        clear hW5 h7 k3 a3 TKC ct p0 p1 p2 p3 p4 p5 f0 f1 f2 f3 f4 f5 h6
        obtain ⟨p0, p1, p2, p3, p4, p5⟩ := h8.P.six
        go_upto_if 62 with fail
        go_cut [] from 60 (fun wx => Sg w wx ga gp gb gt gd p r A n c l neg A1 n1 c1 A2 n2 c2 (l1 ++ l2) t)
        case first =>
          clear p0 p1 p2 p3 p4 p5
          cases t with
          | true =>
            rw [if_pos rfl] at h8
            obtain ⟨hlt2, hpt⟩ := M.has_yes Ht.out
            rw [M.has_one, decide_eq_true_iff] at hpt
            replace hpt : (l.getD (i2 + 1) 0).toNat = 45 := hpt
            have hX7 := HX6.out.step (by rw [HNUM.out]; exact hlt2) (by show M.nx 6 _ ≠ 99; rw [hpt]; decide)
            have es : M.stp ⟨6, neg, l1 ++ l2, n2, false, []⟩ (l.getD (i2 + 1) 0) = ⟨7, neg, l1 ++ l2, n2, true, []⟩ := by
              unfold M.stp
              simp only [hpt]
              rfl
            rw [es] at hX7
            have H8 := Lib.hid h8
            have HX7 := Lib.hid hX7
            clear h8 hX7 es hpt
            go_wp2_with fail
            go_meet
            exact ⟨_, 7, H8.out, HX7.out, .inr rfl⟩
          | false =>
            rw [if_neg Bool.false_ne_true] at h8
            have hno : i2 + 1 < n → (l.getD (i2 + 1) 0).toNat ≠ 45 := fun hlt e => by
              have := M.has_no Ht.out hlt
              rw [M.has_one] at this
              exact absurd e (of_decide_eq_false this)
            have HNO := Lib.hid hno
            clear hno
            obtain ⟨t2, ht2⟩ : ∃ t, (decide (i2 + 1 < n) && [43].contains (l.getD (i2 + 1) 0)) = t := ⟨_, rfl⟩
            have Ht2 := Lib.hid ht2
            clear ht2
            have TKC := Lib.hid (took_any W5 ga gp gb (i2 + 1) n c A l ⟨#[43]⟩ [43] rfl h8.C.p h8.C.b h8.C.a (h8.C.s.up h8.C.up) hlt (by omega) t2 Ht2)
            have ct := h8.C.t.get 0
            simp only [List.getElem?_toArray, List.getElem?_cons_zero] at ct
            go_wp2_with (go_at_call 117; refine TKC.out.mono ?_; rintro _ W6 ⟨rfl, k3, a3⟩)
            go_meet
            have h9 := h8.took k3 a3
            cases t2 with
            | false =>
              rw [if_neg Bool.false_ne_true] at h9
              refine ⟨_, 6, h9, HX6.out, .inl ⟨rfl, fun hlt => ⟨fun e => ?_, HNO.out hlt⟩⟩⟩
              have := M.has_no Ht2.out hlt
              rw [M.has_one] at this
              exact absurd e (of_decide_eq_false this)
            | true =>
              rw [if_pos rfl] at h9
              obtain ⟨hlt2, hpt⟩ := M.has_yes Ht2.out
              rw [M.has_one, decide_eq_true_iff] at hpt
              replace hpt : (l.getD (i2 + 1) 0).toNat = 43 := hpt
              have hX7 := HX6.out.step (by rw [HNUM.out]; exact hlt2) (by show M.nx 6 _ ≠ 99; rw [hpt]; decide)
              have es : M.stp ⟨6, neg, l1 ++ l2, n2, false, []⟩ (l.getD (i2 + 1) 0) = ⟨7, neg, l1 ++ l2, n2, false, []⟩ := by
                unfold M.stp
                simp only [hpt]
                rfl
              rw [es] at hX7
              exact ⟨_, 7, h9, hX7, .inr rfl⟩
        case rest =>
          obtain ⟨i4, s4, h9, hX, hK⟩ := hcut
          have HX := Lib.hid hX
          have HK4 := Lib.hid hK
          have q8 : i4 ≤ n := by have := hX.le; rw [HNUM.out] at this; exact this
          clear hX hK h8 p0 p1 p2 p3 p4 p5 HX6 Ht
          obtain ⟨m3, hm3⟩ := M.dgt_ex l (l.length - i4) i4 rfl (by rw [HNUM.out]; exact q8)
          have HM3 := Lib.hid hm3
          have q9 : i4 ≤ m3 := hm3.1
          have q10 : m3 ≤ n := by have := hm3.2.1; have := HNUM.out; omega
          have CD := Lib.hid (digits_any w wc ga gp gb gt gd i4 n c A l h9.C (by omega) m3 HM3)
          have S3 := HS.out.piece q9 q10
          have D3 := Lib.hid hm3.all
          have hs4 : 6 ≤ s4 ∧ s4 ≤ 7 := by rcases HK4.out with ⟨e, _⟩ | e <;> omega
          have hX3 := HX.out.power hm3 (by show 6 ≤ s4; omega) (by show s4 ≤ 8; omega)
          simp only [List.nil_append] at hX3
          obtain ⟨l3, hl3⟩ : ∃ l3, (l.drop i4).take (m3 - i4) = l3 := ⟨_, rfl⟩
          rw [hl3] at S3 D3 hX3
          obtain ⟨A3, hA3⟩ : ∃ A3, Adr A c i4 = A3 := ⟨_, rfl⟩
          obtain ⟨n3, hn3⟩ : ∃ n3, m3 - i4 = n3 := ⟨_, rfl⟩
          obtain ⟨c3, hc3⟩ : ∃ c3, c - i4 = c3 := ⟨_, rfl⟩
          rw [hA3, hn3, hc3] at CD S3
          have HS3 := Lib.hid S3
          have HX3 := Lib.hid hX3
          have HN3 := Lib.hid hn3
          have hnd : Hid (m3 < n → ¬ (48 ≤ (l.getD m3 0).toNat ∧ (l.getD m3 0).toNat ≤ 57)) := fun hlt => M.not_dig (HM3.out.2.2.2 (by rw [HNUM.out]; exact hlt))
          clear S3 hX3 hl3 hA3 hc3 hn3 hm3
          have ct := h9.C.t.get 0
          simp only [List.getElem?_toArray, List.getElem?_cons_zero] at ct
          go_upto_region 24 with (go_at_call 98; refine CD.out.mono ?_; rintro _ W6 ⟨rfl, k4, C4⟩; have h10 := h9.dig k4 C4; obtain ⟨p0, p1, p2, p3, p4, p5⟩ := h10.P.six; obtain ⟨f0, f1, f2, f3, f4, f5⟩ := h10.P.fsix)
          have h11 := h10.put 5 (.slice A3 n3 c3) rfl
          obtain ⟨W7, hW7⟩ : ∃ W7, W6.setCell ⟨p, 5, none⟩ (.slice A3 n3 c3) = W7 := ⟨_, rfl⟩
          rw [hW7] at h11 ⊢
          replace h11 : Sp9 w W7 ga gp gb gt gd p r A n c m3 l #[.int .i64 1, .bool neg, .slice A1 n1 c1, .slice A2 n2 c2, .bool t, .slice A3 n3 c3] := h11
          clear hW7 h10 k4 C4 CD ct p0 p1 p2 p3 p4 p5 f0 f1 f2 f3 f4 f5 h9
          obtain ⟨p0, p1, p2, p3, p4, p5⟩ := h11.P.six
          rcases Nat.eq_zero_or_pos n3 with h0 | h0
          · have d : ((n3 : Int) == 0) = true := by rw [beq_iff_eq]; omega
            have em : m3 = i4 := by have := HN3.out; omega
            have HSC : Hid (M.scan l = .error m3) := by
              show _ = _
              rw [em]
              refine HX.out.none (by show M.wh s4 = false; rcases (show s4 = 6 ∨ s4 = 7 by omega) with rfl | rfl <;> rfl) (fun hlt => ?_)
              have hlt2 : i4 < n := by have := HNUM.out; omega
              have hnd2 := hnd.out
              rw [em] at hnd2
              show M.nx s4 (l.getD i4 0).toNat = 99
              rcases HK4.out with ⟨e1, e2⟩ | e1
              · exact M.nx_dead (hnd2 hlt2) (fun h => by omega) (fun h => by omega) (fun h => by omega) (fun _ => e2 hlt2) (by omega)
              · exact M.nx_dead (hnd2 hlt2) (fun h => by omega) (fun h => by omega) (fun h => by omega) (fun h => by omega) (by omega)
            have H11 := Lib.hid h11
            clear em h11
            go_wp2_with fail
            go_step3
            exact HNone.out _ _ _ _ _ _ _ _ _ _ _ _ _ _ _ _ _ _ _ _ _ _ _ _ _ _ _ _ _ _ _ _ _ _ _ _ _ _ _ _ _ _ _ _ _ _ _ _ _ _ _ _ _ _ _ _ _ _ _ _ _ _ _ _ _ _ _ _ _ _ _ _ _ _ _ _ _ _ _ _ _ _ _ _ _ _ _ _ H11.out HSC.out
          · have d : ((n3 : Int) == 0) = false := by rw [beq_eq_false_iff_ne]; omega
            have em : m3 ≠ i4 := by have := HN3.out; omega
            obtain ⟨x, hx⟩ : ∃ x : M.Sc, ⟨8, neg, l1 ++ l2, n2, t, l3⟩ = x := ⟨_, rfl⟩
            have HRD : Hid (M.Rdn l m3 x) := by
              have k := HX3.out
              rw [if_neg em, hx] at k
              exact k
            have HWH : Hid (M.wh x.st = true) := by show _ = _; rw [← hx]; rfl
            have HNX : Hid (m3 < n → M.nx x.st (l.getD m3 0).toNat = 99) := by
              show _ → _
              intro hlt
              rw [← hx]
              show M.nx 8 (l.getD m3 0).toNat = 99
              exact M.nx_dead (hnd.out hlt) (fun h => by omega) (fun h => by omega) (fun h => by omega) (fun h => by omega) (by omega)
            have HNG : Hid (neg = x.neg) := by show _ = _; rw [← hx]
            have HK : Hid ((1 : Int) = ((if 10 ≤ x.st then x.st / 10 + 1 else 1 : Nat) : Int)) := by show _ = _; rw [← hx]; rfl
            have HPR : Hid (x.st < 10 → Sb w A1 n1 c1 l1 ∧ Sb w A2 n2 c2 l2 ∧ Sb w A3 n3 c3 l3 ∧ l1 ++ l2 = x.ds ∧ n2 = x.bh ∧ t = x.dn ∧ l3 = x.pw ∧ M.allD x.ds = true ∧ M.allD x.pw = true) := by
              show _ → _
              intro _
              rw [← hx]
              exact ⟨HS1.out, HS2.out, HS3.out, rfl, rfl, rfl, rfl, HDD.out, D3.out⟩
            clear em hx HX HX3 HK4 hnd HN3 HM3 p0 p1 p2 p3 p4 p5 hs4 q8 q9
            obtain ⟨p0, p1, p2, p3, p4, p5⟩ := h11.P.six
            go_upto_region 25 with fail
            go_step3
            clear p0 p1 p2 p3 p4 p5
            have h := h11
            clear h11
            have HH := Lib.hid h
            have ca := h.C.a.get 0
            have cd := h.C.d.get 0
            obtain ⟨r0, r1, r2, r3, r4, r5⟩ := h.R.six
            obtain ⟨f0, f1, f2, f3, f4, f5⟩ := h.R.fsix
            simp only [List.getElem?_toArray, List.getElem?_cons_zero] at ca cd
            have Uw := h.C.up
            have ra := h.ra
            have RR := h.R
            have lr := h.lr
            by_cases hin : m3 = n
            · subst hin
              have d : ((m3 : Int) == (m3 : Int)) = true := by simp
              have HSC : Hid (M.scan l = .ok x) := HRD.out.fin HNUM.out.symm HWH.out
              have HP := h.P
              obtain ⟨p0, p1, p2, p3, p4, p5⟩ := HP.six
              clear h HP r0 r1 r2 r3 r4 r5 f0 f1 f2 f3 f4 f5
              go_wp2_with (refine store_ob2 rfl 106 (.tmp 2) (.tmp 76) rfl _ #[.int .i64 0, .bool false, .slice none 0 0, .slice none 0 0, .bool false, .slice none 0 0] #[.int .i64 1, .bool neg, .slice A1 n1 c1, .slice A2 n2 c2, .bool t, .slice A3 n3 c3] rfl rfl 6 (by kernel_rfl) rfl rfl (by simp [Value.oneCell']) w Uw lr 106 RR ?_; clear Uw; intro V9 Z9 U9 ho)
              obtain ⟨r0, r1, r2, r3, r4, r5⟩ := Z9.six
              refine hret.out _ _ _ ?_
              refine bodyPost_ret (v := .tuple #[ptv 1 neg A1 n1 c1 A2 n2 c2 t A3 n3 c3, .int .i64 0, .bool true]) (by simp [results, Tryz.results77, go_sem, r0, r1, r2, r3, r4, r5]) rfl ?_
              refine .inr ⟨x, HSC.out, A1, A2, A3, n1, c1, n2, c2, n3, c3, t, l1, l2, l3, 1, neg, rfl, U9, HNG.out, HK.out, fun hx => ?_⟩
              obtain ⟨k1, k2, k3, k4⟩ := HPR.out hx
              exact ⟨k1.up U9, k2.up U9, k3.up U9, k4⟩
            · have d : ((m3 : Int) == (n : Int)) = false := by rw [beq_eq_false_iff_ne]; omega
              have HSC : Hid (M.scan l = .error m3) := HRD.out.stop (by have := HRD.out.le; have := HNUM.out; omega) (HNX.out (by have := HRD.out.le; have := HNUM.out; omega))
              clear h
              go_wp2_with fail
              go_step3
              go_wp2_with fail
              have e1 : (⟨r, 0, none⟩ : Addr) ≠ ⟨ga, 0, none⟩ := fun e => ra (congrArg Addr.block e)
              go_region
              obtain ⟨V, hV⟩ : ∃ V, ((((((W7.setCell ⟨r, 0, none⟩ (.int .i64 0)).setCell ⟨r, 1, none⟩ (.bool false)).setCell ⟨r, 2, none⟩ (.slice none 0 0)).setCell ⟨r, 3, none⟩ (.slice none 0 0)).setCell ⟨r, 4, none⟩ (.bool false)).setCell ⟨r, 5, none⟩ (.slice none 0 0)).drew = V := ⟨_, rfl⟩
              have UV : Up w V := by rw [← hV]; exact ((((((Uw.setCell (p := ⟨r, 0, none⟩) lr _).setCell (p := ⟨r, 1, none⟩) lr _).setCell (p := ⟨r, 2, none⟩) lr _).setCell (p := ⟨r, 3, none⟩) lr _).setCell (p := ⟨r, 4, none⟩) lr _).setCell (p := ⟨r, 5, none⟩) lr _).drew
              have RV : Ob V r 106 #[.int .i64 0, .bool false, .slice none 0 0, .slice none 0 0, .bool false, .slice none 0 0] := by rw [← hV]; exact ((((((RR.put 0 _).put 1 _).put 2 _).put 3 _).put 4 _).put 5 _).drewN 1
              rw [hV]
              clear hV r0 r1 r2 r3 r4 r5 f0 f1 f2 f3 f4 f5 RR e1 ca Uw
              obtain ⟨r0, r1, r2, r3, r4, r5⟩ := RV.six
              go_wp2_with fail
              refine hret.out _ _ _ ?_
              refine bodyPost_ret (v := .tuple #[ptv 0 false none 0 0 none 0 0 false none 0 0, .int .i64 (m3 : Int), .bool false]) (by simp [results, Tryz.results77, go_sem, r0, r1, r2, r3, r4, r5]) rfl ?_
              exact .inl ⟨m3, HSC.out, rfl, UV⟩
set_option maxHeartbeats 16000000 in
set_option maxRecDepth 100000 in
theorem sp_w0 (w : World) (A : Option Addr) (n c : Nat) (l : List UInt8) (HS : Hid (Sb w A n c l)) (hn : n ≤ 100000000) (L : Nat → Exit → Act → World → Prop) (hret : Hid (∀ n a W, bodyPost Tryz.prog Tryz.f77 (Spl l w) .ret a W → L n .ret a W)) (cc : Code) (hcc : ∃ r0, Tryz.f77.body = some (.seq r0 (.scope cc)))
    (hgo : Hid (∀ n l rest a W, findLabel cc l = some rest → rest.wp Tryz.prog (L n) a W → L (n + 1) (.goto l) a W)) (HEnd : Hid (∀ (k ga gp gb gt gd p r : Nat) (ps : Array Value) (i : Nat) (x : M.Sc) (u0_ u3_ u4_ u7_ u8_ u9_ u10_ u11_ u12_ u13_ u14_ u15_ u16_ u17_ u18_ u19_ u20_ u21_ u22_ u23_ u24_ u25_ u26_ u27_ u28_ u29_ u30_ u31_ u32_ u33_ u34_ u35_ u36_ u37_ u38_ u39_ u40_ u41_ u42_ u43_ u44_ u45_ u46_ u47_ u48_ u49_ u50_ u51_ u52_ u53_ u54_ u55_ u56_ u57_ u58_ u59_ u60_ u61_ u62_ u63_ u64_ u65_ u66_ u67_ u68_ u69_ u70_ u71_ u72_ u73_ u74_ u75_ u76_ u77_ u78_ : Value) (W : World), Sp9 w W ga gp gb gt gd p r A n c i l ps → M.Rdn l i x → M.wh x.st = true → (i < n → M.nx x.st (l.getD i 0).toNat = 99) → Prt w x ps → L (k + 1) (.goto 1) { tmps := #[u0_, .pointer (some ⟨gd, 0, none⟩), .pointer (some ⟨r, 0, none⟩), u3_, u4_, .pointer (some ⟨p, 0, none⟩), .pointer (some ⟨ga, 0, none⟩), u7_, u8_, u9_, u10_, u11_, u12_, u13_, u14_, u15_, u16_, u17_, u18_, u19_, u20_, u21_, u22_, u23_, u24_, u25_, u26_, u27_, u28_, u29_, u30_, u31_, u32_, u33_, u34_, u35_, u36_, u37_, u38_, u39_, u40_, u41_, u42_, u43_, u44_, u45_, u46_, u47_, u48_, u49_, u50_, u51_, u52_, u53_, u54_, u55_, u56_, u57_, u58_, u59_, u60_, u61_, u62_, u63_, u64_, u65_, u66_, u67_, u68_, u69_, u70_, u71_, u72_, u73_, u74_, u75_, u76_, u77_, u78_], defers := [] } W)) : Hid (∀ (k ga gp gb gt gd p r i : Nat) (K : Int) (neg : Bool) (x : M.Sc) (u0_ u3_ u4_ u10_ u11_ u12_ u13_ u14_ u15_ u16_ u17_ u18_ u19_ u20_ u21_ u22_ u23_ u24_ u25_ u26_ u27_ u28_ u29_ u30_ u31_ u32_ u33_ u34_ u35_ u36_ u37_ u38_ u39_ u40_ u41_ u42_ u43_ u44_ u45_ u46_ u47_ u48_ u49_ u50_ u51_ u52_ u53_ u54_ u55_ u56_ u57_ u58_ u59_ u60_ u61_ u62_ u63_ u64_ u65_ u66_ u67_ u68_ u69_ u70_ u71_ u72_ u73_ u74_ u75_ u76_ u77_ u78_ : Value) (W : World), Sp9 w W ga gp gb gt gd p r A n c i l #[.int .i64 K, .bool neg, .slice none 0 0, .slice none 0 0, .bool false, .slice none 0 0] → M.Rdn l i x → (x.st = 12 ∨ x.st = 22 ∨ x.st = 32) → neg = x.neg → K = ((x.st / 10 + 1 : Nat) : Int) → L (k + 2) (.goto 2) { tmps := #[u0_, .pointer (some ⟨gd, 0, none⟩), .pointer (some ⟨r, 0, none⟩), u3_, u4_, .pointer (some ⟨p, 0, none⟩), .pointer (some ⟨ga, 0, none⟩), .string ⟨#[]⟩, .pointer (some ⟨gt, 0, none⟩), .func (Fn.func 98) #[] #[.pointer (some ⟨ga, 0, none⟩), .pointer (some ⟨gt, 0, none⟩), .pointer (some ⟨gd, 0, none⟩)], u10_, u11_, u12_, u13_, u14_, u15_, u16_, u17_, u18_, u19_, u20_, u21_, u22_, u23_, u24_, u25_, u26_, u27_, u28_, u29_, u30_, u31_, u32_, u33_, u34_, u35_, u36_, u37_, u38_, u39_, u40_, u41_, u42_, u43_, u44_, u45_, u46_, u47_, u48_, u49_, u50_, u51_, u52_, u53_, u54_, u55_, u56_, u57_, u58_, u59_, u60_, u61_, u62_, u63_, u64_, u65_, u66_, u67_, u68_, u69_, u70_, u71_, u72_, u73_, u74_, u75_, u76_, u77_, u78_], defers := [] } W) := by
  obtain ⟨r0, hcc⟩ := hcc
  have hb : Tryz.f77.body = some _ := rfl
  rw [hb] at hcc
  injection hcc with hcc
  injection hcc with _ hcc
  injection hcc with hcc
  subst hcc
  clear hb
  show ∀ (k ga gp gb gt gd p r i : Nat) (K : Int) (neg : Bool) (x : M.Sc) (u0_ u3_ u4_ u10_ u11_ u12_ u13_ u14_ u15_ u16_ u17_ u18_ u19_ u20_ u21_ u22_ u23_ u24_ u25_ u26_ u27_ u28_ u29_ u30_ u31_ u32_ u33_ u34_ u35_ u36_ u37_ u38_ u39_ u40_ u41_ u42_ u43_ u44_ u45_ u46_ u47_ u48_ u49_ u50_ u51_ u52_ u53_ u54_ u55_ u56_ u57_ u58_ u59_ u60_ u61_ u62_ u63_ u64_ u65_ u66_ u67_ u68_ u69_ u70_ u71_ u72_ u73_ u74_ u75_ u76_ u77_ u78_ : Value) (W : World), Sp9 w W ga gp gb gt gd p r A n c i l #[.int .i64 K, .bool neg, .slice none 0 0, .slice none 0 0, .bool false, .slice none 0 0] → M.Rdn l i x → (x.st = 12 ∨ x.st = 22 ∨ x.st = 32) → neg = x.neg → K = ((x.st / 10 + 1 : Nat) : Int) → L (k + 2) (.goto 2) { tmps := #[u0_, .pointer (some ⟨gd, 0, none⟩), .pointer (some ⟨r, 0, none⟩), u3_, u4_, .pointer (some ⟨p, 0, none⟩), .pointer (some ⟨ga, 0, none⟩), .string ⟨#[]⟩, .pointer (some ⟨gt, 0, none⟩), .func (Fn.func 98) #[] #[.pointer (some ⟨ga, 0, none⟩), .pointer (some ⟨gt, 0, none⟩), .pointer (some ⟨gd, 0, none⟩)], u10_, u11_, u12_, u13_, u14_, u15_, u16_, u17_, u18_, u19_, u20_, u21_, u22_, u23_, u24_, u25_, u26_, u27_, u28_, u29_, u30_, u31_, u32_, u33_, u34_, u35_, u36_, u37_, u38_, u39_, u40_, u41_, u42_, u43_, u44_, u45_, u46_, u47_, u48_, u49_, u50_, u51_, u52_, u53_, u54_, u55_, u56_, u57_, u58_, u59_, u60_, u61_, u62_, u63_, u64_, u65_, u66_, u67_, u68_, u69_, u70_, u71_, u72_, u73_, u74_, u75_, u76_, u77_, u78_], defers := [] } W
  intro k ga gp gb gt gd p r i K neg x u0_ u3_ u4_ u10_ u11_ u12_ u13_ u14_ u15_ u16_ u17_ u18_ u19_ u20_ u21_ u22_ u23_ u24_ u25_ u26_ u27_ u28_ u29_ u30_ u31_ u32_ u33_ u34_ u35_ u36_ u37_ u38_ u39_ u40_ u41_ u42_ u43_ u44_ u45_ u46_ u47_ u48_ u49_ u50_ u51_ u52_ u53_ u54_ u55_ u56_ u57_ u58_ u59_ u60_ u61_ u62_ u63_ u64_ u65_ u66_ u67_ u68_ u69_ u70_ u71_ u72_ u73_ u74_ u75_ u76_ u77_ u78_ W h hrd hst2 hng hK
  refine hgo.out _ _ _ _ _ rfl ?_
  have e0 : ((⟨#[]⟩ : ByteArray) == ⟨#[]⟩) = true := rfl
  have H := Lib.hid h
  have HRD := Lib.hid hrd
  have HST := Lib.hid hst2
  have HNG := Lib.hid hng
  have HK := Lib.hid hK
  clear h hrd hst2 hng hK
  go_wp2_with fail
  go_step3
  refine HEnd.out _ _ _ _ _ _ _ _ _ _ x _ _ _ _ _ _ _ _ _ _ _ _ _ _ _ _ _ _ _ _ _ _ _ _ _ _ _ _ _ _ _ _ _ _ _ _ _ _ _ _ _ _ _ _ _ _ _ _ _ _ _ _ _ _ _ _ _ _ _ _ _ _ _ _ _ _ _ _ _ _ _ _ _ _ _ _ H.out HRD.out ?_ (fun _ => M.nx_over _ HST.out) ?_
  · rcases HST.out with e | e | e <;> rw [e] <;> rfl
  · refine ⟨none, none, none, 0, 0, 0, 0, 0, 0, false, [], [], [], K, neg, rfl, HNG.out, ?_, fun hx => ?_⟩
    · rw [HK.out]
      rcases HST.out with e | e | e <;> rw [e] <;> rfl
    · have := HST.out
      omega
set_option maxHeartbeats 16000000 in
set_option maxRecDepth 100000 in
theorem sp_w1 (w : World) (A : Option Addr) (n c : Nat) (l : List UInt8) (HS : Hid (Sb w A n c l)) (hn : n ≤ 100000000) (L : Nat → Exit → Act → World → Prop) (hret : Hid (∀ n a W, bodyPost Tryz.prog Tryz.f77 (Spl l w) .ret a W → L n .ret a W)) (cc : Code) (hcc : ∃ r0, Tryz.f77.body = some (.seq r0 (.scope cc)))
    (hgo : Hid (∀ n l rest a W, findLabel cc l = some rest → rest.wp Tryz.prog (L n) a W → L (n + 1) (.goto l) a W)) (HNone : Hid (∀ (k ga gp gb gt gd p r : Nat) (ps : Array Value) (i : Nat) (u0_ u1_ u3_ u4_ u5_ u7_ u8_ u9_ u10_ u11_ u12_ u13_ u14_ u15_ u16_ u17_ u18_ u19_ u20_ u21_ u22_ u23_ u24_ u25_ u26_ u27_ u28_ u29_ u30_ u31_ u32_ u33_ u34_ u35_ u36_ u37_ u38_ u39_ u40_ u41_ u42_ u43_ u44_ u45_ u46_ u47_ u48_ u49_ u50_ u51_ u52_ u53_ u54_ u55_ u56_ u57_ u58_ u59_ u60_ u61_ u62_ u63_ u64_ u65_ u66_ u67_ u68_ u69_ u70_ u71_ u72_ u73_ u74_ u75_ u76_ u77_ u78_ : Value) (W : World), Sp9 w W ga gp gb gt gd p r A n c i l ps → M.scan l = .error i → L (k + 1) (.goto 3) { tmps := #[u0_, u1_, .pointer (some ⟨r, 0, none⟩), u3_, u4_, u5_, .pointer (some ⟨ga, 0, none⟩), u7_, u8_, u9_, u10_, u11_, u12_, u13_, u14_, u15_, u16_, u17_, u18_, u19_, u20_, u21_, u22_, u23_, u24_, u25_, u26_, u27_, u28_, u29_, u30_, u31_, u32_, u33_, u34_, u35_, u36_, u37_, u38_, u39_, u40_, u41_, u42_, u43_, u44_, u45_, u46_, u47_, u48_, u49_, u50_, u51_, u52_, u53_, u54_, u55_, u56_, u57_, u58_, u59_, u60_, u61_, u62_, u63_, u64_, u65_, u66_, u67_, u68_, u69_, u70_, u71_, u72_, u73_, u74_, u75_, u76_, u77_, u78_], defers := [] } W)) (HW0 : Hid (∀ (k ga gp gb gt gd p r i : Nat) (K : Int) (neg : Bool) (x : M.Sc) (u0_ u3_ u4_ u10_ u11_ u12_ u13_ u14_ u15_ u16_ u17_ u18_ u19_ u20_ u21_ u22_ u23_ u24_ u25_ u26_ u27_ u28_ u29_ u30_ u31_ u32_ u33_ u34_ u35_ u36_ u37_ u38_ u39_ u40_ u41_ u42_ u43_ u44_ u45_ u46_ u47_ u48_ u49_ u50_ u51_ u52_ u53_ u54_ u55_ u56_ u57_ u58_ u59_ u60_ u61_ u62_ u63_ u64_ u65_ u66_ u67_ u68_ u69_ u70_ u71_ u72_ u73_ u74_ u75_ u76_ u77_ u78_ : Value) (W : World), Sp9 w W ga gp gb gt gd p r A n c i l #[.int .i64 K, .bool neg, .slice none 0 0, .slice none 0 0, .bool false, .slice none 0 0] → M.Rdn l i x → (x.st = 12 ∨ x.st = 22 ∨ x.st = 32) → neg = x.neg → K = ((x.st / 10 + 1 : Nat) : Int) → L (k + 2) (.goto 2) { tmps := #[u0_, .pointer (some ⟨gd, 0, none⟩), .pointer (some ⟨r, 0, none⟩), u3_, u4_, .pointer (some ⟨p, 0, none⟩), .pointer (some ⟨ga, 0, none⟩), .string ⟨#[]⟩, .pointer (some ⟨gt, 0, none⟩), .func (Fn.func 98) #[] #[.pointer (some ⟨ga, 0, none⟩), .pointer (some ⟨gt, 0, none⟩), .pointer (some ⟨gd, 0, none⟩)], u10_, u11_, u12_, u13_, u14_, u15_, u16_, u17_, u18_, u19_, u20_, u21_, u22_, u23_, u24_, u25_, u26_, u27_, u28_, u29_, u30_, u31_, u32_, u33_, u34_, u35_, u36_, u37_, u38_, u39_, u40_, u41_, u42_, u43_, u44_, u45_, u46_, u47_, u48_, u49_, u50_, u51_, u52_, u53_, u54_, u55_, u56_, u57_, u58_, u59_, u60_, u61_, u62_, u63_, u64_, u65_, u66_, u67_, u68_, u69_, u70_, u71_, u72_, u73_, u74_, u75_, u76_, u77_, u78_], defers := [] } W)) : Hid (∀ (k ga gp gb gt gd p r i : Nat) (K : Int) (neg : Bool) (x : M.Sc) (c1 : UInt8) (u0_ u3_ u4_ u10_ u11_ u12_ u13_ u14_ u15_ u16_ u17_ u18_ u19_ u20_ u21_ u22_ u23_ u24_ u25_ u26_ u27_ u28_ u29_ u30_ u31_ u32_ u33_ u34_ u35_ u36_ u37_ u38_ u39_ u40_ u41_ u42_ u43_ u44_ u45_ u46_ u47_ u48_ u49_ u50_ u51_ u52_ u53_ u54_ u55_ u56_ u57_ u58_ u59_ u60_ u61_ u62_ u63_ u64_ u65_ u66_ u67_ u68_ u69_ u70_ u71_ u72_ u73_ u74_ u75_ u76_ u77_ u78_ : Value) (W : World), Sp9 w W ga gp gb gt gd p r A n c i l #[.int .i64 K, .bool neg, .slice none 0 0, .slice none 0 0, .bool false, .slice none 0 0] → M.Rdn l i x → ((x.st = 11 ∧ c1.toNat = 102) ∨ (x.st = 21 ∧ c1.toNat = 110) ∨ (x.st = 31 ∧ c1.toNat = 82)) → neg = x.neg → K = ((x.st / 10 + 1 : Nat) : Int) → L (k + 3) (.goto 2) { tmps := #[u0_, .pointer (some ⟨gd, 0, none⟩), .pointer (some ⟨r, 0, none⟩), u3_, u4_, .pointer (some ⟨p, 0, none⟩), .pointer (some ⟨ga, 0, none⟩), .string ⟨#[c1]⟩, .pointer (some ⟨gt, 0, none⟩), .func (Fn.func 98) #[] #[.pointer (some ⟨ga, 0, none⟩), .pointer (some ⟨gt, 0, none⟩), .pointer (some ⟨gd, 0, none⟩)], u10_, u11_, u12_, u13_, u14_, u15_, u16_, u17_, u18_, u19_, u20_, u21_, u22_, u23_, u24_, u25_, u26_, u27_, u28_, u29_, u30_, u31_, u32_, u33_, u34_, u35_, u36_, u37_, u38_, u39_, u40_, u41_, u42_, u43_, u44_, u45_, u46_, u47_, u48_, u49_, u50_, u51_, u52_, u53_, u54_, u55_, u56_, u57_, u58_, u59_, u60_, u61_, u62_, u63_, u64_, u65_, u66_, u67_, u68_, u69_, u70_, u71_, u72_, u73_, u74_, u75_, u76_, u77_, u78_], defers := [] } W) := by
  obtain ⟨r0, hcc⟩ := hcc
  have hb : Tryz.f77.body = some _ := rfl
  rw [hb] at hcc
  injection hcc with hcc
  injection hcc with _ hcc
  injection hcc with hcc
  subst hcc
  clear hb
  show ∀ (k ga gp gb gt gd p r i : Nat) (K : Int) (neg : Bool) (x : M.Sc) (c1 : UInt8) (u0_ u3_ u4_ u10_ u11_ u12_ u13_ u14_ u15_ u16_ u17_ u18_ u19_ u20_ u21_ u22_ u23_ u24_ u25_ u26_ u27_ u28_ u29_ u30_ u31_ u32_ u33_ u34_ u35_ u36_ u37_ u38_ u39_ u40_ u41_ u42_ u43_ u44_ u45_ u46_ u47_ u48_ u49_ u50_ u51_ u52_ u53_ u54_ u55_ u56_ u57_ u58_ u59_ u60_ u61_ u62_ u63_ u64_ u65_ u66_ u67_ u68_ u69_ u70_ u71_ u72_ u73_ u74_ u75_ u76_ u77_ u78_ : Value) (W : World), Sp9 w W ga gp gb gt gd p r A n c i l #[.int .i64 K, .bool neg, .slice none 0 0, .slice none 0 0, .bool false, .slice none 0 0] → M.Rdn l i x → ((x.st = 11 ∧ c1.toNat = 102) ∨ (x.st = 21 ∧ c1.toNat = 110) ∨ (x.st = 31 ∧ c1.toNat = 82)) → neg = x.neg → K = ((x.st / 10 + 1 : Nat) : Int) → L (k + 3) (.goto 2) { tmps := #[u0_, .pointer (some ⟨gd, 0, none⟩), .pointer (some ⟨r, 0, none⟩), u3_, u4_, .pointer (some ⟨p, 0, none⟩), .pointer (some ⟨ga, 0, none⟩), .string ⟨#[c1]⟩, .pointer (some ⟨gt, 0, none⟩), .func (Fn.func 98) #[] #[.pointer (some ⟨ga, 0, none⟩), .pointer (some ⟨gt, 0, none⟩), .pointer (some ⟨gd, 0, none⟩)], u10_, u11_, u12_, u13_, u14_, u15_, u16_, u17_, u18_, u19_, u20_, u21_, u22_, u23_, u24_, u25_, u26_, u27_, u28_, u29_, u30_, u31_, u32_, u33_, u34_, u35_, u36_, u37_, u38_, u39_, u40_, u41_, u42_, u43_, u44_, u45_, u46_, u47_, u48_, u49_, u50_, u51_, u52_, u53_, u54_, u55_, u56_, u57_, u58_, u59_, u60_, u61_, u62_, u63_, u64_, u65_, u66_, u67_, u68_, u69_, u70_, u71_, u72_, u73_, u74_, u75_, u76_, u77_, u78_], defers := [] } W
  intro k ga gp gb gt gd p r i K neg x c1 u0_ u3_ u4_ u10_ u11_ u12_ u13_ u14_ u15_ u16_ u17_ u18_ u19_ u20_ u21_ u22_ u23_ u24_ u25_ u26_ u27_ u28_ u29_ u30_ u31_ u32_ u33_ u34_ u35_ u36_ u37_ u38_ u39_ u40_ u41_ u42_ u43_ u44_ u45_ u46_ u47_ u48_ u49_ u50_ u51_ u52_ u53_ u54_ u55_ u56_ u57_ u58_ u59_ u60_ u61_ u62_ u63_ u64_ u65_ u66_ u67_ u68_ u69_ u70_ u71_ u72_ u73_ u74_ u75_ u76_ u77_ u78_ W h hrd hst2 hng hK
  refine hgo.out _ _ _ _ _ rfl ?_
  have e0 : ((⟨#[c1]⟩ : ByteArray) == ⟨#[]⟩) = false := rfl
  have e1 : (⟨#[c1]⟩ : ByteArray).extract 0 1 = ⟨#[c1]⟩ := rfl
  have e2 : (⟨#[c1]⟩ : ByteArray).extract 1 1 = ⟨#[]⟩ := rfl
  have e3 : (⟨#[c1]⟩ : ByteArray).size = 1 := rfl
  have HNUM : Hid (l.length = n) := HS.out.num
  have HRD := Lib.hid hrd
  have HST := Lib.hid hst2
  have HNG := Lib.hid hng
  have HK := Lib.hid hK
  clear hrd hst2 hng hK
  obtain ⟨t9, ht9⟩ : ∃ t, (decide (i < n) && [c1].contains (l.getD i 0)) = t := ⟨_, rfl⟩
  have Ht9 := Lib.hid ht9
  clear ht9
  have hin : i ≤ n := by have := HRD.out.le; have := HNUM.out; omega
  have TKC := Lib.hid (took_any W ga gp gb i n c A l ⟨#[c1]⟩ [c1] rfl h.C.p h.C.b h.C.a (h.C.s.up h.C.up) hin (by omega) t9 Ht9)
  have hd := h.drew 1
  have TKD := Lib.hid (took_any W.drew ga gp gb i n c A l ⟨#[c1]⟩ [c1] rfl hd.C.p hd.C.b hd.C.a (hd.C.s.up hd.C.up) hin (by omega) t9 Ht9)
  have ct := h.C.t.get 0
  simp only [List.getElem?_toArray, List.getElem?_cons_zero] at ct
  clear hd
  go_upto_region 13 with fail
  go_region_held3 (fun w' => w'.cell? ⟨gt, 0, none⟩ = some (.func (Fn.func 117) #[] #[.pointer (some ⟨gp, 0, none⟩), .pointer (some ⟨gb, 0, none⟩)])) (go_keep)
    (first | (go_at_call 117; (with_reducible refine TKC.out.mono ?_); rintro _ W9 ⟨rfl, k9, a9⟩; have kct := (k9.cell (p := ⟨gt, 0, none⟩) h.C.t.lt h.C.nt h.C.nt).trans ct) | (go_at_call 117; (with_reducible refine TKD.out.mono ?_); rintro _ W9 ⟨rfl, k9, a9⟩; have kct := (k9.cell (p := ⟨gt, 0, none⟩) h.C.t.lt h.C.nt h.C.nt).trans ct))
  all_goals
    have h9 : Sp9 w W9 ga gp gb gt gd p r A n c (if t9 = true then i + 1 else i) l #[.int .i64 K, .bool neg, .slice none 0 0, .slice none 0 0, .bool false, .slice none 0 0] := by
      first | exact h.took k9 a9 | exact (h.drew 1).took k9 a9
    clear k9 a9 kct ct TKC TKD h
    have H9 := Lib.hid h9
    clear h9
    cases t9 with
    | false =>
      have HSC : Hid (M.scan l = .error i) := by
        refine HRD.out.none (by show M.wh x.st = false; have := HST.out; rcases (show x.st = 10 ∨ x.st = 20 ∨ x.st = 30 ∨ x.st = 11 ∨ x.st = 21 ∨ x.st = 31 by omega) with e | e | e | e | e | e <;> rw [e] <;> rfl) (fun hlt => ?_)
        have k := M.has_no Ht9.out (by have := HNUM.out; omega)
        rw [M.has_one] at k
        rw [M.nx_word (c := c1.toNat) _ (by have := HST.out; omega), if_neg (of_decide_eq_false k)]
      go_wp2_with fail
      go_step3
      exact HNone.out _ _ _ _ _ _ _ _ _ _ _ _ _ _ _ _ _ _ _ _ _ _ _ _ _ _ _ _ _ _ _ _ _ _ _ _ _ _ _ _ _ _ _ _ _ _ _ _ _ _ _ _ _ _ _ _ _ _ _ _ _ _ _ _ _ _ _ _ _ _ _ _ _ _ _ _ _ _ _ _ _ _ _ _ _ _ _ _ H9.out HSC.out
    | true =>
      obtain ⟨hlt, hpt⟩ := M.has_yes Ht9.out
      rw [M.has_one, decide_eq_true_iff] at hpt
      have hn : M.nx x.st (l.getD i 0).toNat = x.st + 1 := by rw [M.nx_word (c := c1.toNat) _ (by have := HST.out; omega), if_pos hpt]
      have HX9 := Lib.hid (HRD.out.step (by rw [HNUM.out]; exact hlt) (by rw [hn]; have := HST.out; omega))
      have HN9 := Lib.hid hn
      clear hpt hn
      go_wp2_with fail
      go_step3
      refine HW0.out _ _ _ _ _ _ _ _ _ _ _ _ _ _ _ _ _ _ _ _ _ _ _ _ _ _ _ _ _ _ _ _ _ _ _ _ _ _ _ _ _ _ _ _ _ _ _ _ _ _ _ _ _ _ _ _ _ _ _ _ _ _ _ _ _ _ _ _ _ _ _ _ _ _ _ _ _ _ _ _ _ _ _ _ _ H9.out HX9.out ?_ ?_ ?_
      · show _ ∨ _
        have e : (M.stp x (l.getD i 0)).st = x.st + 1 := HN9.out
        have := HST.out
        rw [e]
        omega
      · rw [HNG.out]
        have e := HN9.out
        have := HST.out
        show x.neg = (if M.nx x.st (l.getD i 0).toNat = 1 then true else x.neg)
        rw [if_neg (by omega)]
      · rw [HK.out]
        have e : (M.stp x (l.getD i 0)).st = x.st + 1 := HN9.out
        have := HST.out
        rw [e]
        congr 1
        omega
set_option maxHeartbeats 16000000 in
set_option maxRecDepth 100000 in
theorem ssplit_any (w : World) (A : Option Addr) (n c : Nat) (l : List UInt8) (hS : Sb w A n c l) (hn : n ≤ 100000000) :
    Calls Tryz.prog 77 #[.slice A n c] w (Spl l w) := by
  have hmf : ∀ (fn : Fn) (first cap : Array Value) (w : World), (Instr.makeFunc fn first cap).run Tryz.prog w = .ok (.func fn first cap) w := fun _ _ _ _ => rfl
  have hst : ∀ (W : World) (a : Addr) (fn : Fn) (first cap : Array Value), (store a (.func fn first cap)).run Tryz.prog W = stored Tryz.prog W a (.func fn first cap) .plain := fun W a fn first cap => run_store Tryz.prog W a _ .plain rfl
  have HS := Lib.hid hS
  have U := Up.refl w
  clear hS
  go_enter Tryz.func77, Tryz.ntmps77
  go_wp2_with fail
  obtain ⟨V1, hV1⟩ : ∃ V1, (w.alloc (.cells #[.slice A n c] 67)).alloc (.cells #[.int .i64 0, .bool false, .slice none 0 0, .slice none 0 0, .bool false, .slice none 0 0] 106) = V1 := ⟨_, rfl⟩
  have hsz : (w.alloc (.cells #[.slice A n c] 67)).heap.size = w.heap.size + 1 := Array.size_push _
  have D : Ob V1 w.heap.size 67 #[.slice A n c] := by rw [← hV1]; exact (Ob.mk_ w _ _).up ((Up.refl _).alloc _)
  have R : Ob V1 (w.heap.size + 1) 106 #[.int .i64 0, .bool false, .slice none 0 0, .slice none 0 0, .bool false, .slice none 0 0] := by rw [← hV1, ← hsz]; exact Ob.mk_ _ _ _
  replace U : Up w V1 := by rw [← hV1]; exact (U.alloc _).alloc _
  rw [hV1]
  clear hV1 hsz
  have hR1 := R.lt
  refine wp_scope_gen 6 fun L hret0 hgo0 => ?_
  have hret := Lib.hid hret0
  have hgo := Lib.hid hgo0
  clear hret0 hgo0
  have HNone := sp_none w A n c l HS hn L hret _ ⟨_, rfl⟩ hgo
  have HEnd := sp_end w A n c l HS hn L hret _ ⟨_, rfl⟩ hgo
  have HNu := sp_num w A n c l HS hn L hret _ ⟨_, rfl⟩ hgo HNone HEnd
  have HW0 := sp_w0 w A n c l HS hn L hret _ ⟨_, rfl⟩ hgo HEnd
  have HW1 := sp_w1 w A n c l HS hn L hret _ ⟨_, rfl⟩ hgo HNone HW0
  clear hret hgo HEnd HW0
  go_upto_region 2 with (refine store_ob rfl 106 (.tmp 5) (.tmp 10) rfl _ #[.int .i64 0, .bool false, .slice none 0 0, .slice none 0 0, .bool false, .slice none 0 0] #[.int .i64 1, .bool false, .slice none 0 0, .slice none 0 0, .bool false, .slice none 0 0] rfl rfl 6 (by kernel_rfl) rfl rfl (by simp [Value.oneCell']) V1 ((Up.refl _).alloc _) (Nat.le_refl _) 106 (Ob.mk_ _ _ _) ?_; intro V2 P uV2)
  replace U := U.trans uV2
  replace D := D.up uV2
  replace R := R.up uV2
  obtain ⟨p, hp⟩ : ∃ p, V1.heap.size = p := ⟨_, rfl⟩
  rw [hp] at P hR1 ⊢
  have hp2 := P.lt
  clear uV2 hp
  go_upto_region 3 with fail
  obtain ⟨V3, hV3⟩ : ∃ V3, V2.alloc (.cells #[.int .i64 0] 3) = V3 := ⟨_, rfl⟩
  have T : Ob V3 V2.heap.size 3 #[.int .i64 0] := by rw [← hV3]; exact Ob.mk_ _ _ _
  have u3 : Up V2 V3 := by rw [← hV3]; exact (Up.refl _).alloc _
  rw [hV3]
  obtain ⟨ga, hga⟩ : ∃ ga, V2.heap.size = ga := ⟨_, rfl⟩
  rw [hga] at T hp2 ⊢
  have hg2 := T.lt
  replace U := U.trans u3
  replace D := D.up u3
  replace R := R.up u3
  replace P := P.up u3
  clear hV3 hga u3
  have cd := D.get 0
  simp only [List.getElem?_toArray, List.getElem?_cons_zero] at cd
  have CT := Lib.hid (taker_any V3 ga n c A)
  go_upto_region 4 with (go_at_call 97; refine CT.out.mono ?_; rintro _ V4 ⟨gp, gb, rfl, P4, B4, u4, lgp, lgb⟩)
  obtain ⟨W, hW⟩ : ∃ W, V4.alloc (.cells #[.func (Fn.func 117) #[] #[.pointer (some ⟨gp, 0, none⟩), .pointer (some ⟨gb, 0, none⟩)]] 132) = W := ⟨_, rfl⟩
  have T4 : Ob W V4.heap.size 132 #[.func (Fn.func 117) #[] #[.pointer (some ⟨gp, 0, none⟩), .pointer (some ⟨gb, 0, none⟩)]] := by rw [← hW]; exact Ob.mk_ _ _ _
  have u5 : Up V4 W := by rw [← hW]; exact (Up.refl _).alloc _
  rw [hW]
  have hgp := P4.lt
  have hgb := B4.lt
  obtain ⟨gt, hgt⟩ : ∃ gt, V4.heap.size = gt := ⟨_, rfl⟩
  rw [hgt] at T4 hgp hgb ⊢
  have h : Sp9 w W ga gp gb gt w.heap.size p (w.heap.size + 1) A n c 0 l #[.int .i64 1, .bool false, .slice none 0 0, .slice none 0 0, .bool false, .slice none 0 0] :=
    ⟨⟨P4.up u5, B4.up u5, (D.up u4).up u5, (T.up u4).up u5, T4, HS.out, (U.trans u4).trans u5, by omega, by omega, by omega, by omega, by omega⟩, (P.up u4).up u5, (R.up u4).up u5, by omega, by omega, by omega, by omega, by omega, by omega, by omega, by omega, by omega⟩
  have hd1 : w.heap.size < w.heap.size + 1 := Nat.lt_succ_self _
  obtain ⟨gd, hgd⟩ : ∃ gd, w.heap.size = gd := ⟨_, rfl⟩
  obtain ⟨r, hr⟩ : ∃ r, w.heap.size + 1 = r := ⟨_, rfl⟩
  rw [hgd] at h hr ⊢
  rw [hr] at h ⊢
  clear hW hgt u4 u5 P4 B4 T4 D R P T U CT cd hgp hgb lgp lgb hR1 hp2 hg2 hd1 hgd hr
  go_upto_region 5 with fail
  have HNUM : Hid (l.length = n) := HS.out.num
  obtain ⟨t, ht⟩ : ∃ t, (decide (0 < n) && [45].contains (l.getD 0 0)) = t := ⟨_, rfl⟩
  have Ht := Lib.hid ht
  clear ht
  have TKC := Lib.hid (took_any W ga gp gb 0 n c A l ⟨#[45]⟩ [45] rfl h.C.p h.C.b h.C.a (h.C.s.up h.C.up) (Nat.zero_le _) (by omega) t Ht)
  have ct := h.C.t.get 0
  simp only [List.getElem?_toArray, List.getElem?_cons_zero] at ct
  go_upto_region 6 with (go_at_call 117; refine TKC.out.mono ?_; rintro _ W1 ⟨rfl, k3, a3⟩; have h1 := h.took k3 a3; obtain ⟨p0, p1, p2, p3, p4, p5⟩ := h1.P.six; obtain ⟨f0, f1, f2, f3, f4, f5⟩ := h1.P.fsix)
  have h2 := h1.put 1 (.bool t) rfl
  obtain ⟨W2, hW2⟩ : ∃ W2, W1.setCell ⟨p, 1, none⟩ (.bool t) = W2 := ⟨_, rfl⟩
  rw [hW2] at h2 ⊢
  replace h2 : Sp9 w W2 ga gp gb gt gd p r A n c (if t = true then 0 + 1 else 0) l #[.int .i64 1, .bool t, .slice none 0 0, .slice none 0 0, .bool false, .slice none 0 0] := h2
  clear hW2 h1 k3 a3 TKC ct p0 p1 p2 p3 p4 p5 f0 f1 f2 f3 f4 f5 h
  obtain ⟨i1, hi1⟩ : ∃ i1, (if t = true then 0 + 1 else 0) = i1 := ⟨_, rfl⟩
  rw [hi1] at h2
  have hrd : ∃ st1, (st1 = 0 ∨ st1 = 1) ∧ M.Rdn l i1 ⟨st1, t, [], 0, false, []⟩ ∧ (i1 < n → st1 = 0 → (l.getD i1 0).toNat ≠ 45) ∧ i1 ≤ n := by
    cases t with
    | false =>
      rw [if_neg Bool.false_ne_true] at hi1
      subst hi1
      refine ⟨0, .inl rfl, M.Rdn.start l, fun hlt _ e => ?_, Nat.zero_le _⟩
      have k := M.has_no Ht.out hlt
      rw [M.has_one] at k
      exact absurd e (of_decide_eq_false k)
    | true =>
      rw [if_pos rfl] at hi1
      subst hi1
      obtain ⟨hlt, hpt⟩ := M.has_yes Ht.out
      rw [M.has_one, decide_eq_true_iff] at hpt
      replace hpt : (l.getD 0 0).toNat = 45 := hpt
      have hX := (M.Rdn.start l).step (by rw [HNUM.out]; exact hlt) (by show M.nx 0 _ ≠ 99; rw [hpt]; decide)
      have es : M.stp M.sc0 (l.getD 0 0) = ⟨1, true, [], 0, false, []⟩ := by
        unfold M.stp M.sc0
        simp only [hpt]
        rfl
      rw [es] at hX
      exact ⟨1, .inr rfl, hX, fun _ e => by omega, hlt⟩
  obtain ⟨st1, hst1, hrd1, hm1, q1⟩ := hrd
  have HRD1 := Lib.hid hrd1
  have HM1 := Lib.hid hm1
  clear hi1 Ht hrd1 hm1
  obtain ⟨t2, ht2⟩ : ∃ t, (decide (i1 < n) && [105].contains (l.getD i1 0)) = t := ⟨_, rfl⟩
  have Ht2 := Lib.hid ht2
  clear ht2
  have TKC := Lib.hid (took_any W2 ga gp gb i1 n c A l ⟨#[105]⟩ [105] rfl h2.C.p h2.C.b h2.C.a (h2.C.s.up h2.C.up) q1 (by omega) t2 Ht2)
  have ct := h2.C.t.get 0
  simp only [List.getElem?_toArray, List.getElem?_cons_zero] at ct
  go_upto_if 17 with (go_at_call 117; refine TKC.out.mono ?_; rintro _ W3 ⟨rfl, k3, a3⟩)
  have h3 := h2.took k3 a3
  clear TKC ct k3 a3 h2
  cases t2 with
  | true =>
    rw [if_pos rfl] at h3
    obtain ⟨hlt, hpt⟩ := M.has_yes Ht2.out
    rw [M.has_one, decide_eq_true_iff] at hpt
    replace hpt : (l.getD i1 0).toNat = 105 := hpt
    have hX := HRD1.out.step (by rw [HNUM.out]; exact hlt) (by show M.nx st1 _ ≠ 99; rw [hpt]; rcases hst1 with rfl | rfl <;> decide)
    obtain ⟨x, hx⟩ : ∃ x, M.stp ⟨st1, t, [], 0, false, []⟩ (l.getD i1 0) = x := ⟨_, rfl⟩
    rw [hx] at hX
    have hxs : x.st = 10 ∧ t = x.neg := by
      rw [← hx]
      unfold M.stp
      simp only [hpt]
      rcases hst1 with rfl | rfl <;> exact ⟨rfl, rfl⟩
    obtain ⟨p0, p1, p2, p3, p4, p5⟩ := h3.P.six
    obtain ⟨f0, f1, f2, f3, f4, f5⟩ := h3.P.fsix
    have HRD := Lib.hid hX
    have HXS := Lib.hid hxs
    clear hX hx hxs hpt
    go_upto_region 12 with fail
    have h := h3.put 0 (.int .i64 2) rfl
    obtain ⟨V, hV⟩ : ∃ V, W3.setCell ⟨p, 0, none⟩ (.int .i64 2) = V := ⟨_, rfl⟩
    rw [hV] at h ⊢
    replace h : Sp9 w V ga gp gb gt gd p r A n c (i1 + 1) l #[.int .i64 2, .bool t, .slice none 0 0, .slice none 0 0, .bool false, .slice none 0 0] := h
    clear hV h3 p0 p1 p2 p3 p4 p5 f0 f1 f2 f3 f4 f5
    obtain ⟨c1, hc1⟩ : ∃ c1 : UInt8, c1 = 110 := ⟨_, rfl⟩
    obtain ⟨c2, hc2⟩ : ∃ c2 : UInt8, c2 = 102 := ⟨_, rfl⟩
    rw [← hc1, ← hc2]
    have HST : Hid ((x.st = 10 ∧ c1.toNat = 110 ∧ c2.toNat = 102) ∨ (x.st = 20 ∧ c1.toNat = 97 ∧ c2.toNat = 110) ∨ (x.st = 30 ∧ c1.toNat = 97 ∧ c2.toNat = 82)) := by
      show _ ∨ _
      have k := HXS.out.1
      rw [hc1, hc2, k]
      decide
    have HNG : Hid (t = x.neg) := HXS.out.2
    have HK : Hid ((2 : Int) = ((x.st / 10 + 1 : Nat) : Int)) := by show _ = _; rw [HXS.out.1]; rfl
    clear hc1 hc2
    go_step3
    have e0 : ((⟨#[c1, c2]⟩ : ByteArray) == ⟨#[]⟩) = false := rfl
    have e1 : (⟨#[c1, c2]⟩ : ByteArray).extract 0 1 = ⟨#[c1]⟩ := rfl
    have e2 : (⟨#[c1, c2]⟩ : ByteArray).extract 1 2 = ⟨#[c2]⟩ := rfl
    have e3 : (⟨#[c1, c2]⟩ : ByteArray).size = 2 := rfl
    obtain ⟨t9, ht9⟩ : ∃ t, (decide (i1 + 1 < n) && [c1].contains (l.getD (i1 + 1) 0)) = t := ⟨_, rfl⟩
    have Ht9 := Lib.hid ht9
    clear ht9
    have hin : i1 + 1 ≤ n := by have := HRD.out.le; have := HNUM.out; omega
    have TKC := Lib.hid (took_any V ga gp gb (i1 + 1) n c A l ⟨#[c1]⟩ [c1] rfl h.C.p h.C.b h.C.a (h.C.s.up h.C.up) hin (by omega) t9 Ht9)
    have hd := h.drew 1
    have TKD := Lib.hid (took_any V.drew ga gp gb (i1 + 1) n c A l ⟨#[c1]⟩ [c1] rfl hd.C.p hd.C.b hd.C.a (hd.C.s.up hd.C.up) hin (by omega) t9 Ht9)
    have ct := h.C.t.get 0
    simp only [List.getElem?_toArray, List.getElem?_cons_zero] at ct
    clear hd
    go_upto_region 13 with fail
    go_region_held3 (fun w' => w'.cell? ⟨gt, 0, none⟩ = some (.func (Fn.func 117) #[] #[.pointer (some ⟨gp, 0, none⟩), .pointer (some ⟨gb, 0, none⟩)])) (go_keep)
      (first | (go_at_call 117; (with_reducible refine TKC.out.mono ?_); rintro _ W9 ⟨rfl, k9, a9⟩; have kct := (k9.cell (p := ⟨gt, 0, none⟩) h.C.t.lt h.C.nt h.C.nt).trans ct) | (go_at_call 117; (with_reducible refine TKD.out.mono ?_); rintro _ W9 ⟨rfl, k9, a9⟩; have kct := (k9.cell (p := ⟨gt, 0, none⟩) h.C.t.lt h.C.nt h.C.nt).trans ct))
    all_goals
      have h9 : Sp9 w W9 ga gp gb gt gd p r A n c (if t9 = true then i1 + 1 + 1 else i1 + 1) l #[.int .i64 2, .bool t, .slice none 0 0, .slice none 0 0, .bool false, .slice none 0 0] := by
        first | exact h.took k9 a9 | exact (h.drew 1).took k9 a9
      clear k9 a9 kct ct TKC TKD h
      have H9 := Lib.hid h9
      clear h9
      cases t9 with
      | false =>
        have HSC : Hid (M.scan l = .error (i1 + 1)) := by
          refine HRD.out.none (by show M.wh x.st = false; have := HST.out; rcases (show x.st = 10 ∨ x.st = 20 ∨ x.st = 30 ∨ x.st = 11 ∨ x.st = 21 ∨ x.st = 31 by omega) with e | e | e | e | e | e <;> rw [e] <;> rfl) (fun hlt => ?_)
          have k := M.has_no Ht9.out (by have := HNUM.out; omega)
          rw [M.has_one] at k
          rw [M.nx_word (c := c1.toNat) _ (by have := HST.out; omega), if_neg (of_decide_eq_false k)]
        go_wp2_with fail
        go_step3
        exact HNone.out _ _ _ _ _ _ _ _ _ _ _ _ _ _ _ _ _ _ _ _ _ _ _ _ _ _ _ _ _ _ _ _ _ _ _ _ _ _ _ _ _ _ _ _ _ _ _ _ _ _ _ _ _ _ _ _ _ _ _ _ _ _ _ _ _ _ _ _ _ _ _ _ _ _ _ _ _ _ _ _ _ _ _ _ _ _ _ _ H9.out HSC.out
      | true =>
        obtain ⟨hlt, hpt⟩ := M.has_yes Ht9.out
        rw [M.has_one, decide_eq_true_iff] at hpt
        have hn : M.nx x.st (l.getD (i1 + 1) 0).toNat = x.st + 1 := by rw [M.nx_word (c := c1.toNat) _ (by have := HST.out; omega), if_pos hpt]
        have HX9 := Lib.hid (HRD.out.step (by rw [HNUM.out]; exact hlt) (by rw [hn]; have := HST.out; omega))
        have HN9 := Lib.hid hn
        clear hpt hn
        go_wp2_with fail
        go_step3
        refine HW1.out _ _ _ _ _ _ _ _ _ _ _ _ c2 _ _ _ _ _ _ _ _ _ _ _ _ _ _ _ _ _ _ _ _ _ _ _ _ _ _ _ _ _ _ _ _ _ _ _ _ _ _ _ _ _ _ _ _ _ _ _ _ _ _ _ _ _ _ _ _ _ _ _ _ _ _ _ _ _ _ _ _ _ _ _ _ _ H9.out HX9.out ?_ ?_ ?_
        · show _ ∨ _
          have e : (M.stp x (l.getD (i1 + 1) 0)).st = x.st + 1 := HN9.out
          have := HST.out
          rw [e]
          omega
        · rw [HNG.out]
          have e := HN9.out
          have := HST.out
          show x.neg = (if M.nx x.st (l.getD (i1 + 1) 0).toNat = 1 then true else x.neg)
          rw [if_neg (by omega)]
        · rw [HK.out]
          have e : (M.stp x (l.getD (i1 + 1) 0)).st = x.st + 1 := HN9.out
          have := HST.out
          rw [e]
          congr 1
          omega
  | false =>
    rw [if_neg Bool.false_ne_true] at h3
    obtain ⟨t3, ht3⟩ : ∃ t, (decide (i1 < n) && [110].contains (l.getD i1 0)) = t := ⟨_, rfl⟩
    have Ht3 := Lib.hid ht3
    clear ht3
    have TKC := Lib.hid (took_any W3 ga gp gb i1 n c A l ⟨#[110]⟩ [110] rfl h3.C.p h3.C.b h3.C.a (h3.C.s.up h3.C.up) q1 (by omega) t3 Ht3)
    have ct := h3.C.t.get 0
    simp only [List.getElem?_toArray, List.getElem?_cons_zero] at ct
    go_upto_if 21 with (go_at_call 117; refine TKC.out.mono ?_; rintro _ W4 ⟨rfl, k3, a3⟩)
    have h4 := h3.took k3 a3
    clear TKC ct k3 a3 h3
    cases t3 with
    | true =>
      rw [if_pos rfl] at h4
      obtain ⟨hlt, hpt⟩ := M.has_yes Ht3.out
      rw [M.has_one, decide_eq_true_iff] at hpt
      replace hpt : (l.getD i1 0).toNat = 110 := hpt
      have hX := HRD1.out.step (by rw [HNUM.out]; exact hlt) (by show M.nx st1 _ ≠ 99; rw [hpt]; rcases hst1 with rfl | rfl <;> decide)
      obtain ⟨x, hx⟩ : ∃ x, M.stp ⟨st1, t, [], 0, false, []⟩ (l.getD i1 0) = x := ⟨_, rfl⟩
      rw [hx] at hX
      have hxs : x.st = 20 ∧ t = x.neg := by
        rw [← hx]
        unfold M.stp
        simp only [hpt]
        rcases hst1 with rfl | rfl <;> exact ⟨rfl, rfl⟩
      obtain ⟨p0, p1, p2, p3, p4, p5⟩ := h4.P.six
      obtain ⟨f0, f1, f2, f3, f4, f5⟩ := h4.P.fsix
      have HRD := Lib.hid hX
      have HXS := Lib.hid hxs
      clear hX hx hxs hpt
      go_upto_region 12 with fail
      have h := h4.put 0 (.int .i64 3) rfl
      obtain ⟨V, hV⟩ : ∃ V, W4.setCell ⟨p, 0, none⟩ (.int .i64 3) = V := ⟨_, rfl⟩
      rw [hV] at h ⊢
      replace h : Sp9 w V ga gp gb gt gd p r A n c (i1 + 1) l #[.int .i64 3, .bool t, .slice none 0 0, .slice none 0 0, .bool false, .slice none 0 0] := h
      clear hV h4 p0 p1 p2 p3 p4 p5 f0 f1 f2 f3 f4 f5
      obtain ⟨c1, hc1⟩ : ∃ c1 : UInt8, c1 = 97 := ⟨_, rfl⟩
      obtain ⟨c2, hc2⟩ : ∃ c2 : UInt8, c2 = 110 := ⟨_, rfl⟩
      rw [← hc1, ← hc2]
      have HST : Hid ((x.st = 10 ∧ c1.toNat = 110 ∧ c2.toNat = 102) ∨ (x.st = 20 ∧ c1.toNat = 97 ∧ c2.toNat = 110) ∨ (x.st = 30 ∧ c1.toNat = 97 ∧ c2.toNat = 82)) := by
        show _ ∨ _
        have k := HXS.out.1
        rw [hc1, hc2, k]
        decide
      have HNG : Hid (t = x.neg) := HXS.out.2
      have HK : Hid ((3 : Int) = ((x.st / 10 + 1 : Nat) : Int)) := by show _ = _; rw [HXS.out.1]; rfl
      clear hc1 hc2
      go_step3
      have e0 : ((⟨#[c1, c2]⟩ : ByteArray) == ⟨#[]⟩) = false := rfl
      have e1 : (⟨#[c1, c2]⟩ : ByteArray).extract 0 1 = ⟨#[c1]⟩ := rfl
      have e2 : (⟨#[c1, c2]⟩ : ByteArray).extract 1 2 = ⟨#[c2]⟩ := rfl
      have e3 : (⟨#[c1, c2]⟩ : ByteArray).size = 2 := rfl
      obtain ⟨t9, ht9⟩ : ∃ t, (decide (i1 + 1 < n) && [c1].contains (l.getD (i1 + 1) 0)) = t := ⟨_, rfl⟩
      have Ht9 := Lib.hid ht9
      clear ht9
      have hin : i1 + 1 ≤ n := by have := HRD.out.le; have := HNUM.out; omega
      have TKC := Lib.hid (took_any V ga gp gb (i1 + 1) n c A l ⟨#[c1]⟩ [c1] rfl h.C.p h.C.b h.C.a (h.C.s.up h.C.up) hin (by omega) t9 Ht9)
      have hd := h.drew 1
      have TKD := Lib.hid (took_any V.drew ga gp gb (i1 + 1) n c A l ⟨#[c1]⟩ [c1] rfl hd.C.p hd.C.b hd.C.a (hd.C.s.up hd.C.up) hin (by omega) t9 Ht9)
      have ct := h.C.t.get 0
      simp only [List.getElem?_toArray, List.getElem?_cons_zero] at ct
      clear hd
      go_upto_region 13 with fail
      go_region_held3 (fun w' => w'.cell? ⟨gt, 0, none⟩ = some (.func (Fn.func 117) #[] #[.pointer (some ⟨gp, 0, none⟩), .pointer (some ⟨gb, 0, none⟩)])) (go_keep)
        (first | (go_at_call 117; (with_reducible refine TKC.out.mono ?_); rintro _ W9 ⟨rfl, k9, a9⟩; have kct := (k9.cell (p := ⟨gt, 0, none⟩) h.C.t.lt h.C.nt h.C.nt).trans ct) | (go_at_call 117; (with_reducible refine TKD.out.mono ?_); rintro _ W9 ⟨rfl, k9, a9⟩; have kct := (k9.cell (p := ⟨gt, 0, none⟩) h.C.t.lt h.C.nt h.C.nt).trans ct))
      all_goals
        have h9 : Sp9 w W9 ga gp gb gt gd p r A n c (if t9 = true then i1 + 1 + 1 else i1 + 1) l #[.int .i64 3, .bool t, .slice none 0 0, .slice none 0 0, .bool false, .slice none 0 0] := by
          first | exact h.took k9 a9 | exact (h.drew 1).took k9 a9
        clear k9 a9 kct ct TKC TKD h
        have H9 := Lib.hid h9
        clear h9
        cases t9 with
        | false =>
          have HSC : Hid (M.scan l = .error (i1 + 1)) := by
            refine HRD.out.none (by show M.wh x.st = false; have := HST.out; rcases (show x.st = 10 ∨ x.st = 20 ∨ x.st = 30 ∨ x.st = 11 ∨ x.st = 21 ∨ x.st = 31 by omega) with e | e | e | e | e | e <;> rw [e] <;> rfl) (fun hlt => ?_)
            have k := M.has_no Ht9.out (by have := HNUM.out; omega)
            rw [M.has_one] at k
            rw [M.nx_word (c := c1.toNat) _ (by have := HST.out; omega), if_neg (of_decide_eq_false k)]
          go_wp2_with fail
          go_step3
          exact HNone.out _ _ _ _ _ _ _ _ _ _ _ _ _ _ _ _ _ _ _ _ _ _ _ _ _ _ _ _ _ _ _ _ _ _ _ _ _ _ _ _ _ _ _ _ _ _ _ _ _ _ _ _ _ _ _ _ _ _ _ _ _ _ _ _ _ _ _ _ _ _ _ _ _ _ _ _ _ _ _ _ _ _ _ _ _ _ _ _ H9.out HSC.out
        | true =>
          obtain ⟨hlt, hpt⟩ := M.has_yes Ht9.out
          rw [M.has_one, decide_eq_true_iff] at hpt
          have hn : M.nx x.st (l.getD (i1 + 1) 0).toNat = x.st + 1 := by rw [M.nx_word (c := c1.toNat) _ (by have := HST.out; omega), if_pos hpt]
          have HX9 := Lib.hid (HRD.out.step (by rw [HNUM.out]; exact hlt) (by rw [hn]; have := HST.out; omega))
          have HN9 := Lib.hid hn
          clear hpt hn
          go_wp2_with fail
          go_step3
          refine HW1.out _ _ _ _ _ _ _ _ _ _ _ _ c2 _ _ _ _ _ _ _ _ _ _ _ _ _ _ _ _ _ _ _ _ _ _ _ _ _ _ _ _ _ _ _ _ _ _ _ _ _ _ _ _ _ _ _ _ _ _ _ _ _ _ _ _ _ _ _ _ _ _ _ _ _ _ _ _ _ _ _ _ _ _ _ _ _ H9.out HX9.out ?_ ?_ ?_
          · show _ ∨ _
            have e : (M.stp x (l.getD (i1 + 1) 0)).st = x.st + 1 := HN9.out
            have := HST.out
            rw [e]
            omega
          · rw [HNG.out]
            have e := HN9.out
            have := HST.out
            show x.neg = (if M.nx x.st (l.getD (i1 + 1) 0).toNat = 1 then true else x.neg)
            rw [if_neg (by omega)]
          · rw [HK.out]
            have e : (M.stp x (l.getD (i1 + 1) 0)).st = x.st + 1 := HN9.out
            have := HST.out
            rw [e]
            congr 1
            omega
    | false =>
      rw [if_neg Bool.false_ne_true] at h4
      obtain ⟨t4, ht4⟩ : ∃ t, (decide (i1 < n) && [78].contains (l.getD i1 0)) = t := ⟨_, rfl⟩
      have Ht4 := Lib.hid ht4
      clear ht4
      have TKC := Lib.hid (took_any W4 ga gp gb i1 n c A l ⟨#[78]⟩ [78] rfl h4.C.p h4.C.b h4.C.a (h4.C.s.up h4.C.up) q1 (by omega) t4 Ht4)
      have ct := h4.C.t.get 0
      simp only [List.getElem?_toArray, List.getElem?_cons_zero] at ct
      go_upto_if 25 with (go_at_call 117; refine TKC.out.mono ?_; rintro _ W5 ⟨rfl, k3, a3⟩)
      have h5 := h4.took k3 a3
      clear TKC ct k3 a3 h4
      cases t4 with
      | true =>
        rw [if_pos rfl] at h5
        obtain ⟨hlt, hpt⟩ := M.has_yes Ht4.out
        rw [M.has_one, decide_eq_true_iff] at hpt
        replace hpt : (l.getD i1 0).toNat = 78 := hpt
        have hX := HRD1.out.step (by rw [HNUM.out]; exact hlt) (by show M.nx st1 _ ≠ 99; rw [hpt]; rcases hst1 with rfl | rfl <;> decide)
        obtain ⟨x, hx⟩ : ∃ x, M.stp ⟨st1, t, [], 0, false, []⟩ (l.getD i1 0) = x := ⟨_, rfl⟩
        rw [hx] at hX
        have hxs : x.st = 30 ∧ t = x.neg := by
          rw [← hx]
          unfold M.stp
          simp only [hpt]
          rcases hst1 with rfl | rfl <;> exact ⟨rfl, rfl⟩
        obtain ⟨p0, p1, p2, p3, p4, p5⟩ := h5.P.six
        obtain ⟨f0, f1, f2, f3, f4, f5⟩ := h5.P.fsix
        have HRD := Lib.hid hX
        have HXS := Lib.hid hxs
        clear hX hx hxs hpt
        go_upto_region 12 with fail
        have h := h5.put 0 (.int .i64 4) rfl
        obtain ⟨V, hV⟩ : ∃ V, W5.setCell ⟨p, 0, none⟩ (.int .i64 4) = V := ⟨_, rfl⟩
        rw [hV] at h ⊢
        replace h : Sp9 w V ga gp gb gt gd p r A n c (i1 + 1) l #[.int .i64 4, .bool t, .slice none 0 0, .slice none 0 0, .bool false, .slice none 0 0] := h
        clear hV h5 p0 p1 p2 p3 p4 p5 f0 f1 f2 f3 f4 f5
        obtain ⟨c1, hc1⟩ : ∃ c1 : UInt8, c1 = 97 := ⟨_, rfl⟩
        obtain ⟨c2, hc2⟩ : ∃ c2 : UInt8, c2 = 82 := ⟨_, rfl⟩
        rw [← hc1, ← hc2]
        have HST : Hid ((x.st = 10 ∧ c1.toNat = 110 ∧ c2.toNat = 102) ∨ (x.st = 20 ∧ c1.toNat = 97 ∧ c2.toNat = 110) ∨ (x.st = 30 ∧ c1.toNat = 97 ∧ c2.toNat = 82)) := by
          show _ ∨ _
          have k := HXS.out.1
          rw [hc1, hc2, k]
          decide
        have HNG : Hid (t = x.neg) := HXS.out.2
        have HK : Hid ((4 : Int) = ((x.st / 10 + 1 : Nat) : Int)) := by show _ = _; rw [HXS.out.1]; rfl
        clear hc1 hc2
        go_step3
        have e0 : ((⟨#[c1, c2]⟩ : ByteArray) == ⟨#[]⟩) = false := rfl
        have e1 : (⟨#[c1, c2]⟩ : ByteArray).extract 0 1 = ⟨#[c1]⟩ := rfl
        have e2 : (⟨#[c1, c2]⟩ : ByteArray).extract 1 2 = ⟨#[c2]⟩ := rfl
        have e3 : (⟨#[c1, c2]⟩ : ByteArray).size = 2 := rfl
        obtain ⟨t9, ht9⟩ : ∃ t, (decide (i1 + 1 < n) && [c1].contains (l.getD (i1 + 1) 0)) = t := ⟨_, rfl⟩
        have Ht9 := Lib.hid ht9
        clear ht9
        have hin : i1 + 1 ≤ n := by have := HRD.out.le; have := HNUM.out; omega
        have TKC := Lib.hid (took_any V ga gp gb (i1 + 1) n c A l ⟨#[c1]⟩ [c1] rfl h.C.p h.C.b h.C.a (h.C.s.up h.C.up) hin (by omega) t9 Ht9)
        have hd := h.drew 1
        have TKD := Lib.hid (took_any V.drew ga gp gb (i1 + 1) n c A l ⟨#[c1]⟩ [c1] rfl hd.C.p hd.C.b hd.C.a (hd.C.s.up hd.C.up) hin (by omega) t9 Ht9)
        have ct := h.C.t.get 0
        simp only [List.getElem?_toArray, List.getElem?_cons_zero] at ct
        clear hd
        go_upto_region 13 with fail
        go_region_held3 (fun w' => w'.cell? ⟨gt, 0, none⟩ = some (.func (Fn.func 117) #[] #[.pointer (some ⟨gp, 0, none⟩), .pointer (some ⟨gb, 0, none⟩)])) (go_keep)
          (first | (go_at_call 117; (with_reducible refine TKC.out.mono ?_); rintro _ W9 ⟨rfl, k9, a9⟩; have kct := (k9.cell (p := ⟨gt, 0, none⟩) h.C.t.lt h.C.nt h.C.nt).trans ct) | (go_at_call 117; (with_reducible refine TKD.out.mono ?_); rintro _ W9 ⟨rfl, k9, a9⟩; have kct := (k9.cell (p := ⟨gt, 0, none⟩) h.C.t.lt h.C.nt h.C.nt).trans ct))
        all_goals
          have h9 : Sp9 w W9 ga gp gb gt gd p r A n c (if t9 = true then i1 + 1 + 1 else i1 + 1) l #[.int .i64 4, .bool t, .slice none 0 0, .slice none 0 0, .bool false, .slice none 0 0] := by
            first | exact h.took k9 a9 | exact (h.drew 1).took k9 a9
          clear k9 a9 kct ct TKC TKD h
          have H9 := Lib.hid h9
          clear h9
          cases t9 with
          | false =>
            have HSC : Hid (M.scan l = .error (i1 + 1)) := by
              refine HRD.out.none (by show M.wh x.st = false; have := HST.out; rcases (show x.st = 10 ∨ x.st = 20 ∨ x.st = 30 ∨ x.st = 11 ∨ x.st = 21 ∨ x.st = 31 by omega) with e | e | e | e | e | e <;> rw [e] <;> rfl) (fun hlt => ?_)
              have k := M.has_no Ht9.out (by have := HNUM.out; omega)
              rw [M.has_one] at k
              rw [M.nx_word (c := c1.toNat) _ (by have := HST.out; omega), if_neg (of_decide_eq_false k)]
            go_wp2_with fail
            go_step3
            exact HNone.out _ _ _ _ _ _ _ _ _ _ _ _ _ _ _ _ _ _ _ _ _ _ _ _ _ _ _ _ _ _ _ _ _ _ _ _ _ _ _ _ _ _ _ _ _ _ _ _ _ _ _ _ _ _ _ _ _ _ _ _ _ _ _ _ _ _ _ _ _ _ _ _ _ _ _ _ _ _ _ _ _ _ _ _ _ _ _ _ H9.out HSC.out
          | true =>
            obtain ⟨hlt, hpt⟩ := M.has_yes Ht9.out
            rw [M.has_one, decide_eq_true_iff] at hpt
            have hn : M.nx x.st (l.getD (i1 + 1) 0).toNat = x.st + 1 := by rw [M.nx_word (c := c1.toNat) _ (by have := HST.out; omega), if_pos hpt]
            have HX9 := Lib.hid (HRD.out.step (by rw [HNUM.out]; exact hlt) (by rw [hn]; have := HST.out; omega))
            have HN9 := Lib.hid hn
            clear hpt hn
            go_wp2_with fail
            go_step3
            refine HW1.out _ _ _ _ _ _ _ _ _ _ _ _ c2 _ _ _ _ _ _ _ _ _ _ _ _ _ _ _ _ _ _ _ _ _ _ _ _ _ _ _ _ _ _ _ _ _ _ _ _ _ _ _ _ _ _ _ _ _ _ _ _ _ _ _ _ _ _ _ _ _ _ _ _ _ _ _ _ _ _ _ _ _ _ _ _ _ H9.out HX9.out ?_ ?_ ?_
            · show _ ∨ _
              have e : (M.stp x (l.getD (i1 + 1) 0)).st = x.st + 1 := HN9.out
              have := HST.out
              rw [e]
              omega
            · rw [HNG.out]
              have e := HN9.out
              have := HST.out
              show x.neg = (if M.nx x.st (l.getD (i1 + 1) 0).toNat = 1 then true else x.neg)
              rw [if_neg (by omega)]
            · rw [HK.out]
              have e : (M.stp x (l.getD (i1 + 1) 0)).st = x.st + 1 := HN9.out
              have := HST.out
              rw [e]
              congr 1
              omega
      | false =>
        rw [if_neg Bool.false_ne_true] at h5
        have H5 := Lib.hid h5
        clear h5
        have no : ∀ (k : UInt8), (decide (i1 < n) && [k].contains (l.getD i1 0)) = false → i1 < n → (l.getD i1 0).toNat ≠ k.toNat := fun k h hlt e => by
          have := M.has_no h hlt
          rw [M.has_one] at this
          exact absurd e (of_decide_eq_false this)
        have NO := Lib.hid no
        clear no
        go_wp2_with fail
        go_step3
        exact HNu.out 4 _ _ _ _ _ _ _ _ st1 t _ _ _ _ _ _ _ _ _ _ _ _ _ _ _ _ _ _ _ _ _ _ _ _ _ _ _ _ _ _ _ _ _ _ _ _ _ _ _ _ _ _ _ _ _ _ _ _ _ _ _ _ _ _ _ _ _ _ _ _ _ _ _ _ _ _ _ _ _ _ _ _ _ _ H5.out HRD1.out (by omega) (fun hlt => ⟨NO.out 105 Ht2.out hlt, NO.out 110 Ht3.out hlt, NO.out 78 Ht4.out hlt, HM1.out hlt⟩)
end Go.Proofs.YtjmnobgllnaljaaGreatDoor
