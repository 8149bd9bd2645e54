/-
  What each law shows first.
-/
import Derived.Test.YteeepfhjbemgoaaDoorShown
namespace Go.Proofs.YteeepfhjbemgoaaDoor
open Go.RowKit Go.Shelf

/-- The slice '.slice A n c', wherever it lies, reads as the words xs. -/
structure Src (w : World) (A : Option Addr) (n c : Nat) (xs : List Nat) : Prop where
  num : xs.length = n
  len : n ≤ c
  wds : M.Wds xs
  none_ : A = none → c = 0
  at_ : ∀ ad, A = some ad → ∀ j, j < n → w.cell? (ad.add j) = some (u64 (xs.getD j 0))
theorem Src.take {w : World} {A : Option Addr} {n c : Nat} {xs : List Nat} (h : Src w A n c xs) {m : Nat} (hm : m ≤ n) : Src w A m c (xs.take m) := by
  refine ⟨by rw [List.length_take, h.num, Nat.min_eq_left hm], Nat.le_trans hm h.len, h.wds.take m, h.none_, fun ad hA j hj => ?_⟩
  rw [h.at_ ad hA j (by omega), List.getD_eq_getElem?_getD, List.getD_eq_getElem?_getD, List.getElem?_take_of_lt hj]
theorem Src.up {w w' : World} {A : Option Addr} {n c : Nat} {xs : List Nat} (h : Src w A n c xs) (hu : Up w w') : Src w' A n c xs := by
  refine ⟨h.num, h.len, h.wds, h.none_, fun ad hA j hj => ?_⟩
  have h1 := h.at_ ad hA j hj
  rw [Below.cell hu (World.block_lt_of_cell? w _ h1)]
  exact h1

section
variable {P : Program} (w : World)
theorem append_src (hP : (P.info? 41).map (fun i => (i.zero, i.size, i.bytes)) = some (some (.int .u64 0), 1, 8)) (base : Nat) (t ty : TypeId) (ht : P.underlying t = some (.slice 41))
    (v : Value) (n : Nat) (xs : List Nat) (hown : Ow w base v n xs) (A : Option Addr) (m c : Nat) (ys : List Nat) (hy : Src w A m c ys)
    (hn : n + m ≤ 1099511627776) (hbase : base ≤ w.heap.size) :
    ∃ v' w', (Builtin.append_ #[t, t] ty #[v, .slice A m c]).run P w = .ok v' w' ∧ Ow w' base v' (n + m) (xs ++ ys) ∧ w.grownBy w' v.ownBlock ∧ (v'.ownBlock = v.ownBlock ∨ v'.ownBlock = some w.heap.size) := by
  obtain ⟨i, hi, hz0, hz1, hz2⟩ := info_parts hP
  have hyn := hy.num
  have hsrc : ∀ ad, A = some ad → ∀ j u, (cu ys)[j]? = some u → w.cell? (ad.add j) = some u := by
    intro ad had j u hu
    have hj : j < m := by
      have := (List.getElem?_eq_some_iff.1 hu).1
      rw [cu_length] at this; omega
    rw [hy.at_ ad had j hj, ← cu_get (by omega)]
    exact hu
  rcases A with _ | ad
  · have hm : m = 0 := by have := hy.len; have := hy.none_ rfl; omega
    subst hm
    have hys : ys = [] := List.eq_nil_of_length_eq_zero hyn
    subst hys
    exact ⟨v, w, append_of_none w base t ty _ i 1 ht hi v n _ hown c, by simpa using hown, World.grownBy.refl w _, .inl rfl⟩
  · obtain ⟨v', w', hrun, h2, h3, _, h5⟩ := run_append_own_at (P := P) w base t ty _ i _ 1 8 ht hi hz0 hz1 hz2 rfl (by omega) v n _ hown ad m c (cu ys) (by rw [cu_length]; omega) (hsrc ad rfl) (cu_one _)
      (by simp only [maxLen]; omega) (by omega) hbase
    exact ⟨v', w', hrun, by rw [cu_append] at h2; exact h2, h3, h5⟩
theorem wpList_append_src {ops : Array Oper} {rest : List Oper} {o : Oper} {a : Act} {Q : Exit → Act → World → Prop} (hgd : o.guard = none) (s x : Operand) (t : TypeId)
    (ho : o.op = .call { callee := .builtin .append, args := #[s, x], argTypes := #[t, t] })
    (hP : (P.info? 41).map (fun i => (i.zero, i.size, i.bytes)) = some (some (.int .u64 0), 1, 8)) (base : Nat) (ht : P.underlying t = some (.slice 41))
    (v : Value) (n : Nat) (xs : List Nat) (hs : a.eval s = v) (hown : Ow w base v n xs) (A : Option Addr) (m c : Nat) (ys : List Nat) (hx : a.eval x = .slice A m c) (hy : Src w A m c ys)
    (hn : n + m ≤ 1099511627776) (hbase : base ≤ w.heap.size)
    (h : ∀ v' w', Ow w' base v' (n + m) (xs ++ ys) → w.grownBy w' v.ownBlock → (v'.ownBlock = v.ownBlock ∨ v'.ownBlock = some w.heap.size) → wpList P ops Q rest (a.put o.dst v') w') :
    wpList P ops Q (o :: rest) a w := by
  refine wpList_plain hgd fun K hK => ?_
  obtain ⟨v', w', hr, h2, h3, h4⟩ := append_src (P := P) w hP base t o.type ht v n xs hown A m c ys hy hn hbase
  unfold Oper.wp execOp
  simp only [ho, resolve, invoke, builtin, Sem.run_bind, Sem.run_pure, Result.andThen_ok, List.map_toArray, List.map_cons, List.map_nil, hs, hx, hr]
  exact hK _ _ (h v' w' h2 h3 h4)
end

/-- What few comes to: some number of at most so many words. -/
def Few (s : Nat) (w : World) (e : Ending) (w' : World) : Prop := ∃ v a, e = .returned v ∧ Nw w' w.heap.size s v a ∧ Up w w'

set_option maxHeartbeats 400000 in
set_option maxRecDepth 100000 in
theorem few_any (w : World) (A : Option Addr) (n c : Nat) (xs : List Nat) (h : Src w A n c xs) (L : Nat) (hL : L ≤ 100) :
    Calls Tryd.prog 16 #[.slice A n c, .int .i64 L] w (Few L w) := by
  obtain ⟨k, hk, hk1, hk2⟩ : ∃ k : Nat, min (n : Int) (L : Int) = (k : Int) ∧ k ≤ n ∧ k ≤ L := ⟨min n L, by omega, by omega, by omega⟩
  have hc := h.len
  have hs := h.take hk1
  have hs2 := hs.up ((Up.refl w).alloc (.cells #[] 41))
  have hown : Ow (w.alloc (.cells #[] 41)) w.heap.size (.slice (some ⟨w.heap.size, 0, none⟩) 0 0) 0 [] := World.ownsRow_lit w #[] 0 (Nat.le_refl _) (by simp only [maxLen]; omega) rfl
  clear h hs
  go_enter Tryd.func16, Tryd.ntmps16
  go_wp2_with (at_builtin; refine wpList_append_src _ rfl (.tmp 5) (.tmp 11) _ rfl info_u64 w.heap.size Tryd.underlying23 _ 0 [] rfl hown A k c _ rfl hs2 (by omega) (by simp) ?_; intro v1 w1 hown1 hg1 hat1)
  go_ret
  have hup : Up w w1 := ((Up.refl w).alloc (.cells #[] 41)).grown hg1 (fun b hb => (World.ownsRow.lt hown b hb).1)
  have hnw := Ow.nw hown1 (M.Wds.append M.Wds.nil hs2.wds) (by omega)
  exact ⟨v1, _, rfl, hnw.more (by omega), hup⟩
theorem few_lit (w : World) (A : Option Addr) (n c : Nat) (xs : List Nat) (h : Src w A n c xs) (L : Nat) (LL : Int) (hLL : LL = (L : Int)) (hL : L ≤ 100) :
    Calls Tryd.prog 16 #[.slice A n c, .int .i64 LL] w (Few L w) := by
  subst hLL
  exact few_any w A n c xs h L hL
end Go.Proofs.YteeepfhjbemgoaaDoor
namespace Go.Proofs.YteeepfhjbemgoaaDoor
open Go.RowKit Go.Shelf

theorem dd_big : (⟨(Lib.decDigits 18446744073709551616).toArray⟩ : ByteArray) = ⟨#[49, 56, 52, 52, 54, 55, 52, 52, 48, 55, 51, 55, 48, 57, 53, 53, 49, 54, 49, 54]⟩ := by simp [Lib.decDigits]
theorem dd_5 : (⟨(Lib.decDigits 5).toArray⟩ : ByteArray) = ⟨#[53]⟩ := by simp [Lib.decDigits]
theorem dd_0 : (⟨(Lib.decDigits 0).toArray⟩ : ByteArray) = ⟨#[48]⟩ := by simp [Lib.decDigits]
theorem dd_q : (⟨(Lib.decDigits (55340232221128654855 / 10)).toArray⟩ : ByteArray) = ⟨#[53, 53, 51, 52, 48, 50, 51, 50, 50, 50, 49, 49, 50, 56, 54, 53, 52, 56, 53]⟩ := by simp [Lib.decDigits]
theorem dd_r : (⟨(Lib.decDigits (55340232221128654855 % 10)).toArray⟩ : ByteArray) = ⟨#[53]⟩ := by simp [Lib.decDigits]
theorem dd_p : (⟨(Lib.decDigits 100000000000000000000).toArray⟩ : ByteArray) = ⟨#[49, 48, 48, 48, 48, 48, 48, 48, 48, 48, 48, 48, 48, 48, 48, 48, 48, 48, 48, 48, 48]⟩ := by simp [Lib.decDigits]

section
variable (w : World) (lo lo' s s' : Nat) (v v' : Value)
theorem subl (h : Nw w lo s v 1) (h' : Nw w lo' s' v' 18446744073709551616) : Calls Tryd.prog 24 #[v, v'] w (Opt s 0 false w) := sub_any w lo lo' s s' v v' 1 18446744073709551616 h h'
theorem cmp_eq1 (h : Nw w lo s v 18446744073709551616) (h' : Nw w lo' s' v' 18446744073709551616) : Calls Tryd.prog 35 #[v, v'] w (Val (.int .i64 0) w) := cmp_any w lo lo' s s' v v' 18446744073709551616 18446744073709551616 h h'
theorem bits1 (h : Nw w lo s v 18446744073709551616) : Calls Tryd.prog 37 #[v] w (Same (.int .i64 65) w) := by
  have := bits_any w lo s v 18446744073709551616 h
  rw [show M.bits 18446744073709551616 = 65 from M.bits_of (b := 64) (by omega) (by omega)] at this
  exact this
theorem bit64 (h : Nw w lo s v 18446744073709551616) : Calls Tryd.prog 51 #[v, .int .i64 64] w (Same (.bool true) w) := bit_nat w lo s v 18446744073709551616 h 64 (by omega)
theorem even1 (h : Nw w lo s v 18446744073709551616) : Calls Tryd.prog 55 #[v] w (Same (.bool true) w) := even_any w lo s v 18446744073709551616 h
theorem word1 (h : Nw w lo s v 18446744073709551616) : Calls Tryd.prog 54 #[v] w (Same (.tuple #[.int .u64 0, .bool false]) w) := word_any w lo s v 18446744073709551616 h
theorem pow20 : Calls Tryd.prog 52 #[.int .u64 10, .int .i64 20] w (Res 21 100000000000000000000 w) := pow_any w 10 20 20 (by omega) (by omega)
end
/-- An empty answer. -/
def Zero (w : World) (e : Ending) (w' : World) : Prop := ∃ A c, e = .returned (.slice A 0 c) ∧ Up w w'
theorem of_zero (w : World) : Calls Tryd.prog 53 #[.int .u64 0] w (Zero w) := by
  refine (of_lit w 0 0 rfl (by omega)).mono ?_
  rintro e w' ⟨v, rfl, ⟨A, n, c, xs, rfl, h1, h2, h3, h4⟩, hu⟩
  have : xs = [] := M.val_zero h4 h2
  have hn := h1.num
  rw [this] at hn
  simp at hn
  subst hn
  exact ⟨A, c, rfl, hu⟩
theorem parse1 (w : World) (hEW : ErrW w) : Calls Tryd.prog 19 #[.string ⟨#[49, 56, 52, 52, 54, 55, 52, 52, 48, 55, 51, 55, 48, 57, 53, 53, 49, 54, 49, 54]⟩] w (Opt 2001 18446744073709551616 true w) := by
  refine (parse_any w _ [49, 56, 52, 52, 54, 55, 52, 52, 48, 55, 51, 55, 48, 57, 53, 53, 49, 54, 49, 54] rfl (by simp) (by simp) (.inl (by decide)) hEW).mono ?_
  intro e w' h
  exact h
theorem parse2 (w : World) : Calls Tryd.prog 19 #[.string ⟨#[48, 49]⟩] w (Opt 2001 0 false w) :=
  parse_bad w _ [48, 49] rfl (.inr (.inr ⟨rfl, by simp⟩))

/-- What shown comes to. -/
def True_ (w : World) (e : Ending) (w' : World) : Prop := e = .returned (.bool true) ∧ Up w w'

set_option maxHeartbeats 8000000 in
set_option maxRecDepth 100000 in
theorem shown_any (w : World) (hTW : TabW w) (hEW : ErrW w) : Calls Tryd.prog 15 #[] w (True_ w) := by
  have U := Up.refl w
  go_enter Tryd.func15, Tryd.ntmps15
  go_wp2_with fail
  refine (norm_any _ _ 2 _ 18446744073709551616 (lit2 _ 0 1 _ _ _ rfl rfl (by omega) (by omega) rfl)).mono ?_
  rintro _ w1 ⟨big, rfl, hbig, hu1⟩
  replace U := (U.alloc (.cells #[.int .u64 0, .int .u64 1] 41)).trans hu1
  clear hu1
  go_wp2_with fail
  replace hbig := hbig.up ((Up.refl w1).alloc (.cells #[.int .u64 7, .int .u64 3] 41))
  replace U := U.trans ((Up.refl w1).alloc (.cells #[.int .u64 7, .int .u64 3] 41))
  refine (norm_any _ _ 2 _ 55340232221128654855 (lit2 _ 7 3 _ _ _ rfl rfl (by omega) (by omega) rfl)).mono ?_
  rintro _ w2 ⟨va, rfl, ha, hu2⟩
  replace hbig := hbig.up hu2
  replace U := U.trans hu2
  clear hu2
  go_wp2_with fail
  refine (of_lit _ 10 _ rfl (by omega)).mono ?_
  rintro _ w3 ⟨vt, rfl, ht, hu3⟩
  replace hbig := hbig.up hu3
  replace ha := ha.up hu3
  replace U := U.trans hu3
  clear hu3
  go_wp2_with fail
  refine (div_of _ _ _ 2 _ _ _ _ _ ha.nw ht.nw (by omega) (by omega) (.inl (by omega))).mono ?_
  rintro _ w4 ⟨vq, vr, rfl, hq, hr, hu4⟩
  replace hbig := hbig.up hu4
  replace ha := ha.up hu4
  replace ht := ht.up hu4
  replace U := U.trans hu4
  clear hu4
  go_wp2_with fail
  replace hbig := hbig.up ((Up.refl w4).alloc (.cells #[.int .u64 0, .int .u64 0] 41))
  replace hq := hq.up ((Up.refl w4).alloc (.cells #[.int .u64 0, .int .u64 0] 41))
  replace hr := hr.up ((Up.refl w4).alloc (.cells #[.int .u64 0, .int .u64 0] 41))
  replace U := U.trans ((Up.refl w4).alloc (.cells #[.int .u64 0, .int .u64 0] 41))
  refine (norm_any _ _ 2 _ 0 (lit2 _ 0 0 _ _ _ rfl rfl (by omega) (by omega) rfl)).mono ?_
  rintro _ w5 ⟨vz, rfl, hz, hu5⟩
  replace hbig := hbig.up hu5
  replace hq := hq.up hu5
  replace hr := hr.up hu5
  replace U := U.trans hu5
  clear hu5
  go_wp2_with fail
  refine (div_zero _ _ _ _ _ _ _ _ hbig.nw hz.nw).mono ?_
  rintro _ w6 ⟨x1, x2, rfl, _, _, hu6⟩
  replace hbig := hbig.up hu6
  replace hq := hq.up hu6
  replace hr := hr.up hu6
  replace hz := hz.up hu6
  replace U := U.trans hu6
  clear hu6
  go_wp2_with fail
  refine (of_lit _ 1 _ rfl (by omega)).mono ?_
  rintro _ w7 ⟨vo, rfl, ho, hu7⟩
  replace hbig := hbig.up hu7
  replace hq := hq.up hu7
  replace hr := hr.up hu7
  replace U := U.trans hu7
  clear hu7
  go_wp2_with fail
  refine (subl _ _ _ _ _ _ _ ho.nw hbig.nw).mono ?_
  rintro _ w8 ⟨x3, rfl, _, hu8⟩
  replace hbig := hbig.up hu8
  replace hq := hq.up hu8
  replace hr := hr.up hu8
  replace ho := ho.up hu8
  replace U := U.trans hu8
  clear hu8
  go_wp2_with fail
  refine (parse1 _ (hEW.up U)).mono ?_
  rintro _ w9 ⟨vx, rfl, hx, hu9⟩
  replace hbig := hbig.up hu9
  replace hq := hq.up hu9
  replace hr := hr.up hu9
  replace U := U.trans hu9
  clear hu9
  go_wp2_with fail
  refine (parse2 _).mono ?_
  rintro _ w10 ⟨x4, rfl, _, hu10⟩
  replace hbig := hbig.up hu10
  replace hq := hq.up hu10
  replace hr := hr.up hu10
  replace hx := hx.up hu10
  replace U := U.trans hu10
  clear hu10
  go_wp2_with fail
  refine (word1 _ _ _ _ hbig.nw).mono ?_
  rintro _ _ ⟨rfl, rfl⟩
  go_wp2_with fail
  refine (text_of _ _ _ _ _ hbig.nw (by omega) (hTW.up U) _ dd_big).mono ?_
  rintro _ w12 ⟨rfl, hu12⟩
  replace hbig := hbig.up hu12
  replace hq := hq.up hu12
  replace hr := hr.up hu12
  replace hx := hx.up hu12
  replace U := U.trans hu12
  clear hu12
  go_wp2_with fail
  replace hbig := hbig.up ((Up.refl w12).alloc (.cells #[.int .u64 5, .int .u64 0] 41))
  replace hq := hq.up ((Up.refl w12).alloc (.cells #[.int .u64 5, .int .u64 0] 41))
  replace hr := hr.up ((Up.refl w12).alloc (.cells #[.int .u64 5, .int .u64 0] 41))
  replace hx := hx.up ((Up.refl w12).alloc (.cells #[.int .u64 5, .int .u64 0] 41))
  replace U := U.trans ((Up.refl w12).alloc (.cells #[.int .u64 5, .int .u64 0] 41))
  refine (norm_any _ _ 2 _ 5 (lit2 _ 5 0 _ _ _ rfl rfl (by omega) (by omega) rfl)).mono ?_
  rintro _ w13 ⟨vf, rfl, hf, hu13⟩
  replace hbig := hbig.up hu13
  replace hq := hq.up hu13
  replace hr := hr.up hu13
  replace hx := hx.up hu13
  replace U := U.trans hu13
  clear hu13
  go_wp2_with fail
  refine (text_of _ _ _ _ _ hf.nw (by omega) (hTW.up U) _ dd_5).mono ?_
  rintro _ w14 ⟨rfl, hu14⟩
  replace hbig := hbig.up hu14
  replace hq := hq.up hu14
  replace hr := hr.up hu14
  replace hx := hx.up hu14
  replace hf := hf.up hu14
  replace U := U.trans hu14
  clear hu14
  go_wp2_with fail
  refine (text_of _ 0 0 _ 0 (Nt.nil _ _ _).nw (by omega) (hTW.up U) _ dd_0).mono ?_
  rintro _ w15 ⟨rfl, hu15⟩
  replace hbig := hbig.up hu15
  replace hq := hq.up hu15
  replace hr := hr.up hu15
  replace hx := hx.up hu15
  replace U := U.trans hu15
  clear hu15
  go_wp2_with fail
  refine (of_zero _).mono ?_
  rintro _ w16 ⟨A0, c0, rfl, hu16⟩
  replace hbig := hbig.up hu16
  replace hq := hq.up hu16
  replace hr := hr.up hu16
  replace hx := hx.up hu16
  replace U := U.trans hu16
  clear hu16
  go_wp2_with fail
  refine (text_of _ _ _ _ _ hq.nw (by omega) (hTW.up U) _ dd_q).mono ?_
  rintro _ w17 ⟨rfl, hu17⟩
  replace hbig := hbig.up hu17
  replace hq := hq.up hu17
  replace hr := hr.up hu17
  replace hx := hx.up hu17
  replace U := U.trans hu17
  clear hu17
  go_wp2_with fail
  refine (text_of _ _ _ _ _ hr.nw (by omega) (hTW.up U) _ dd_r).mono ?_
  rintro _ w18 ⟨rfl, hu18⟩
  replace hbig := hbig.up hu18
  replace hq := hq.up hu18
  replace hr := hr.up hu18
  replace hx := hx.up hu18
  replace U := U.trans hu18
  clear hu18
  go_wp2_with fail
  refine (cmp_eq1 _ _ _ _ _ _ _ hx.nw hbig.nw).mono ?_
  rintro _ w19 ⟨rfl, kk19, hk19⟩
  have hu19 : Up w18 w19 := by rw [hk19]; exact (Up.refl _).drewN _
  clear hk19
  replace hbig := hbig.up hu19
  replace hq := hq.up hu19
  replace hr := hr.up hu19
  replace hx := hx.up hu19
  replace U := U.trans hu19
  clear hu19
  go_wp2_with fail
  refine (bits1 _ _ _ _ hbig.nw).mono ?_
  rintro _ _ ⟨rfl, rfl⟩
  go_wp2_with fail
  refine (bit64 _ _ _ _ hbig.nw).mono ?_
  rintro _ _ ⟨rfl, rfl⟩
  go_wp2_with fail
  refine (bit_neg _ _ _ (by omega)).mono ?_
  rintro _ _ ⟨rfl, rfl⟩
  go_wp2_with fail
  refine (even1 _ _ _ _ hbig.nw).mono ?_
  rintro _ _ ⟨rfl, rfl⟩
  go_wp2_with fail
  refine (pow20 _).mono ?_
  rintro _ w24 ⟨vp, rfl, hp, hu24⟩
  replace hbig := hbig.up hu24
  replace hq := hq.up hu24
  replace hr := hr.up hu24
  replace hx := hx.up hu24
  replace U := U.trans hu24
  clear hu24
  go_wp2_with fail
  refine (text_of _ _ _ _ _ hp.nw (by omega) (hTW.up U) _ dd_p).mono ?_
  rintro _ w25 ⟨rfl, hu25⟩
  replace hbig := hbig.up hu25
  replace hq := hq.up hu25
  replace hr := hr.up hu25
  replace hx := hx.up hu25
  replace hp := hp.up hu25
  replace U := U.trans hu25
  clear hu25
  go_wp2_with fail
  go_ret
  exact ⟨rfl, U⟩
end Go.Proofs.YteeepfhjbemgoaaDoor
