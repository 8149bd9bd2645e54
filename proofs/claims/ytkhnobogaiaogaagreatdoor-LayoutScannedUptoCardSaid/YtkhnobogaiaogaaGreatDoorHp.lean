/-
  What package layout calls: texts cut, joined, repeated; must; and Right: its contract.
-/
import Derived.Test.YtkhnobogaiaogaaGreatDoorHb
import Derived.Test.YtkhnobogaiaogaaGreatDoorHm
import Derived.Test.YtkhnobogaiaogaaGreatDoorObm
import Derived.Lib.IndexBytes
import Derived.Lib.Join
import Derived.Lib.Walk
import Derived.Shelf.RegionOpenPlain
import Derived.OwnWalk
import Derived.BigQuiet
namespace Go.Proofs.YtkhnobogaiaogaaGreatDoor
open Go.RowKit Go.Shelf
set_option linter.unusedVariables false
set_option linter.unusedSimpArgs false

/-! Cut at one byte. -/
theorem M.cut_ix (l : List UInt8) (c : UInt8) : (Lib.indexByte l c = -1 ∧ Lib.cut l [c] = (l, [], false)) ∨ ∃ i : Nat, Lib.indexByte l c = i ∧ i + 1 ≤ l.length ∧ Lib.cut l [c] = (l.take i, l.drop (i + 1), true) := by
  rw [← Lib.index_one]
  have h := Lib.index_ge l [c]
  by_cases h0 : Lib.index l [c] = -1
  · left
    refine ⟨h0, ?_⟩
    unfold Lib.cut
    rw [if_neg (by omega)]
  · right
    obtain ⟨i, hi⟩ : ∃ i : Nat, Lib.index l [c] = i := ⟨(Lib.index l [c]).toNat, by omega⟩
    refine ⟨i, hi, ?_, ?_⟩
    · rw [Lib.index_one] at hi
      have := (Lib.indexByte_some hi).1
      exact (List.getElem?_eq_some_iff.1 this).1
    · unfold Lib.cut
      rw [hi, if_pos (by omega), Int.toNat_natCast]
      rfl

/-- What a cut comes to. -/
def Ctt (x y : List UInt8) (f : Bool) (w : World) (e : Ending) (w' : World) : Prop := ∃ a b, e = .returned (.tuple #[.string a, .string b, .bool f]) ∧ Tx a x ∧ Tx b y ∧ Up w w'

set_option maxHeartbeats 2000000 in
set_option maxRecDepth 100000 in
theorem lcut_any (w : World) (s : ByteArray) (c : UInt8) (l : List UInt8) (hs : Tx s l) (hl : l.length ≤ 100000) :
    Calls Tryz.prog 98 #[.string s, .string ⟨#[c]⟩] w (Ctt (Lib.cut l [c]).1 (Lib.cut l [c]).2.1 (Lib.cut l [c]).2.2 w) := by
  have hsz := hs.size
  have CI := Lib.hid (Tryz.stringslite_Index_one s c w)
  have e : s.data.toList = l := hs
  rw [e] at CI
  have HS := Lib.hid hs
  rcases M.cut_ix l c with ⟨h1, h2⟩ | ⟨i, h1, h3, h2⟩
  · rw [h1] at CI
    have H2 := Lib.hid h2
    clear h1 h2 e hs
    go_enter Tryz.func98, Tryz.ntmps98
    go_wp2_with fail
    refine CI.out.mono ?_
    rintro _ w' ⟨rfl, rfl⟩
    go_wp2_with fail
    go_ret3
    rw [H2.out]
    exact ⟨_, _, rfl, HS.out, Tx.lit [], Up.refl _⟩
  · rw [h1] at CI
    have H2 := Lib.hid h2
    obtain ⟨A, hA⟩ : ∃ A, s.extract 0 i = A := ⟨_, rfl⟩
    obtain ⟨B, hB⟩ : ∃ B, s.extract (i + 1) l.length = B := ⟨_, rfl⟩
    have tA : Hid (Tx A (l.take i)) := by
      have := hs.ext 0 i
      rw [hA] at this
      exact this
    have tB : Hid (Tx B (l.drop (i + 1))) := by
      have := hs.ext (i + 1) l.length
      rw [hB, List.take_of_length_le (by rw [List.length_drop]; omega)] at this
      exact this
    have c1 : (0 : Int) ≤ ↑i := by omega
    have c2 : (↑i : Int) ≤ ↑s.size := by omega
    have c3 : (0 : Int) ≤ ↑i + 1 := by omega
    have c4 : (↑i + 1 : Int) ≤ ↑s.size := by omega
    clear h1 h2 e hs h3
    go_enter Tryz.func98, Tryz.ntmps98
    go_wp2_with fail
    refine CI.out.mono ?_
    rintro _ w' ⟨rfl, rfl⟩
    go_wp2_with fail
    go_region
    all_goals
      go_wp2_with fail
      go_ret3
      rw [H2.out]
      exact ⟨_, _, rfl, tA.out, tB.out, by first | exact Up.refl _ | exact (Up.refl _).drewN _⟩

set_option maxHeartbeats 1000000 in
theorem cut_any (w : World) (s : ByteArray) (c : UInt8) (l x y : List UInt8) (f : Bool) (hs : Tx s l) (hl : l.length ≤ 100000) (h : Lib.cut l [c] = (x, y, f)) :
    Calls Tryz.prog 70 #[.string s, .string ⟨#[c]⟩] w (Ctt x y f w) := by
  have CC := Lib.hid (lcut_any w s c l hs hl)
  rw [h] at CC
  clear h hs
  go_enter Tryz.func70, Tryz.ntmps70
  go_wp2_with fail
  refine CC.out.mono ?_
  rintro _ w' ⟨a, b, rfl, h1, h2, u⟩
  go_wp2_with fail
  go_ret3
  exact ⟨a, b, rfl, h1, h2, u⟩

/-! Texts joined. -/
theorem M.join_flat (ls : List (List UInt8)) : Lib.join ls [] = ls.flatten := by
  cases ls with
  | nil => rfl
  | cons x r =>
    rw [Lib.join_cons]
    unfold Lib.joinTail
    simp

set_option maxHeartbeats 1000000 in
theorem join_any (w : World) (b n : Nat) (xs : List ByteArray) (l : List UInt8) (hn : xs.length = n) (hx : Hid ((xs.map (·.data.toList)).flatten = l)) (hc : Hid (∀ (j : Nat) x, xs[j]? = some x → w.cell? ⟨b, 0 + j, none⟩ = some (.string x))) (hb : b < w.heap.size) (hl : l.length ≤ 100000) (h4 : n ≤ 100) :
    Calls Tryz.prog 25 #[.slice (some ⟨b, 0, none⟩) n n] w (Tex l w) := by
  subst hn
  have CJ := Lib.hid (Tryz.strings_Join b 0 xs.length xs ⟨#[]⟩ w hc.out hb (by omega) (Nat.le_refl _) (by rw [show (⟨#[]⟩ : ByteArray).data.toList = [] from rfl, M.join_flat, hx.out]; omega))
  rw [show (⟨#[]⟩ : ByteArray).data.toList = [] from rfl, M.join_flat, hx.out] at CJ
  clear hx hc
  go_enter Tryz.func25, Tryz.ntmps25
  go_wp2_with fail
  refine CJ.out.mono ?_
  rintro _ w' ⟨rfl, u⟩
  go_wp2_with fail
  go_ret
  exact ⟨_, rfl, Tx.lit l, u⟩
theorem join2 (W : World) (b : Nat) (ty : TypeId) (x y : ByteArray) (lx ly : List UInt8) (h : Ob W b ty #[.string x, .string y]) (hx : Tx x lx) (hy : Tx y ly) (hl : lx.length + ly.length ≤ 100000) :
    Calls Tryz.prog 25 #[.slice (some ⟨b, 0, none⟩) 2 2] W (Tex (lx ++ ly) W) := by
  refine join_any W b 2 [x, y] _ rfl (show _ = _ from ?_) (show ∀ _ _, _ → _ from ?_) h.lt (by rw [List.length_append]; exact hl) (by omega)
  · simp only [List.map_cons, List.map_nil, List.flatten_cons, List.flatten_nil, List.append_nil, show x.data.toList = lx from hx, show y.data.toList = ly from hy]
  · intro j z hz
    rw [Nat.zero_add, h.get]
    rcases j with _ | _ | j
    · cases hz; rfl
    · cases hz; rfl
    · exact absurd hz (by simp)
theorem join3 (W : World) (b : Nat) (ty : TypeId) (x y z : ByteArray) (lx ly lz : List UInt8) (h : Ob W b ty #[.string x, .string y, .string z]) (hx : Tx x lx) (hy : Tx y ly) (hz : Tx z lz) (hl : lx.length + ly.length + lz.length ≤ 100000) :
    Calls Tryz.prog 25 #[.slice (some ⟨b, 0, none⟩) 3 3] W (Tex (lx ++ (ly ++ lz)) W) := by
  refine join_any W b 3 [x, y, z] _ rfl (show _ = _ from ?_) (show ∀ _ _, _ → _ from ?_) h.lt (by rw [List.length_append, List.length_append]; omega) (by omega)
  · simp only [List.map_cons, List.map_nil, List.flatten_cons, List.flatten_nil, List.append_nil, show x.data.toList = lx from hx, show y.data.toList = ly from hy, show z.data.toList = lz from hz]
  · intro j v hv
    rw [Nat.zero_add, h.get]
    rcases j with _ | _ | _ | j
    · cases hv; rfl
    · cases hv; rfl
    · cases hv; rfl
    · exact absurd hv (by simp)
theorem join4 (W : World) (b : Nat) (ty : TypeId) (x y z u : ByteArray) (lx ly lz lu : List UInt8) (h : Ob W b ty #[.string x, .string y, .string z, .string u]) (hx : Tx x lx) (hy : Tx y ly) (hz : Tx z lz) (hu : Tx u lu) (hl : lx.length + ly.length + lz.length + lu.length ≤ 100000) :
    Calls Tryz.prog 25 #[.slice (some ⟨b, 0, none⟩) 4 4] W (Tex (lx ++ (ly ++ (lz ++ lu))) W) := by
  refine join_any W b 4 [x, y, z, u] _ rfl (show _ = _ from ?_) (show ∀ _ _, _ → _ from ?_) h.lt (by rw [List.length_append, List.length_append, List.length_append]; omega) (by omega)
  · simp only [List.map_cons, List.map_nil, List.flatten_cons, List.flatten_nil, List.append_nil, show x.data.toList = lx from hx, show y.data.toList = ly from hy, show z.data.toList = lz from hz, show u.data.toList = lu from hu]
  · intro j v hv
    rw [Nat.zero_add, h.get]
    rcases j with _ | _ | _ | _ | j
    · cases hv; rfl
    · cases hv; rfl
    · cases hv; rfl
    · cases hv; rfl
    · exact absurd hv (by simp)

theorem M.rep_nought : ∀ n : Nat, Lib.repeatL [48] n = List.replicate n 48
  | 0 => rfl
  | n + 1 => by
    rw [List.replicate_succ, ← M.rep_nought n]
    rfl
set_option maxHeartbeats 1000000 in
theorem noughts_any (w : World) (n : Nat) (h : n ≤ 20000) : Calls Tryz.prog 43 #[.int .i64 (n : Int)] w (Tex (List.replicate n 48) w) := by
  have CR := Lib.hid (repeat_any ⟨#[48]⟩ n w (by omega) (by show 1 * n ≤ _; omega))
  rw [show (⟨#[48]⟩ : ByteArray).data.toList = [48] from rfl, M.rep_nought] at CR
  go_enter Tryz.func43, Tryz.ntmps43
  go_wp2_with fail
  refine CR.out.mono ?_
  rintro _ w' ⟨rfl, u⟩
  go_wp2_with fail
  go_ret
  exact ⟨_, rfl, Tx.lit _, u⟩

/-! must. -/
/-- A panic with what is wrong. -/
def Pnl (w : World) (e : Ending) (w' : World) : Prop := e = .panicked [{ v := .iface 29 (.int .i64 2), recovered := false }] ∧ Up w w'
set_option maxHeartbeats 1000000 in
theorem lmust_ok (w : World) : Calls Tryz.prog 47 #[.bool true] w (fun e w' => e = .returned (.tuple #[]) ∧ w = w') := by
  go_enter Tryz.func47, Tryz.ntmps47
  go_wp2_with fail
  go_end0
  exact ⟨rfl, rfl⟩
set_option maxHeartbeats 1000000 in
theorem lmust_bad (w : World) : Calls Tryz.prog 47 #[.bool false] w (Pnl w) := by
  go_enter Tryz.func47, Tryz.ntmps47
  go_wp2_with fail
  exact ⟨rfl, rfl, Up.refl w⟩
end Go.Proofs.YtkhnobogaiaogaaGreatDoor
