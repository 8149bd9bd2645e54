/-
  Package posit: where a word's bits begin and end; the sizes; what may not be; the run, and what is behind it.
-/
import Derived.Test.YtjcbncfpcechnaaDoorPf
import Derived.Test.YtjcbncfpcechnaaDoorTz
import Derived.Test.YtjcbncfpcechnaaDoorLz
import Derived.WalkLawsBesides
namespace Go.Proofs.YtjcbncfpcechnaaDoor
open Go.RowKit Go.Shelf

/-- It ends in the program's own word that an argument may not be. -/
def Pns (w : World) (e : Ending) (w' : World) : Prop := (∃ s, e = .panicked [{ v := .iface 9 (.string s), recovered := false }]) ∧ Up w w'
/-- It ends in the program's own word that there is none. -/
def Pnn (w : World) (e : Ending) (w' : World) : Prop := (∃ s, e = .panicked [{ v := .iface 105 (.string s), recovered := false }]) ∧ Up w w'
theorem size_in (w : World) (n : Nat) (h2 : 2 ≤ n) (hn : n ≤ 64) : Calls Tryd.prog 77 #[.int .i64 ((n : Int) + 1)] w (Same (.int .i64 (n : Int)) w) := by
  have d1 : decide ((n : Int) + 1 < 3) = false := decide_eq_false (by omega)
  have d2 : decide (65 < (n : Int) + 1) = false := decide_eq_false (by omega)
  go_enter Tryd.func77, Tryd.ntmps77
  go_wp2_with fail
  go_ret
  exact ⟨by first | rfl | exact ret_int (by omega), rfl⟩
theorem size_out (w : World) (wd : Int) (h : wd < 3 ∨ 65 < wd) : Calls Tryd.prog 77 #[.int .i64 wd] w (Pns w) := by
  rcases (show wd < 3 ∨ (¬ wd < 3 ∧ 65 < wd) by omega) with h1 | ⟨h0, h1⟩
  · have d1 : decide (wd < 3) = true := decide_eq_true h1
    clear h
    go_enter Tryd.func77, Tryd.ntmps77
    go_wp2_with fail
    exact ⟨rfl, ⟨_, rfl⟩, Up.refl _⟩
  · have d1 : decide (wd < 3) = false := decide_eq_false h0
    have d2 : decide (65 < wd) = true := decide_eq_true h1
    clear h
    go_enter Tryd.func77, Tryd.ntmps77
    go_wp2_with fail
    exact ⟨rfl, ⟨_, rfl⟩, Up.refl _⟩

namespace M
/-- r bits are behind the run of the regime R, of n bits. -/
def Lf (n : Nat) (R : Int) (r : Nat) : Prop := (R < 0 ∧ R + n - 1 = r) ∨ (0 ≤ R ∧ R + 2 ≤ n ∧ n - R - 2 = r) ∨ (R + 1 = n ∧ r = 0)
theorem Ps.lf {n k r q : Nat} {R : Int} (h : Ps n k R r q) : Lf n R r := by
  obtain ⟨_, h | h | h⟩ := h
  · exact .inl (by omega)
  · exact .inr (.inl (by omega))
  · exact .inr (.inr (by omega))
theorem lf_ex {n : Nat} {R : Int} (h1 : -(n : Int) < R) (h2 : R < n) : ∃ r, Lf n R r := by
  rcases (show R < 0 ∨ (0 ≤ R ∧ R + 2 ≤ n) ∨ R + 1 = n by omega) with h | h | h
  · exact ⟨(R + n - 1).toNat, .inl (by omega)⟩
  · exact ⟨(n - R - 2).toNat, .inr (.inl (by omega))⟩
  · exact ⟨0, .inr (.inr ⟨h, rfl⟩)⟩
end M
set_option maxHeartbeats 1000000 in
theorem behind_any (w : World) (n r : Nat) (R : Int) (h2 : 2 ≤ n) (hn : n ≤ 64) (h : M.Lf n R r) :
    Calls Tryd.prog 83 #[.int .i64 (n : Int), .int .i64 R] w (Same (.tuple #[.int .i64 ((min r 2 : Nat) : Int), .int .i64 ((r - 2 : Nat) : Int)]) w) := by
  have d1 : decide (R ≤ -(n : Int)) = false := decide_eq_false (by rcases h with h | h | h <;> omega)
  have d2 : decide ((n : Int) ≤ R) = false := decide_eq_false (by rcases h with h | h | h <;> omega)
  have b1 : -64 ≤ R ∧ R ≤ 64 := by rcases h with h | h | h <;> omega
  have e1 : min (max 0 ((n : Int) - max (R + 1) (-R) - 1)) 2 = ((min r 2 : Nat) : Int) := by rcases h with h | h | h <;> omega
  have e2 : max 0 ((n : Int) - max (R + 1) (-R) - 1) - ((min r 2 : Nat) : Int) = ((r - 2 : Nat) : Int) := by rcases h with h | h | h <;> omega
  have E1 := Lib.hid e1
  have E2 := Lib.hid e2
  clear h e1 e2
  go_enter Tryd.func83, Tryd.ntmps83
  go_wp2_with fail
  go_ret2
  exact ⟨by rw [E1.out, E2.out]; rfl, rfl⟩
theorem behind_out (w : World) (n : Nat) (R : Int) (hn : n ≤ 64) (h : R ≤ -(n : Int) ∨ n ≤ R) :
    Calls Tryd.prog 83 #[.int .i64 (n : Int), .int .i64 R] w (Pnn w) := by
  by_cases h1 : R ≤ -(n : Int)
  · have d1 : decide (R ≤ -(n : Int)) = true := decide_eq_true h1
    clear h
    go_enter Tryd.func83, Tryd.ntmps83
    go_wp2_with fail
    exact ⟨rfl, ⟨_, rfl⟩, Up.refl _⟩
  · have d1 : decide (R ≤ -(n : Int)) = false := decide_eq_false h1
    have d2 : decide ((n : Int) ≤ R) = true := decide_eq_true (by omega)
    clear h
    go_enter Tryd.func83, Tryd.ntmps83
    go_wp2_with fail
    exact ⟨rfl, ⟨_, rfl⟩, Up.refl _⟩
namespace M
/-- The bits of a word, the key at its highest ones: how many equal ones it begins with. -/
theorem reg_run {n k r q : Nat} {R : Int} (hn : n ≤ 64) (h : Ps n k R r q) :
    k * 2 ^ (64 - n) < 2 ^ 64 ∧ ((R < 0 ∧ bits (2 ^ 64 - 1 - k * 2 ^ (64 - n)) = 64 ∧ 64 - (bits (k * 2 ^ (64 - n)) : Int) = -R) ∨ (0 ≤ R ∧ 64 - (bits (2 ^ 64 - 1 - k * 2 ^ (64 - n)) : Int) = R + 1)) := by
  have g := h.rng
  have e64 : 2 ^ n * 2 ^ (64 - n) = 2 ^ 64 := by rw [← Nat.pow_add, show n + (64 - n) = 64 by omega]
  have p := p2 (64 - n)
  have hlt : k * 2 ^ (64 - n) < 2 ^ 64 := by rw [← e64]; exact Nat.mul_lt_mul_of_pos_right g.2.1 p
  refine ⟨hlt, ?_⟩
  obtain ⟨hq, h | h | h⟩ := h
  · obtain ⟨rfl, h1, rfl⟩ := h
    refine .inl ⟨by omega, ?_, ?_⟩
    · apply bits_of (b := 63)
      · have a1 : 2 ^ r + q < 2 ^ (n - 1) := Nat.lt_of_lt_of_le (show 2 ^ r + q < 2 ^ (r + 1) by rw [p2s]; omega) (p2le (by omega))
        have a2 : (2 ^ r + q) * 2 ^ (64 - n) < 2 ^ (n - 1) * 2 ^ (64 - n) := Nat.mul_lt_mul_of_pos_right a1 p
        rw [← Nat.pow_add, show n - 1 + (64 - n) = 63 by omega] at a2
        have e2 : (2 : Nat) ^ 64 = 2 * 2 ^ 63 := by decide
        omega
      · have : (2 : Nat) ^ (63 + 1) = 2 ^ 64 := rfl
        have : 0 < (2 : Nat) ^ 64 := p2 _
        omega
    · rw [bits_of (b := r + (64 - n))]
      · omega
      · rw [Nat.pow_add]; exact Nat.mul_le_mul_right _ (by omega)
      · rw [show r + (64 - n) + 1 = r + 1 + (64 - n) by omega, Nat.pow_add]
        exact Nat.mul_lt_mul_of_pos_right (by rw [p2s]; omega) p
  · obtain ⟨h0, h1, rfl⟩ := h
    refine .inr ⟨by omega, ?_⟩
    have ps := p2s r
    have e4 : k + (2 ^ (r + 1) - q) = 2 ^ n := by clear e64 p hlt g; omega
    have e3 : 2 ^ 64 - 1 - k * 2 ^ (64 - n) = (2 ^ (r + 1) - q) * 2 ^ (64 - n) - 1 := by
      have : k * 2 ^ (64 - n) + (2 ^ (r + 1) - q) * 2 ^ (64 - n) = 2 ^ 64 := by
        rw [← Nat.add_mul, e4, e64]
      omega
    have a1 : (2 ^ r + 1) * 2 ^ (64 - n) ≤ (2 ^ (r + 1) - q) * 2 ^ (64 - n) := Nat.mul_le_mul_right _ (by have := p2s r; omega)
    have a2 : (2 ^ (r + 1) - q) * 2 ^ (64 - n) ≤ 2 ^ (r + 1) * 2 ^ (64 - n) := Nat.mul_le_mul_right _ (by omega)
    rw [Nat.add_mul, Nat.one_mul] at a1
    rw [e3, bits_of (b := r + (64 - n))]
    · omega
    · rw [Nat.pow_add 2 r (64 - n)]; omega
    · rw [show r + (64 - n) + 1 = r + 1 + (64 - n) by omega, Nat.pow_add 2 (r + 1) (64 - n)]; omega
  · obtain ⟨h0, rfl, h1, rfl⟩ := h
    refine .inr ⟨by omega, ?_⟩
    have e3 : 2 ^ 64 - 1 - k * 2 ^ (64 - n) = 2 ^ (64 - n) - 1 := by
      have : k * 2 ^ (64 - n) + 2 ^ (64 - n) = 2 ^ 64 := by rw [← Nat.succ_mul, show k.succ = 2 ^ n by omega, e64]
      omega
    rw [e3]
    by_cases h64 : n = 64
    · subst h64
      have : bits (2 ^ (64 - 64) - 1) = 0 := rfl
      omega
    · rw [bits_of (b := 63 - n)]
      · omega
      · have := p2s (63 - n)
        rw [show 63 - n + 1 = 64 - n by omega] at this
        have := p2 (63 - n)
        omega
      · rw [show 63 - n + 1 = 64 - n by omega]; omega
end M
theorem not_u64 (x : Nat) (hx : x < 18446744073709551616) : bits BinOp.xor IntKind.u64 IntKind.u64.max (x : Int) = ((2 ^ 64 - 1 - x : Nat) : Int) := by
  have h1 : (BitVec.ofInt 64 (x : Int)).toNat = x := by
    rw [BitVec.ofInt_natCast, BitVec.toNat_ofNat]; exact Nat.mod_eq_of_lt (by omega)
  have h2 : BitVec.ofInt 64 IntKind.u64.max = BitVec.allOnes 64 := by decide
  show IntKind.u64.wrap ((BitVec.ofInt 64 IntKind.u64.max ^^^ BitVec.ofInt 64 (x : Int)).toNat : Int) = _
  rw [h2, BitVec.allOnes_xor, BitVec.toNat_not, h1]
  simp [IntKind.wrap, IntKind.bits, IntKind.signed]
  omega
set_option maxHeartbeats 1000000 in
theorem regime_any (w : World) (n k r q : Nat) (R : Int) (hn : n ≤ 64) (h : M.Ps n k R r q) :
    Calls Tryd.prog 82 #[.int .i64 (n : Int), u64 k] w (Same (.int .i64 R) w) := by
  have g := h.rng
  obtain ⟨hlt, hr⟩ := M.reg_run hn h
  obtain ⟨s, hs⟩ : ∃ s, 64 - n = s := ⟨_, rfl⟩
  obtain ⟨x, hx⟩ : ∃ x, k * 2 ^ (64 - n) = x := ⟨_, rfl⟩
  rw [hx] at hlt hr
  have xs : (k : Int) * 2 ^ s = (x : Int) := by rw [← hx, ← hs]; push_cast; rfl
  have ss : (64 : Int) - n = (s : Int) := by omega
  have sb : s ≤ 62 := by omega
  have xb : x < 18446744073709551616 := hlt
  have nx := not_u64 x xb
  obtain ⟨y, hy⟩ : ∃ y, 2 ^ 64 - 1 - x = y := ⟨_, rfl⟩
  have yb : y < 18446744073709551616 := by omega
  rw [hy] at nx hr
  clear hy
  have rb : -64 ≤ R ∧ R ≤ 64 := by omega
  clear hs hx hlt
  rcases hr with ⟨r0, r1, r2⟩ | ⟨r0, r1⟩
  · have CL := Lib.hid (fun W => lead64_any y yb W)
    have CM := Lib.hid (fun W => lead64_any x xb W)
    rw [r1] at CL
    rw [r2] at CM
    have t0 : decide ((0 : Int) < 64 - ((64 : Nat) : Int)) = false := rfl
    clear r1 r2 h g
    go_enter Tryd.func82, Tryd.ntmps82
    go_wp2_with fail
    refine (CL.out _).mono ?_
    rintro _ _ ⟨rfl, rfl⟩
    go_wp2_with fail
    refine (CM.out _).mono ?_
    rintro _ _ ⟨rfl, rfl⟩
    go_wp2_with fail
    go_ret
    exact ⟨by first | rfl | exact ret_int (by omega), rfl⟩
  · have CL := Lib.hid (fun W => lead64_any y yb W)
    rw [r1] at CL
    have t0 : decide ((0 : Int) < R + 1) = true := decide_eq_true (by omega)
    clear r1 h g
    go_enter Tryd.func82, Tryd.ntmps82
    go_wp2_with fail
    refine (CL.out _).mono ?_
    rintro _ _ ⟨rfl, rfl⟩
    go_wp2_with fail
    go_ret
    exact ⟨by first | rfl | exact ret_int (by omega), rfl⟩
end Go.Proofs.YtjcbncfpcechnaaDoor
