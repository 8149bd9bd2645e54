/-
  What must be in any case, of quires.
-/
import Derived.Test.YtijpffgocookaaaGreatDoorYa
import Derived.Test.YtijpffgocookaaaGreatDoorYc
namespace Go.Proofs.YtijpffgocookaaaGreatDoor
open Go.RowKit Go.Shelf
set_option linter.unusedVariables false
set_option linter.unusedSimpArgs false

/-- True, and nothing that was there has turned. -/
def True15 (w : World) (e : Ending) (w' : World) : Prop := e = .returned (.bool true) ∧ Up w w'
theorem Sd3.sl {w0 w : World} {φ ψ : Thg} {s : Nat} {v : Value} {a : Nat} (S : Sd3 w0 w φ ψ (Nmb s v a)) : ∃ A n c, v = .slice A n c := by
  obtain ⟨F, G, H, h1, h2, ⟨A, n, c, xs, e, _⟩, _⟩ := S.st
  exact ⟨A, n, c, e⟩
theorem Sd3.nt {w0 w : World} {φ ψ : Thg} {s : Nat} {v : Value} {a : Nat} (S : Sd3 w0 w φ ψ (Nmb s v a)) : Nt w 0 s v a := by
  obtain ⟨F, G, H, h1, h2, h3, _⟩ := S.st
  exact h3.nt
theorem Nt.one_word {w : World} {lo s : Nat} {A : Option Addr} {n c a : Nat} (h : Nt w lo s (.slice A n c) a) (h0 : 0 < a) (h1 : a < 18446744073709551616) : n = 1 ∧ ∃ b o, A = some ⟨b, o, none⟩ ∧ w.cell? ⟨b, o, none⟩ = some (u64 a) := by
  obtain ⟨A', n', c', xs, e, hw, hv, _, hn⟩ := h
  cases e
  have hx : xs = [a] := M.val_inj hw.wds (by intro x hx; simp at hx; omega) hn (by simp [M.Nrm]; omega) (by rw [hv]; simp [M.val])
  subst hx
  have h2 := hw.num
  simp at h2
  subst h2
  obtain ⟨b, o, e, _, hc⟩ := hw.at_ (by omega)
  exact ⟨rfl, b, o, e, (hc 0 (by omega)).1⟩
theorem Nt.no_word {w : World} {lo s : Nat} {A : Option Addr} {n c : Nat} (h : Nt w lo s (.slice A n c) 0) : n = 0 := by
  obtain ⟨A', n', c', xs, e, hw, hv, _, hn⟩ := h
  cases e
  have : xs = [] := M.val_inj hw.wds M.Wds.nil hn M.Nrm.nil (by rw [hv]; rfl)
  subst this
  exact hw.num.symm
section
variable {Is : Nat → Nat → Nat → Thg}
set_option maxHeartbeats 4000000 in
set_option maxRecDepth 100000 in
theorem shown15_any (Q : Qui Is) (w : World) (TT : Hid (Tz w)) (TF : Hid (TabF w)) : Calls Tryz.prog 12 #[] w (True15 w) := by
  have S := Sd3.start (Up.refl w)
  go_enter Tryz.func12, Tryz.ntmps12
  go_wp2_with fail
  refine (Q.fresh_ TF.out (by first | exact S | exact S.pure ((Up.refl _).drew) | exact S.pure ((Up.refl _).drewN _)) (i := 1) (by decide) (by decide)).mono ?_
  clear S
  rintro _ w1 ⟨p, rfl, S⟩
  go_wp2_with fail
  refine (Q.none_ _ (TF.out.up (by first | exact S.up | exact S.up.drew | exact S.up.drewN _)) 5 (by decide)).mono ?_
  rintro _ w2 ⟨rfl, u⟩
  replace S := S.pure u
  go_wp2_with fail
  refine (Q.add_ TT.out TF.out (by first | exact S | exact S.pure ((Up.refl _).drew) | exact S.pure ((Up.refl _).drewN _)) 64 64 (by decide) (by decide) _ _ M.sh15_a).mono ?_
  clear S
  rintro _ w3 ⟨rfl, S⟩
  rw [M.sh15_e] at S
  go_wp2_with fail
  refine (Q.keep_ TT.out TF.out (by first | exact S | exact S.pure ((Up.refl _).drew) | exact S.pure ((Up.refl _).drewN _))).mono ?_
  clear S
  rintro _ w4 ⟨v, rfl, S⟩
  obtain ⟨A, n, c, rfl⟩ := S.sl
  go_wp2_with fail
  refine (Q.sub_ TT.out TF.out (by first | exact S | exact S.pure ((Up.refl _).drew) | exact S.pure ((Up.refl _).drewN _)) 64 72 (by decide) (by decide) _ _ M.sh15_b).mono ?_
  clear S
  rintro _ w5 ⟨rfl, S⟩
  rw [M.sh15_f] at S
  go_wp2_with fail
  refine (Q.posit_ TT.out TF.out (by first | exact S | exact S.pure ((Up.refl _).drew) | exact S.pure ((Up.refl _).drewN _)) _ M.sh15_g).mono ?_
  clear S
  rintro _ w6 ⟨rfl, S⟩
  go_wp2_with fail
  refine (Q.add_ TT.out TF.out (by first | exact S | exact S.pure ((Up.refl _).drew) | exact S.pure ((Up.refl _).drewN _)) 256 0 (by decide) (by decide) _ _ M.sh15_c).mono ?_
  clear S
  rintro _ w7 ⟨rfl, S⟩
  rw [M.sh15_h] at S
  go_wp2_with fail
  refine (Q.add_ TT.out TF.out (by first | exact S | exact S.pure ((Up.refl _).drew) | exact S.pure ((Up.refl _).drewN _)) 128 0 (by decide) (by decide) _ _ M.sh15_d).mono ?_
  clear S
  rintro _ w8 ⟨rfl, S⟩
  rw [M.qst_none] at S
  go_wp2_with fail
  refine (Q.nar_ TT.out TF.out (by first | exact S | exact S.pure ((Up.refl _).drew) | exact S.pure ((Up.refl _).drewN _)) true (decide_eq_true rfl)).mono ?_
  clear S
  rintro _ w9 ⟨rfl, S⟩
  go_wp2_with fail
  refine (Q.clear_ TT.out TF.out (by first | exact S | exact S.pure ((Up.refl _).drew) | exact S.pure ((Up.refl _).drewN _))).mono ?_
  clear S
  rintro _ w10 ⟨rfl, S⟩
  obtain ⟨rfl, b, o, rfl, hc⟩ := (S.nt).one_word (by decide) (by decide)
  go_wp2_with fail
  refine (Q.bits_ TT.out TF.out (by first | exact S | exact S.pure ((Up.refl _).drew) | exact S.pure ((Up.refl _).drewN _))).mono ?_
  clear S
  rintro _ w11 ⟨v, rfl, hn, u, S⟩
  obtain ⟨A, m, d, rfl⟩ : ∃ A m d, v = .slice A m d := by obtain ⟨A, m, d, _, e, _⟩ := hn; exact ⟨A, m, d, e⟩
  obtain rfl := hn.no_word
  clear hn u hc
  go_wp2_with fail
  refine (Q.size_ TT.out TF.out (by first | exact S | exact S.pure ((Up.refl _).drew) | exact S.pure ((Up.refl _).drewN _))).mono ?_
  clear S
  rintro _ w12 ⟨rfl, S⟩
  rw [M.qs1]
  go_wp2_with fail
  go_ret
  exact ⟨by first | rfl | simp, by first | exact S.up | exact S.up.drew | exact S.up.drewN _⟩
end
end Go.Proofs.YtijpffgocookaaaGreatDoor
