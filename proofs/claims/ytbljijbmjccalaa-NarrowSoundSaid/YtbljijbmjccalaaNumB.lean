/-
  Proved here: what boundByBits, boundByEachOther and crossed of package num make of what is known behind a pointer. Conditions: the pointer's block holds it.
-/
import Derived.Test.YtbljijbmjccalaaNum
import Derived.Deep.QuietTactic
import Derived.BigQuiet
namespace Go.Proofs.Ytbljijbmjccalaa
open Go.RowKit
attribute [local go_sem] u_and u_or u_xor u_andNot u_add u_sub s_conv u_conv max_u min_u max_s min_s

/-- Bits with the highest one alone. -/
theorem u_low63 (x : B64) : bits .andNot .u64 (u x) 9223372036854775807 = u (x &&& half) := by
  have e : (9223372036854775807 : Int) = u most := u_most.symm
  rw [e, u_andNot]
  have : ~~~most = half := by decide
  rw [this]
theorem sideU_eq (k : K) : (decide (s k.a < 0) == decide (s k.b < 0)) = k.sideU := rfl
theorem sideS_eq (k : K) : (decide (s k.c < 0) == decide (s k.d < 0)) = k.sideS := rfl
attribute [local go_sem] u_low63
theorem at_drews {g : Nat} {k : K} {W : World} (h : AtK g k W) (n : Nat) : AtK g k (W.drewN n) := by
  induction n with
  | zero => exact h
  | succ n ih => exact ih
set_option maxHeartbeats 1000000 in
theorem byBits_num (g : Nat) (k : K) (w : World) (h : AtK g k w) : Calls Try.prog 55 #[.pointer (some ⟨g, 0, none⟩)] w (Turns (.tuple #[]) g k.byBits w) := by
  unfold Turns
  obtain ⟨c0, c1, c2, c3, c4, c5⟩ := at_cells h
  have HH := Lib.hid h
  clear h
  go_enter Try.func55, Try.ntmps55
  go_wp2
  go_quiet (fail)
  have HD := Lib.hid (at_drews HH.out nq)
  have BD := Lib.hid (below_drews (Below.refl g w) nq)
  obtain ⟨W, hW⟩ : ∃ W, w.drewN nq = W := ⟨_, rfl⟩
  rw [hW] at HD BD ⊢
  clear hW
  all_goals
    clear c0 c1 c2 c3 c4 c5
    go_wp2_with (first
      | (go_at_call 51; refine (within_num g k _ _ _ HD.out).mono ?_; rintro e w1 ⟨rfl, h1, b1⟩; obtain ⟨c0, c1, c2, c3, c4, c5⟩ := at_cells h1; have H1 := Lib.hid h1; have B1 := Lib.hid b1; clear h1 b1)
      | (go_at_call 52; refine (withinSigned_num g _ _ _ _ H1.out).mono ?_; rintro e w2 ⟨rfl, h2, b2⟩; have H2 := Lib.hid h2; have B2 := Lib.hid b2; clear h2 b2))
    go_end0
    exact ⟨rfl, H2.out, BD.out.trans (B1.out.trans B2.out)⟩
end Go.Proofs.Ytbljijbmjccalaa
