/-
  Proved here: what boundByEachOther and crossed of package num make of what is known behind a pointer. Conditions: the pointer's block holds it.
-/
import Derived.Test.YtbljijbmjccalaaNumB
import Derived.StillTailTactics
namespace Go.Proofs.Ytbljijbmjccalaa
open Go.RowKit
attribute [local go_sem] u_and u_or u_xor u_andNot u_add u_sub s_conv u_conv max_u min_u max_s min_s

theorem each1_yes {k : K} (h : (decide (s k.a < 0) == decide (s k.b < 0)) = true) : k.each1 = k.inS k.a k.b := if_pos h
theorem each1_no {k : K} (h : (decide (s k.a < 0) == decide (s k.b < 0)) = false) : k.each1 = k := by unfold K.each1 K.sideU; rw [h]; rfl
theorem each2_yes {k : K} (h : (decide (s k.c < 0) == decide (s k.d < 0)) = true) : k.each2 = k.inU k.c k.d := if_pos h
theorem each2_no {k : K} (h : (decide (s k.c < 0) == decide (s k.d < 0)) = false) : k.each2 = k := by unfold K.each2 K.sideS; rw [h]; rfl
set_option maxHeartbeats 1000000 in
theorem byEach_num (g : Nat) (k : K) (w : World) (h : AtK g k w) : Calls Try.prog 56 #[.pointer (some ⟨g, 0, none⟩)] w (Turns (.tuple #[]) g k.each1.each2 w) := by
  unfold Turns
  obtain ⟨c0, c1, c2, c3, c4, c5⟩ := at_cells h
  have HH := Lib.hid h
  clear h
  go_enter Try.func56, Try.ntmps56
  go_wp2
  go_quiet (fail)
  have HD := Lib.hid (at_drews HH.out nq)
  have BD := Lib.hid (below_drews (Below.refl g w) nq)
  obtain ⟨W, hW⟩ : ∃ W, w.drewN nq = W := ⟨_, rfl⟩
  rw [hW] at HD BD ⊢
  clear hW
  go_upto_if 18 with fail
  go_cut [] (fun wx => AtK g k.each1 wx ∧ Below g w wx)
  case first =>
    clear c0 c1 c2 c3 c4 c5
    go_wp2_with (go_at_call 52; refine (withinSigned_num g k _ _ _ HD.out).mono ?_; rintro e w1 ⟨rfl, h1, b1⟩; have H1 := Lib.hid h1; have B1 := Lib.hid b1; clear h1 b1)
    all_goals
      go_meet
      first
        | exact ⟨by rw [each1_yes (by assumption)]; exact H1.out, BD.out.trans B1.out⟩
        | exact ⟨by rw [each1_no (by assumption)]; exact HD.out, BD.out⟩
  case rest =>
    obtain ⟨h1, b1⟩ := hcut
    obtain ⟨k1, hk1⟩ : ∃ k1, k.each1 = k1 := ⟨_, rfl⟩
    rw [hk1] at h1
    have HK := Lib.hid hk1
    have H1 := Lib.hid h1
    have B1 := Lib.hid b1
    clear c0 c1 c2 c3 c4 c5 b1 HD BD W HH hk1
    obtain ⟨c0, c1, c2, c3, c4, c5⟩ := at_cells h1
    clear h1
    go_wp2
    go_quiet (fail)
    have H2 := Lib.hid (at_drews H1.out nq)
    have B2 := Lib.hid (below_drews B1.out nq)
    obtain ⟨W, hW⟩ : ∃ W, wc.drewN nq = W := ⟨_, rfl⟩
    rw [hW] at H2 B2 ⊢
    clear hW c0 c1 c2 c3 c4 c5 H1 B1
    obtain ⟨c0, c1, c2, c3, c4, c5⟩ := at_cells H2.out
    go_upto_region 4 with fail
    all_goals first
      | (go_still_tail 11, (by kernel_rfl)
         change wpList _ _ _ _ _ W.drew
         have HD := Lib.hid (at_drew H2.out)
         have BD := Lib.hid B2.out.drew
         clear c0 c1 c2 c3 c4 c5
         generalize W.drew = W2 at *
         go_wp2_with (go_at_call 51; refine (within_num g k1 _ _ _ HD.out).mono ?_; rintro e w3 ⟨rfl, h3, b3⟩; have H3 := Lib.hid h3; have B3 := Lib.hid b3; clear h3 b3)
         go_end0
         exact ⟨rfl, by rw [HK.out, each2_yes (by assumption)]; exact H3.out, BD.out.trans B3.out⟩)
      | (go_end0
         exact ⟨rfl, by rw [HK.out, each2_no (by assumption)]; exact H2.out, B2.out⟩)
theorem crossed_num (g : Nat) (k : K) (w : World) (h : AtK g k w) : Calls Try.prog 57 #[.pointer (some ⟨g, 0, none⟩)] w (Turns (.bool k.crossed) g k w) := by
  unfold Turns
  obtain ⟨c0, c1, c2, c3, c4, c5⟩ := at_cells h
  have HH := Lib.hid h
  clear h
  unfold K.crossed
  go_enter Try.func57, Try.ntmps57
  cases hd : decide (u k.b < u k.a)
  all_goals
    go_wp2
    go_quiet (fail)
    go_wp2
    go_ret
    exact ⟨by simp, at_drews HH.out _, below_drews (Below.refl _ _) _⟩
end Go.Proofs.Ytbljijbmjccalaa
