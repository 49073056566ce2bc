/-
  Proved here: what round of package num makes of what is known behind a pointer. Conditions: the pointer's block holds it.
-/
import Derived.Test.YtbljijbmjccalaaQ2
namespace Go.Proofs.Ytbljijbmjccalaa
open Go.RowKit
attribute [local go_sem] u_and u_or u_xor u_andNot u_add u_sub s_conv u_conv max_u min_u max_s min_s

theorem bound_eq (k : K) : k.byBits.each1.each2 = k.bound := rfl
theorem put_met {k : K} (h : k.ok2 = true) : k.put (mV k.v k.m (rgV k.a k.b) (rgM k.a k.b)) (mM k.v k.m (rgV k.a k.b) (rgM k.a k.b)) = k.step6 := by
  unfold K.ok2 at h
  unfold mV mM K.put K.step6 K.met
  rw [if_pos h, if_pos h]
/-- Returns whether it isn't empty; if so, block g holds what is behind a round. -/
def Rounds (g : Nat) (k : K) (w : World) (e : Ending) (w' : World) : Prop := e = .returned (.bool k.okR) ∧ (k.okR = true → AtK g k.nextR w') ∧ Below g w w'
/-- crossed only reads. -/
theorem crossed_quiet (g : Nat) (k : K) (w : World) (h : AtK g k w) : Calls Try.prog 57 #[.pointer (some ⟨g, 0, none⟩)] w fun e w' => e = .returned (.bool k.crossed) ∧ ∃ n, w' = w.drewN n := by
  obtain ⟨c0, c1, c2, c3, c4, c5⟩ := at_cells h
  clear h
  unfold K.crossed
  go_enter Try.func57, Try.ntmps57
  cases hd : decide (u k.b < u k.a)
  all_goals
    go_wp2
    go_quiet (fail)
    go_wp2
    go_ret
    exact ⟨by simp, _, rfl⟩
set_option maxHeartbeats 8000000 in
theorem round_yes (g : Nat) (k : K) (w : World) (h : AtK g k w) (hc : k.bound.crossed = false) : Calls Try.prog 45 #[.pointer (some ⟨g, 0, none⟩)] w (Rounds g k w) := by
  unfold Rounds K.okR K.nextR
  obtain ⟨q, hq⟩ : ∃ q, k.bound = q := ⟨_, rfl⟩
  rw [hq] at hc ⊢
  have HQ := Lib.hid hq
  have HH := Lib.hid h
  clear h hq
  go_enter Try.func45, Try.ntmps45
  go_upto_region 3 with (first
    | (go_at_call 55; refine (byBits_num g k _ HH.out).mono ?_; rintro e w1 ⟨rfl, h1, b1⟩; have H1 := Lib.hid h1; have B1 := Lib.hid b1; clear h1 b1)
    | (go_at_call 56; refine (byEach_num g _ _ H1.out).mono ?_; rw [bound_eq, HQ.out]; rintro e w2 ⟨rfl, h2, b2⟩; have H2 := Lib.hid h2; have B2 := Lib.hid (B1.out.trans b2); clear h2 b2))
  clear H1 B1
  have hcr := fun W (h : AtK g q W) => crossed_num g q W h
  have hme := fun W (h : AtK g q W) => meet_num g q (rgV q.a q.b) (rgM q.a q.b) W h
  obtain ⟨A, hA⟩ : ∃ A, rgV q.a q.b = A := ⟨_, rfl⟩
  obtain ⟨B, hB⟩ : ∃ B, rgM q.a q.b = B := ⟨_, rfl⟩
  have hra := fun W => range_any q.a q.b W
  have HP := Lib.hid (@put_met q)
  have HO := Lib.hid (show mtOk q.v q.m (rgV q.a q.b) (rgM q.a q.b) = q.ok2 from rfl)
  rw [hc] at hcr
  rw [hA, hB] at hme hra HP HO
  rw [HO.out] at hme
  have HC := Lib.hid hc
  clear hA hB hc
  go_region_with (first
    | (go_at_call 57; refine (hcr _ (at_drew H2.out)).mono ?_; rintro e w3 ⟨rfl, h3, b3⟩; obtain ⟨c0, c1, c2, c3, c4, c5⟩ := at_cells h3; have H3 := Lib.hid h3; have B3 := Lib.hid (B2.out.drew.trans b3); clear h3 b3)
    | (go_at_call 58; refine (hra _).mono ?_; rintro e w4 ⟨rfl, b4⟩; have H4 := Lib.hid (at_keep H3.out b4); have B4 := Lib.hid (B3.out.trans (b4.mono (Nat.le_of_lt (at_lt H3.out)))); clear b4)
    | (go_at_call 53; refine (hme _ H4.out).mono ?_; rintro e w5 ⟨rfl, h5, b5⟩; have H5 := Lib.hid h5; have B5 := Lib.hid (B4.out.trans b5); clear h5 b5))
  all_goals
    go_wp2
    go_ret
    refine ⟨by rw [HC.out]; rfl, fun ho => ?_, B5.out⟩
    rw [HC.out] at ho
    rw [← HP.out ho]
    exact H5.out
set_option maxHeartbeats 2000000 in
theorem round_no (g : Nat) (k : K) (w : World) (h : AtK g k w) (hc : k.bound.crossed = true) : Calls Try.prog 45 #[.pointer (some ⟨g, 0, none⟩)] w (Rounds g k w) := by
  unfold Rounds K.okR K.nextR
  obtain ⟨q, hq⟩ : ∃ q, k.bound = q := ⟨_, rfl⟩
  rw [hq] at hc ⊢
  have HQ := Lib.hid hq
  have HH := Lib.hid h
  clear h hq
  go_enter Try.func45, Try.ntmps45
  go_upto_region 3 with (first
    | (go_at_call 55; refine (byBits_num g k _ HH.out).mono ?_; rintro e w1 ⟨rfl, h1, b1⟩; have H1 := Lib.hid h1; have B1 := Lib.hid b1; clear h1 b1)
    | (go_at_call 56; refine (byEach_num g _ _ H1.out).mono ?_; rw [bound_eq, HQ.out]; rintro e w2 ⟨rfl, h2, b2⟩; have H2 := Lib.hid h2; have B2 := Lib.hid (B1.out.trans b2); clear h2 b2))
  clear H1 B1
  have hcr := fun W (h : AtK g q W) => crossed_quiet g q W h
  rw [hc] at hcr
  have HC := Lib.hid hc
  clear hc
  go_quiet ((go_at_call 57; exact Calls.quiet_of (hcr _ (at_drews H2.out _))))
  go_wp2
  go_ret
  exact ⟨by rw [HC.out]; rfl, fun ho => (by rw [HC.out] at ho; cases ho), below_drews B2.out _⟩
theorem round_num (g : Nat) (k : K) (w : World) (h : AtK g k w) : Calls Try.prog 45 #[.pointer (some ⟨g, 0, none⟩)] w (Rounds g k w) := by
  cases hc : k.bound.crossed
  · exact round_yes g k w h hc
  · exact round_no g k w h hc
end Go.Proofs.Ytbljijbmjccalaa
