/-
  Proved here: Right of the document's answers returns rightR for jumps and what is alone. Conditions: as each lemma says.
-/
import Derived.Test.YtcngkbmffaojoaaRight
namespace Go.Proofs.Ytcngkbmffaojoaa
open Go.RowKit

set_option maxRecDepth 100000 in
theorem right_cond0 (o d s f m : Int) (w : World) (h0 : 0 ≤ o) (h1 : o ≤ 255) (hc : condB o = true) (hr : o / 8 % 2 = 0) :
    Calls Try.prog 8 #[insV o d s f m] w fun e w' => e = .returned (.bool (rightR ⟨o, d, s, f, m⟩)) ∧ Below w.heap.size w w' := by
  have hq : o % 8 = 5 ∨ o % 8 = 6 := by simp [condB] at hc; omega
  have h24 : o ≠ 24 := by omega
  have h4 : ¬ o % 8 = 4 := by omega
  have h7 : ¬ o % 8 = 7 := by omega
  have b4 : (o % 8 == 4) = false := by simpa using h4
  have b7 : (o % 8 == 7) = false := by simpa using h7
  clear hq
  unfold insV
  go_enter Try.func8, Try.ntmps8
  go_wp2_with (go_at_call 17; refine (cond_ref _ _ h0 h1).mono ?_; rintro e w' ⟨rfl, rfl⟩)
  all_goals
    go_ret
    exact ⟨ret_bool (by simp_all [rightR] <;> first | (intros; omega) | (rw [Bool.eq_iff_iff]; simp <;> omega)), below_box _ _⟩
set_option maxRecDepth 100000 in
theorem right_cond1 (o d s f m : Int) (w : World) (h0 : 0 ≤ o) (h1 : o ≤ 255) (hc : condB o = true) (hr : o / 8 % 2 = 1) :
    Calls Try.prog 8 #[insV o d s f m] w fun e w' => e = .returned (.bool (rightR ⟨o, d, s, f, m⟩)) ∧ Below w.heap.size w w' := by
  have hq : o % 8 = 5 ∨ o % 8 = 6 := by simp [condB] at hc; omega
  have h24 : o ≠ 24 := by omega
  have h4 : ¬ o % 8 = 4 := by omega
  have h7 : ¬ o % 8 = 7 := by omega
  have b4 : (o % 8 == 4) = false := by simpa using h4
  have b7 : (o % 8 == 7) = false := by simpa using h7
  clear hq
  unfold insV
  go_enter Try.func8, Try.ntmps8
  go_wp2_with (go_at_call 17; refine (cond_ref _ _ h0 h1).mono ?_; rintro e w' ⟨rfl, rfl⟩)
  all_goals
    go_ret
    exact ⟨ret_bool (by simp_all [rightR] <;> first | (intros; omega) | (rw [Bool.eq_iff_iff]; simp <;> omega)), below_box _ _⟩
set_option maxRecDepth 100000 in
theorem right_5 (d s f m : Int) (w : World) :
    Calls Try.prog 8 #[insV 5 d s f m] w fun e w' => e = .returned (.bool (rightR ⟨5, d, s, f, m⟩)) ∧ Below w.heap.size w w' := by
  have hc : condB 5 = false := by decide
  unfold insV
  go_enter Try.func8, Try.ntmps8
  go_wp2_with (go_at_call 17; refine (cond_ref _ _ (by omega) (by omega)).mono ?_; rintro e w' ⟨rfl, rfl⟩)
  all_goals
    go_ret
    exact ⟨ret_bool (by simp_all [rightR] <;> first | (intros; omega) | (rw [Bool.eq_iff_iff]; simp <;> omega)), below_box _ _⟩
set_option maxRecDepth 100000 in
theorem right_133 (d s f m : Int) (w : World) :
    Calls Try.prog 8 #[insV 133 d s f m] w fun e w' => e = .returned (.bool (rightR ⟨133, d, s, f, m⟩)) ∧ Below w.heap.size w w' := by
  have hc : condB 133 = false := by decide
  unfold insV
  go_enter Try.func8, Try.ntmps8
  go_wp2_with (go_at_call 17; refine (cond_ref _ _ (by omega) (by omega)).mono ?_; rintro e w' ⟨rfl, rfl⟩)
  all_goals
    go_ret
    exact ⟨ret_bool (by simp_all [rightR] <;> first | (intros; omega) | (rw [Bool.eq_iff_iff]; simp <;> omega)), below_box _ _⟩
set_option maxRecDepth 100000 in
theorem right_149 (d s f m : Int) (w : World) :
    Calls Try.prog 8 #[insV 149 d s f m] w fun e w' => e = .returned (.bool (rightR ⟨149, d, s, f, m⟩)) ∧ Below w.heap.size w w' := by
  have hc : condB 149 = false := by decide
  unfold insV
  go_enter Try.func8, Try.ntmps8
  go_wp2_with (go_at_call 17; refine (cond_ref _ _ (by omega) (by omega)).mono ?_; rintro e w' ⟨rfl, rfl⟩)
  all_goals
    go_ret
    exact ⟨ret_bool (by simp_all [rightR] <;> first | (intros; omega) | (rw [Bool.eq_iff_iff]; simp <;> omega)), below_box _ _⟩
end Go.Proofs.Ytcngkbmffaojoaa
