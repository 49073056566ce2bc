/-
  Proved here: Right of the document's answers returns rightR for what is of memory, or none. Conditions: as each lemma says.
-/
import Derived.Test.YtcngkbmffaojoaaRight
namespace Go.Proofs.Ytcngkbmffaojoaa
open Go.RowKit

set_option maxRecDepth 100000 in
theorem right_mem1 (o d s f m : Int) (w : World) (h0 : 0 ≤ o) (h1 : o ≤ 255) (h24 : o ≠ 24) (h5 : o ≠ 5) (h133 : o ≠ 133) (h149 : o ≠ 149) (hc : condB o = false) (hz : szR o ≠ 0) (hq : o % 8 = 1) :
    Calls Try.prog 8 #[insV o d s f m] w fun e w' => e = .returned (.bool (rightR ⟨o, d, s, f, m⟩)) ∧ Below w.heap.size w w' := by
  have b24 : (o == 24) = false := by simpa using h24
  have b5 : (o == 5) = false := by simpa using h5
  have b133 : (o == 133) = false := by simpa using h133
  have b149 : (o == 149) = false := by simpa using h149
  unfold insV
  go_enter Try.func8, Try.ntmps8
  go_wp2_with (first | (go_at_call 17; refine (cond_ref _ _ h0 h1).mono ?_; rintro e w' ⟨rfl, rfl⟩) | (go_at_call 10; refine (size_ref3 _ _).mono ?_; rintro e w' ⟨rfl, rfl⟩))
  all_goals
    go_ret
    exact ⟨ret_bool (by simp_all [rightR] <;> first | (intros; omega) | (rw [Bool.eq_iff_iff]; simp <;> omega)), below_box _ _⟩
set_option maxRecDepth 100000 in
theorem right_mem2 (o d s f m : Int) (w : World) (h0 : 0 ≤ o) (h1 : o ≤ 255) (h24 : o ≠ 24) (h5 : o ≠ 5) (h133 : o ≠ 133) (h149 : o ≠ 149) (hc : condB o = false) (hz : szR o ≠ 0) (hq : o % 8 = 2) :
    Calls Try.prog 8 #[insV o d s f m] w fun e w' => e = .returned (.bool (rightR ⟨o, d, s, f, m⟩)) ∧ Below w.heap.size w w' := by
  have b24 : (o == 24) = false := by simpa using h24
  have b5 : (o == 5) = false := by simpa using h5
  have b133 : (o == 133) = false := by simpa using h133
  have b149 : (o == 149) = false := by simpa using h149
  unfold insV
  go_enter Try.func8, Try.ntmps8
  go_wp2_with (first | (go_at_call 17; refine (cond_ref _ _ h0 h1).mono ?_; rintro e w' ⟨rfl, rfl⟩) | (go_at_call 10; refine (size_ref3 _ _).mono ?_; rintro e w' ⟨rfl, rfl⟩))
  all_goals
    go_ret
    exact ⟨ret_bool (by simp_all [rightR] <;> first | (intros; omega) | (rw [Bool.eq_iff_iff]; simp <;> omega)), below_box _ _⟩
set_option maxRecDepth 100000 in
theorem right_mem3 (o d s f m : Int) (w : World) (h0 : 0 ≤ o) (h1 : o ≤ 255) (h24 : o ≠ 24) (h5 : o ≠ 5) (h133 : o ≠ 133) (h149 : o ≠ 149) (hc : condB o = false) (hz : szR o ≠ 0) (hq : o % 8 = 3) :
    Calls Try.prog 8 #[insV o d s f m] w fun e w' => e = .returned (.bool (rightR ⟨o, d, s, f, m⟩)) ∧ Below w.heap.size w w' := by
  have b24 : (o == 24) = false := by simpa using h24
  have b5 : (o == 5) = false := by simpa using h5
  have b133 : (o == 133) = false := by simpa using h133
  have b149 : (o == 149) = false := by simpa using h149
  unfold insV
  go_enter Try.func8, Try.ntmps8
  go_wp2_with (first | (go_at_call 17; refine (cond_ref _ _ h0 h1).mono ?_; rintro e w' ⟨rfl, rfl⟩) | (go_at_call 10; refine (size_ref3 _ _).mono ?_; rintro e w' ⟨rfl, rfl⟩))
  all_goals
    go_ret
    exact ⟨ret_bool (by simp_all [rightR] <;> first | (intros; omega) | (rw [Bool.eq_iff_iff]; simp <;> omega)), below_box _ _⟩
set_option maxRecDepth 100000 in
theorem right_none (o d s f m : Int) (w : World) (h0 : 0 ≤ o) (h1 : o ≤ 255) (h24 : o ≠ 24) (h5 : o ≠ 5) (h133 : o ≠ 133) (h149 : o ≠ 149) (hc : condB o = false) (hz : szR o = 0) (h4 : ¬ o % 8 = 4) (h7 : ¬ o % 8 = 7) :
    Calls Try.prog 8 #[insV o d s f m] w fun e w' => e = .returned (.bool (rightR ⟨o, d, s, f, m⟩)) ∧ Below w.heap.size w w' := by
  have b4 : (o % 8 == 4) = false := by simpa using h4
  have b7 : (o % 8 == 7) = false := by simpa using h7
  have b24 : (o == 24) = false := by simpa using h24
  have b5 : (o == 5) = false := by simpa using h5
  have b133 : (o == 133) = false := by simpa using h133
  have b149 : (o == 149) = false := by simpa using h149
  unfold insV
  go_enter Try.func8, Try.ntmps8
  go_wp2_with (first | (go_at_call 17; refine (cond_ref _ _ h0 h1).mono ?_; rintro e w' ⟨rfl, rfl⟩) | (go_at_call 10; refine (size_ref3 _ _).mono ?_; rintro e w' ⟨rfl, rfl⟩))
  all_goals
    go_ret
    exact ⟨ret_bool (by simp_all [rightR] <;> first | (intros; omega) | (rw [Bool.eq_iff_iff]; simp <;> omega)), below_box _ _⟩
end Go.Proofs.Ytcngkbmffaojoaa
