/-
  Proved here: Right of the document's answers returns rightR for operations. Conditions: as each lemma says.
-/
import Derived.Test.YtcngkbmffaojoaaRight
namespace Go.Proofs.Ytcngkbmffaojoaa
open Go.RowKit

set_option maxRecDepth 100000 in
theorem right_alu40 (o d s f m : Int) (w : World) (h0 : 0 ≤ o) (h1 : o ≤ 255) (h : o % 8 = 4) (hr : o / 8 % 2 = 0) :
    Calls Try.prog 8 #[insV o d s f m] w fun e w' => e = .returned (.bool (rightR ⟨o, d, s, f, m⟩)) ∧ Below w.heap.size w w' := by
  have h24 : o ≠ 24 := by omega
  unfold insV
  go_enter Try.func8, Try.ntmps8
  go_wp2
  all_goals
    go_ret
    exact ⟨ret_bool (by first | (simp_all [rightR]; done) | (unfold rightR; simp only []; grind)), below_box _ _⟩
set_option maxRecDepth 100000 in
theorem right_alu41 (o d s f m : Int) (w : World) (h0 : 0 ≤ o) (h1 : o ≤ 255) (h : o % 8 = 4) (hr : o / 8 % 2 = 1) :
    Calls Try.prog 8 #[insV o d s f m] w fun e w' => e = .returned (.bool (rightR ⟨o, d, s, f, m⟩)) ∧ Below w.heap.size w w' := by
  have h24 : o ≠ 24 := by omega
  unfold insV
  go_enter Try.func8, Try.ntmps8
  go_wp2
  all_goals
    go_ret
    exact ⟨ret_bool (by first | (simp_all [rightR]; done) | (unfold rightR; simp only []; grind)), below_box _ _⟩
set_option maxRecDepth 100000 in
theorem right_alu70 (o d s f m : Int) (w : World) (h0 : 0 ≤ o) (h1 : o ≤ 255) (h : o % 8 = 7) (hr : o / 8 % 2 = 0) :
    Calls Try.prog 8 #[insV o d s f m] w fun e w' => e = .returned (.bool (rightR ⟨o, d, s, f, m⟩)) ∧ Below w.heap.size w w' := by
  have h24 : o ≠ 24 := by omega
  unfold insV
  go_enter Try.func8, Try.ntmps8
  go_wp2
  all_goals
    go_ret
    exact ⟨ret_bool (by first | (simp_all [rightR]; done) | (unfold rightR; simp only []; grind)), below_box _ _⟩
set_option maxRecDepth 100000 in
theorem right_alu71 (o d s f m : Int) (w : World) (h0 : 0 ≤ o) (h1 : o ≤ 255) (h : o % 8 = 7) (hr : o / 8 % 2 = 1) :
    Calls Try.prog 8 #[insV o d s f m] w fun e w' => e = .returned (.bool (rightR ⟨o, d, s, f, m⟩)) ∧ Below w.heap.size w w' := by
  have h24 : o ≠ 24 := by omega
  unfold insV
  go_enter Try.func8, Try.ntmps8
  go_wp2
  all_goals
    go_ret
    exact ⟨ret_bool (by first | (simp_all [rightR]; done) | (unfold rightR; simp only []; grind)), below_box _ _⟩
theorem right_alu (o d s f m : Int) (w : World) (h0 : 0 ≤ o) (h1 : o ≤ 255) (h : o % 8 = 4 ∨ o % 8 = 7) :
    Calls Try.prog 8 #[insV o d s f m] w fun e w' => e = .returned (.bool (rightR ⟨o, d, s, f, m⟩)) ∧ Below w.heap.size w w' := by
  obtain hr | hr : o / 8 % 2 = 0 ∨ o / 8 % 2 = 1 := by omega
  · rcases h with h | h
    · exact right_alu40 o d s f m w h0 h1 h hr
    · exact right_alu70 o d s f m w h0 h1 h hr
  · rcases h with h | h
    · exact right_alu41 o d s f m w h0 h1 h hr
    · exact right_alu71 o d s f m w h0 h1 h hr
end Go.Proofs.Ytcngkbmffaojoaa
