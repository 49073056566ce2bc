/-
  Proved here: Same of the document's answers says yes of two rows with the same instructions. Conditions: at most 200 of them.
-/
import Derived.Test.YtmihmgchbibmoaaInsIn
import Derived.Deep.QuietTactic
import Derived.BigQuiet
namespace Go.Proofs.Ytmihmgchbibmoaa
open Go.RowKit

/-- Yes, and nothing is turned. -/
def SaidYes (W : World) (e : Ending) (w : World) : Prop := e = .returned (.bool true) ∧ ∃ n, w = W.drewN n

theorem same_ref (w : World) (A B : Option Addr) (len capA capB : Nat) (l : List Ins) (hl : l.length = len) (h200 : len ≤ 200) (ha : InsAt w A l) (hb : InsAt w B l) :
    Calls Try.prog 12 #[.slice A len capA, .slice B len capB] w (SaidYes w) := by
  have HL := Lib.hid hl
  clear hl
  go_enter Try.func12, Try.ntmps12
  go_wp2
  go_loopw [5] (fun i wr => ∃ k n : Nat, k ≤ len ∧ i = .int .i64 k ∧ wr = w.drewN n) (fun i _ => len - (intOf i).toNat)
  case atStart => exact ⟨0, 0, by omega, rfl, rfl⟩
  case round =>
    obtain ⟨k, n, hk, rfl, rfl⟩ := hrel
    by_cases hlt : k < len
    · have hll := HL.out
      obtain ⟨g, off, rfl, hg, hrow⟩ : ∃ g off, A = some ⟨g, off, none⟩ ∧ g < w.heap.size ∧ InsRow w g off l := by
        rcases ha with h | h
        · omega
        · exact h
      obtain ⟨g', off', rfl, hg', hrow'⟩ : ∃ g off, B = some ⟨g, off, none⟩ ∧ g < w.heap.size ∧ InsRow w g off l := by
        rcases hb with h | h
        · omega
        · exact h
      obtain ⟨c0, c1, c2, c3, c4⟩ := hrow k (by omega)
      obtain ⟨b0, b1, b2, b3, b4⟩ := hrow' k (by omega)
      obtain ⟨x, hx⟩ : ∃ x, l.getD k .zero = x := ⟨_, rfl⟩
      rw [hx] at c0 c1 c2 c3 c4 b0 b1 b2 b3 b4
      have HA := Lib.hid hrow
      have HB := Lib.hid hrow'
      clear hx hll hrow hrow' ha hb
      have i0 : (0 : Int) ≤ (k : Int) := by omega
      have i1 : (k : Int) < (len : Int) := by omega
      go_wp2
      go_quiet (fail)
      go_wp2
      go_roundw
      case rel => exact ⟨k + 1, n + nq, by omega, by go_num, rfl⟩
      case measure => simp [intOf]; omega
    · obtain rfl : k = len := by omega
      clear ha hb
      go_wp2
      go_ret
      exact ⟨rfl, n, rfl⟩
end Go.Proofs.Ytmihmgchbibmoaa
