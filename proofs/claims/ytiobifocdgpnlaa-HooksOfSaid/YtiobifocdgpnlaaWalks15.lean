/-
  Proved here: the walks of the laws HooksOf, HooksBy, HooksFields and HooksOwn, over what came in. Conditions: what came in reads as its types say.
-/
import Derived.Test.YtiobifocdgpnlaaOwnLaw
import Derived.Test.YtiobifocdgpnlaaFit
namespace Go.Proofs.Ytiobifocdgpnlaa
open Go.RowKit
theorem fitV_string {P : Program} {w : World} {n : Nat} {t : TypeId} {v : Value} (ht : P.underlying t = some .string) (h : FitV P w n t v) : ∃ s, v = .string s := by
  have h2 := h.2
  rw [ht] at h2
  exact h2
theorem hooksOf.walk (v0 v1 : Value) (w : World) (h0 : IsInt .i64 v0) (h1 : IsInt .i64 v1) : Calls Try.prog 3 #[v0, v1] w fun e w' => e = .returned (.bool true) ∧ Below w.heap.size w w' := by
  obtain ⟨k, rfl, -⟩ := h0
  obtain ⟨j, rfl, -⟩ := h1
  exact of_law k j w
theorem hooksBy.walk (v0 : Value) (w : World) (h0 : FitV Try.prog w 1 9 v0) : Calls Try.prog 4 #[v0] w fun e w' => e = .returned (.bool true) ∧ Below w.heap.size w w' := by
  obtain ⟨s, rfl⟩ := fitV_string Try.underlying9 h0
  exact by_law s w
theorem hooksFields.walk (v0 v1 : Value) (w : World) (h0 : IsInt .i64 v0) (h1 : FitV Try.prog w 1 9 v1) : Calls Try.prog 5 #[v0, v1] w fun e w' => e = .returned (.bool true) ∧ Below w.heap.size w w' := by
  obtain ⟨t, rfl, -⟩ := h0
  obtain ⟨s, rfl⟩ := fitV_string Try.underlying9 h1
  exact fld_law t s w
theorem hooksOwn.walk (v0 v1 v2 : Value) (w : World) (h0 : IsInt .i64 v0) (h1 : IsInt .i64 v1) (h2 : IsInt .u8 v2) : Calls Try.prog 6 #[v0, v1, v2] w fun e w' => e = .returned (.bool true) ∧ Below w.heap.size w w' := by
  obtain ⟨k, rfl, -⟩ := h0
  obtain ⟨j, rfl, -⟩ := h1
  obtain ⟨c, rfl, -⟩ := h2
  exact own_law k j c w
end Go.Proofs.Ytiobifocdgpnlaa
