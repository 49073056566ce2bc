/-
  Proved here: the law InstWide returns true for whatever came in. Conditions: each argument fits its type.
-/
import Derived.Test.YtmihmgchbibmoaaWideLaw
namespace Go.Proofs.Ytmihmgchbibmoaa
open Go.RowKit
theorem instWide.walk (v0 v1 v2 v3 v4 v5 : Value) (w : World) (h0 : IsInts insKinds v0) (h1 : IsInts insKinds v1) (h2 : IsInt .u64 v2) (h3 : IsInt .u8 v3) (h4 : IsInt .u8 v4) (h5 : IsInt .u8 v5) :
    Calls Try.prog 6 #[v0, v1, v2, v3, v4, v5] w fun e w' => e = .returned (.bool true) ∧ Below w.heap.size w w' := by
  obtain ⟨a, rfl, ha⟩ := ins_in h0
  obtain ⟨b, rfl, hb⟩ := ins_in h1
  obtain ⟨x, rfl, hx⟩ := h2
  obtain ⟨o, rfl, -⟩ := h3
  obtain ⟨d, rfl, -⟩ := h4
  obtain ⟨s, rfl, -⟩ := h5
  have := bounds_u64 hx
  exact law_wide a b x o d s w ha hb this.1 this.2
end Go.Proofs.Ytmihmgchbibmoaa
