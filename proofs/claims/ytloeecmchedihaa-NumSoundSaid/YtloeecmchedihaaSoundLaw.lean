/-
  Proved here: the law NumSound returns true, of any two known, every number and every size. Conditions: none.
-/
import Derived.Test.YtloeecmchedihaaSoundYes
namespace Go.Proofs.Ytloeecmchedihaa
open Go.RowKit

theorem law_sound (a b : K) (x : B64) (n : Int) (w : World) : Calls Try.prog 6 #[numV a, numV b, .int .u64 (u x), .int .i64 n] w (Gives (.bool true) w) := by
  cases hx : a.has x
  · exact sound_no a b x n w hx
  · exact sound_yes a b x n w hx
theorem numSound.walk (v0 v1 v2 v3 : Value) (w : World) (h0 : IsNum v0) (h1 : IsNum v1) (h2 : IsInt .u64 v2) (h3 : IsInt .i64 v3) :
    Calls Try.prog 6 #[v0, v1, v2, v3] w fun e w' => e = .returned (.bool true) ∧ Below w.heap.size w w' := by
  obtain ⟨a, rfl⟩ := h0
  obtain ⟨b, rfl⟩ := h1
  obtain ⟨x, rfl⟩ := u_in h2
  obtain ⟨n, rfl, -⟩ := i_in h3
  exact law_sound a b x n w
end Go.Proofs.Ytloeecmchedihaa
