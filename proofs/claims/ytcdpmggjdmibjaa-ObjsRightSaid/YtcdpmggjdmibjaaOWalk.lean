/-
  Proved here: the laws ObjsRight, ObjsLoads and ObjsMakes walked over what came in, over whatever package keeps the contracts. Conditions: Acts17; what came in reads as its types say.
-/
import Derived.Test.YtcdpmggjdmibjaaORead
import Derived.Test.YtcdpmggjdmibjaaOLLaw
import Derived.Test.YtcdpmggjdmibjaaOMLaw
namespace Go.Proofs.Ytcdpmggjdmibjaa
open Go.RowKit
theorem objsRight_walk (A : Acts17) (v0 v1 : Value) (w : World) (h0 : FitV Try.prog w 5 26 v0) (h1 : IsInt .i64 v1) : Calls Try.prog 3 #[v0, v1] w fun e w' => e = .returned (.bool true) ∧ Below w.heap.size w w' := by
  obtain ⟨C, c, rfl, hc⟩ := cx_val h0
  obtain ⟨i, rfl, hw⟩ := h1
  exact right_law A C c i w hc (bounds_i64 hw)
theorem objsLoads_walk (A : Acts17) (B : Acts17L) (v0 v1 v2 v3 v4 : Value) (w : World) (h0 : FitV Try.prog w 3 38 v0) (h1 : IsInt .i64 v1) (h2 : IsInt .i64 v2) (h3 : IsInt .i64 v3) (h4 : IsInt .u64 v4) :
    Calls Try.prog 4 #[v0, v1, v2, v3, v4] w fun e w' => e = .returned (.bool true) ∧ Below w.heap.size w w' := by
  obtain ⟨X, o, rfl, ho⟩ := ob_val h0
  obtain ⟨z1, rfl, w1⟩ := h1
  obtain ⟨z2, rfl, w2⟩ := h2
  obtain ⟨z3, rfl, w3⟩ := h3
  obtain ⟨z4, rfl, w4⟩ := h4
  exact loads_law A B X o z1 z2 z3 z4 w ho (bounds_i64 w1) (bounds_i64 w2) (bounds_u64 w4)
theorem objsMakes_walk (A : Acts17) (v0 v1 v2 : Value) (w : World) (h0 : IsInt .i64 v0) (h1 : IsInt .u64 v1) (h2 : FitV Try.prog w 5 47 v2) : Calls Try.prog 5 #[v0, v1, v2] w fun e w' => e = .returned (.bool true) ∧ Below w.heap.size w w' := by
  obtain ⟨hook, rfl, w0⟩ := h0
  obtain ⟨now, rfl, w1⟩ := h1
  obtain ⟨a, c, l, rfl, hr, hl⟩ := pts_of h2
  exact makes_law A hook now l a c w hr hl (bounds_i64 w0) (bounds_u64 w1)
end Go.Proofs.Ytcdpmggjdmibjaa
