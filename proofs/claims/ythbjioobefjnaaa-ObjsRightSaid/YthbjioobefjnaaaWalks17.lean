/-
  Proved here: the walks of the laws ObjsRight and ObjsMakes, over what came in. Conditions: what came in reads as its types say.
-/
import Derived.Test.YthbjioobefjnaaaOWalk
import Derived.Test.YthbjioobefjnaaaZMakeB
namespace Go.Proofs.Ythbjioobefjnaaa
open Go.RowKit
theorem objsRight.walk (v0 v1 : Value) (w : World) (h0 : FitV Try.prog w 5 26 v0) (h1 : IsInt .i64 v1) : Calls Try.prog 3 #[v0, v1] w fun e w' => e = .returned (.bool true) ∧ Below w.heap.size w w' := objsRight_walk acts17 v0 v1 w h0 h1
theorem objsMakes.walk (v0 v1 v2 : Value) (w : World) (h0 : IsInt .i64 v0) (h1 : IsInt .u64 v1) (h2 : FitV Try.prog w 5 34 v2) : Calls Try.prog 4 #[v0, v1, v2] w fun e w' => e = .returned (.bool true) ∧ Below w.heap.size w w' := objsMakes_walk acts17 v0 v1 v2 w h0 h1 h2
end Go.Proofs.Ythbjioobefjnaaa
