/-
  Proved here: the walks of the laws ObjsRight, ObjsLoads and ObjsMakes, over what came in. Conditions: what came in reads as its types say.
-/
import Derived.Test.YtcdpmggjdmibjaaOWalk
import Derived.Test.YtcdpmggjdmibjaaZMakeB
import Derived.Test.YtcdpmggjdmibjaaZLoads
namespace Go.Proofs.Ytcdpmggjdmibjaa
open Go.RowKit
theorem objsRight.walk (v0 v1 : Value) (w : World) (h0 : FitV Try.prog w 5 26 v0) (h1 : IsInt .i64 v1) : Calls Try.prog 3 #[v0, v1] w fun e w' => e = .returned (.bool true) ∧ Below w.heap.size w w' := objsRight_walk acts17 v0 v1 w h0 h1
theorem objsLoads.walk (v0 v1 v2 v3 v4 : Value) (w : World) (h0 : FitV Try.prog w 3 38 v0) (h1 : IsInt .i64 v1) (h2 : IsInt .i64 v2) (h3 : IsInt .i64 v3) (h4 : IsInt .u64 v4) : Calls Try.prog 4 #[v0, v1, v2, v3, v4] w fun e w' => e = .returned (.bool true) ∧ Below w.heap.size w w' := objsLoads_walk acts17 acts17L v0 v1 v2 v3 v4 w h0 h1 h2 h3 h4
theorem objsMakes.walk (v0 v1 v2 : Value) (w : World) (h0 : IsInt .i64 v0) (h1 : IsInt .u64 v1) (h2 : FitV Try.prog w 5 47 v2) : Calls Try.prog 5 #[v0, v1, v2] w fun e w' => e = .returned (.bool true) ∧ Below w.heap.size w w' := objsMakes_walk acts17 v0 v1 v2 w h0 h1 h2
end Go.Proofs.Ytcdpmggjdmibjaa
