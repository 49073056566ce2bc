/-
  Proved here: the walks of the laws HelpersOf, HelpersBy and HelpersOwn, over what came in. Conditions: what came in reads as its types say.
-/
import Derived.Test.YthjdmnbpidoifaaHWalk
import Derived.Test.YthjdmnbpidoifaaHBy
namespace Go.Proofs.Ythjdmnbpidoifaa
open Go.RowKit
theorem helpersOf.walk (v0 v1 : Value) (w : World) (h0 : IsInt .i64 v0) (h1 : IsInt .i64 v1) : Calls Try.prog 3 #[v0, v1] w fun e w' => e = .returned (.bool true) ∧ Below w.heap.size w w' := helpersOf_walk acts16 v0 v1 w h0 h1
theorem helpersBy.walk (v0 : Value) (w : World) (h0 : FitV Try.prog w 1 9 v0) : Calls Try.prog 4 #[v0] w fun e w' => e = .returned (.bool true) ∧ Below w.heap.size w w' := helpersBy_walk acts16 v0 w h0
theorem helpersOwn.walk (v0 v1 v2 : Value) (w : World) (h0 : IsInt .i64 v0) (h1 : IsInt .i64 v1) (h2 : IsInt .u8 v2) : Calls Try.prog 5 #[v0, v1, v2] w fun e w' => e = .returned (.bool true) ∧ Below w.heap.size w w' := helpersOwn_walk acts16 v0 v1 v2 w h0 h1 h2
end Go.Proofs.Ythjdmnbpidoifaa
