/-
  Proved here: the walks of the three laws of storages, over the program's own storage. Conditions: what came in reads as its types say.
-/
import Derived.Test.YtijhoiheieighaaLmN
namespace Go.Proofs.Ytijhoiheieighaa
open Go.RowKit

theorem localPlays.walk (v0 v1 v2 v3 : Value) (w : World) (h0 : IsInt .i64 v0) (h1 : IsInt .i64 v1) (h2 : FitV Try.prog w 5 22 v2) (h3 : IsInt .u8 v3) :
    Calls Try.prog 3 #[v0, v1, v2, v3] w fun e w' => e = .returned (.bool true) ∧ Below w.heap.size w w' := plays_walk lm_keeps v0 v1 v2 v3 w h0 h1 h2 h3
theorem localGens.walk (v0 v1 v2 : Value) (w : World) (h0 : IsInts [.i64, .i64] v0) (h1 : IsInts [.i64, .i64] v1) (h2 : IsInt .u8 v2) :
    Calls Try.prog 4 #[v0, v1, v2] w fun e w' => e = .returned (.bool true) ∧ Below w.heap.size w w' := gens_walk lm_keeps v0 v1 v2 w h0 h1 h2
theorem localFills.walk (v0 v1 : Value) (w : World) (h0 : IsInt .u8 v0) (h1 : IsInt .u8 v1) :
    Calls Try.prog 5 #[v0, v1] w fun e w' => e = .returned (.bool true) ∧ Below w.heap.size w w' := fills_walk lm_keeps v0 v1 w h0 h1
end Go.Proofs.Ytijhoiheieighaa
