/-
  Proved here: the walks of the three laws of rings, over the program's own ring. Conditions: what came in reads as its types say.
-/
import Derived.Test.YthpfockaipbhgaaPmN
import Derived.Test.YthpfockaipbhgaaPlays13
import Derived.Test.YthpfockaipbhgaaTold13
namespace Go.Proofs.Ythpfockaipbhgaa
open Go.RowKit

theorem ringPlays.walk (v0 v1 v2 : Value) (w : World) (h0 : IsInt .i64 v0) (h1 : FitV Try.prog w 4 22 v1) (h2 : IsInt .u8 v2) :
    Calls Try.prog 3 #[v0, v1, v2] w fun e w' => e = .returned (.bool true) ∧ Below w.heap.size w w' := plays_walk pr_acts v0 v1 v2 w h0 h1 h2
theorem ringTold.walk (v0 v1 : Value) (w : World) (h0 : IsSlice .u8 w v0) (h1 : IsInt .u8 v1) :
    Calls Try.prog 4 #[v0, v1] w fun e w' => e = .returned (.bool true) ∧ Below w.heap.size w w' := told_walk pr_acts told_pr v0 v1 w h0 h1
theorem ringFills.walk (v0 v1 v2 : Value) (w : World) (h0 : IsInt .u8 v0) (h1 : IsInt .u8 v1) (h2 : IsInt .u8 v2) :
    Calls Try.prog 5 #[v0, v1, v2] w fun e w' => e = .returned (.bool true) ∧ Below w.heap.size w w' := fills_walk pr_acts v0 v1 v2 w h0 h1 h2
end Go.Proofs.Ythpfockaipbhgaa
