/-
  Proved here: what refined, Bounds, Signed and Meet of package num return. Conditions: refined: the pointer's block holds what is known.
-/
import Derived.Test.YtbljijbmjccalaaHNumG
namespace Go.Proofs.Ytbljijbmjccalaa
open Go.RowKit
attribute [local go_sem] u_and u_or u_xor u_andNot u_add u_sub s_conv u_conv max_u min_u max_s min_s

theorem num_six {n : Nat} {z : K} {W : World} (h : NumAt n z W) (q : K) : NumAt n q ((((((W.setCell ⟨n, 0, none⟩ (.int .u64 (u q.v))).setCell ⟨n, 1, none⟩ (.int .u64 (u q.m))).setCell ⟨n, 2, none⟩ (.int .u64 (u q.a))).setCell ⟨n, 3, none⟩ (.int .u64 (u q.b))).setCell ⟨n, 4, none⟩ (.int .i64 (s q.c))).setCell ⟨n, 5, none⟩ (.int .i64 (s q.d))) := by
  unfold NumAt at *
  simp [World.setCell, Array.getElem?_modify, h]
theorem zero_new (w : World) : NumAt w.heap.size zeroK (w.alloc (.cells #[.int .u64 0, .int .u64 0, .int .u64 0, .int .u64 0, .int .i64 0, .int .i64 0] 26)) := (MapKept.heap_alloc w _).1
/-- The result's box, and what is below. -/
def Box1 (w0 : World) (z : K) (W : World) : Prop := NumAt w0.heap.size z W ∧ Below w0.heap.size w0 W
theorem box1_keep {w0 W W' : World} {z : K} (h : Box1 w0 z W) (hb : Below W.heap.size W W') : Box1 w0 z W' := ⟨num_keep h.1 hb, h.2.trans (hb.mono h.2.size)⟩
theorem at_new (k : K) (w : World) : AtK w.heap.size k (w.alloc (.cells #[.int .u64 (u k.v), .int .u64 (u k.m), .int .u64 (u k.a), .int .u64 (u k.b), .int .i64 (s k.c), .int .i64 (s k.d)] 74)) := (MapKept.heap_alloc w _).1
end Go.Proofs.Ytbljijbmjccalaa
