/-
  Proved here: the memory of Way of package narrow: the boxes of what is known, of what is told, and of what is under way. Conditions: none.
-/
import Derived.Test.YtbljijbmjccalaaP4
import Derived.Test.YtbljijbmjccalaaHRefRound
import Derived.Laws.EntriesVeiled
import Derived.RegionTactic
namespace Go.Proofs.Ytbljijbmjccalaa
open Go.RowKit
attribute [local go_sem] u_and u_or u_xor u_andNot u_add u_sub s_conv u_conv max_u min_u max_s min_s u_inc u_less s_inc s_less s_inc64 s_less64
set_option linter.unusedSimpArgs false


/-- Both numbers' boxes, those of what is told, and the pair's. -/
def WB (w0 : World) (x y r q a b : K) (W : World) : Prop :=
  (NumAt (w0.heap.size) x W ∧ NumAt (w0.heap.size + 1) y W) ∧ (NumAt (w0.heap.size + 1 + 1) r W ∧ NumAt (w0.heap.size + 1 + 1 + 1) q W) ∧ PairAt (w0.heap.size + 1 + 1 + 1 + 1) a b W ∧ Below w0.heap.size w0 W
theorem num_ret {g : Nat} {k : K} {W : World} (h : NumAt g k W) (r : K) : NumAt g r ((((((W.setCell ⟨g, 0, none⟩ (.int .u64 (u r.v))).setCell ⟨g, 1, none⟩ (.int .u64 (u r.m))).setCell ⟨g, 2, none⟩ (.int .u64 (u r.a))).setCell ⟨g, 3, none⟩ (.int .u64 (u r.b))).setCell ⟨g, 4, none⟩ (.int .i64 (s r.c))).setCell ⟨g, 5, none⟩ (.int .i64 (s r.d))) := num_six h r
section
variable {w0 W W' : World} {x y r q a b : K}
theorem wb_keep (h : WB w0 x y r q a b W) (hb : Below W.heap.size W W') : WB w0 x y r q a b W' :=
  ⟨⟨num_keep h.1.1 hb, num_keep h.1.2 hb⟩, ⟨num_keep h.2.1.1 hb, num_keep h.2.1.2 hb⟩, pair_keep h.2.2.1 hb, h.2.2.2.trans (hb.mono h.2.2.2.size)⟩
theorem wb_far (h : WB w0 x y r q a b W) (hb : Below (w0.heap.size + 1 + 1 + 1 + 1 + 1) W W') : WB w0 x y r q a b W' :=
  ⟨⟨(hb.block _ (by omega)).trans h.1.1, (hb.block _ (by omega)).trans h.1.2⟩, ⟨(hb.block _ (by omega)).trans h.2.1.1, (hb.block _ (by omega)).trans h.2.1.2⟩, (hb.block _ (by omega)).trans h.2.2.1, h.2.2.2.trans (hb.mono (by omega))⟩
theorem wb_pair (h : WB w0 x y r q a b W) (c d : K) : WB w0 x y r q c d ((((((((((((W.setCell ⟨w0.heap.size + 1 + 1 + 1 + 1, 0, none⟩ (.int .u64 (u c.v))).setCell ⟨w0.heap.size + 1 + 1 + 1 + 1, 1, none⟩ (.int .u64 (u c.m))).setCell ⟨w0.heap.size + 1 + 1 + 1 + 1, 2, none⟩ (.int .u64 (u c.a))).setCell ⟨w0.heap.size + 1 + 1 + 1 + 1, 3, none⟩ (.int .u64 (u c.b))).setCell ⟨w0.heap.size + 1 + 1 + 1 + 1, 4, none⟩ (.int .i64 (s c.c))).setCell ⟨w0.heap.size + 1 + 1 + 1 + 1, 5, none⟩ (.int .i64 (s c.d))).setCell ⟨w0.heap.size + 1 + 1 + 1 + 1, 6, none⟩ (.int .u64 (u d.v))).setCell ⟨w0.heap.size + 1 + 1 + 1 + 1, 7, none⟩ (.int .u64 (u d.m))).setCell ⟨w0.heap.size + 1 + 1 + 1 + 1, 8, none⟩ (.int .u64 (u d.a))).setCell ⟨w0.heap.size + 1 + 1 + 1 + 1, 9, none⟩ (.int .u64 (u d.b))).setCell ⟨w0.heap.size + 1 + 1 + 1 + 1, 10, none⟩ (.int .i64 (s d.c))).setCell ⟨w0.heap.size + 1 + 1 + 1 + 1, 11, none⟩ (.int .i64 (s d.d))) := by
  have hb : Below (w0.heap.size + 1 + 1 + 1 + 1) W ((((((((((((W.setCell ⟨w0.heap.size + 1 + 1 + 1 + 1, 0, none⟩ (.int .u64 (u c.v))).setCell ⟨w0.heap.size + 1 + 1 + 1 + 1, 1, none⟩ (.int .u64 (u c.m))).setCell ⟨w0.heap.size + 1 + 1 + 1 + 1, 2, none⟩ (.int .u64 (u c.a))).setCell ⟨w0.heap.size + 1 + 1 + 1 + 1, 3, none⟩ (.int .u64 (u c.b))).setCell ⟨w0.heap.size + 1 + 1 + 1 + 1, 4, none⟩ (.int .i64 (s c.c))).setCell ⟨w0.heap.size + 1 + 1 + 1 + 1, 5, none⟩ (.int .i64 (s c.d))).setCell ⟨w0.heap.size + 1 + 1 + 1 + 1, 6, none⟩ (.int .u64 (u d.v))).setCell ⟨w0.heap.size + 1 + 1 + 1 + 1, 7, none⟩ (.int .u64 (u d.m))).setCell ⟨w0.heap.size + 1 + 1 + 1 + 1, 8, none⟩ (.int .u64 (u d.a))).setCell ⟨w0.heap.size + 1 + 1 + 1 + 1, 9, none⟩ (.int .u64 (u d.b))).setCell ⟨w0.heap.size + 1 + 1 + 1 + 1, 10, none⟩ (.int .i64 (s d.c))).setCell ⟨w0.heap.size + 1 + 1 + 1 + 1, 11, none⟩ (.int .i64 (s d.d))) := below_set (below_set (below_set (below_set (below_set (below_set (below_set (below_set (below_set (below_set (below_set (below_set (Below.refl (w0.heap.size + 1 + 1 + 1 + 1) W) _ _) _ _) _ _) _ _) _ _) _ _) _ _) _ _) _ _) _ _) _ _) _ _
  exact ⟨⟨(hb.block _ (by omega)).trans h.1.1, (hb.block _ (by omega)).trans h.1.2⟩, ⟨(hb.block _ (by omega)).trans h.2.1.1, (hb.block _ (by omega)).trans h.2.1.2⟩, pair_ret h.2.2.1 c d, h.2.2.2.trans (hb.mono (by omega))⟩
theorem num_other {g g' : Nat} {k : K} {W : World} (h : NumAt g k W) (hne : g ≠ g') (r : K) : NumAt g k ((((((W.setCell ⟨g', 0, none⟩ (.int .u64 (u r.v))).setCell ⟨g', 1, none⟩ (.int .u64 (u r.m))).setCell ⟨g', 2, none⟩ (.int .u64 (u r.a))).setCell ⟨g', 3, none⟩ (.int .u64 (u r.b))).setCell ⟨g', 4, none⟩ (.int .i64 (s r.c))).setCell ⟨g', 5, none⟩ (.int .i64 (s r.d))) := by
  have hn : ∀ (W : World) (o : Nat) (v : Value), (W.setCell ⟨g', o, none⟩ v).heap[g]? = W.heap[g]? := fun W o v => Below.heap_setCell W _ v g hne
  unfold NumAt at *
  simp only [hn]
  exact h
theorem below_num {B g : Nat} (hg : B ≤ g) (h : Below B w0 W) (r : K) : Below B w0 ((((((W.setCell ⟨g, 0, none⟩ (.int .u64 (u r.v))).setCell ⟨g, 1, none⟩ (.int .u64 (u r.m))).setCell ⟨g, 2, none⟩ (.int .u64 (u r.a))).setCell ⟨g, 3, none⟩ (.int .u64 (u r.b))).setCell ⟨g, 4, none⟩ (.int .i64 (s r.c))).setCell ⟨g, 5, none⟩ (.int .i64 (s r.d))) :=
  h.trans ((below_six (Below.refl g W) _ _ _ _ _ _).mono hg)
/-- What is told: both numbers, in whatever order they are stored. -/
theorem wb_told (h : WB w0 x y r q a b W) (c d : K) : NumAt (w0.heap.size + 1 + 1) c ((((((((((((W.setCell ⟨w0.heap.size + 1 + 1, 0, none⟩ (.int .u64 (u c.v))).setCell ⟨w0.heap.size + 1 + 1, 1, none⟩ (.int .u64 (u c.m))).setCell ⟨w0.heap.size + 1 + 1, 2, none⟩ (.int .u64 (u c.a))).setCell ⟨w0.heap.size + 1 + 1, 3, none⟩ (.int .u64 (u c.b))).setCell ⟨w0.heap.size + 1 + 1, 4, none⟩ (.int .i64 (s c.c))).setCell ⟨w0.heap.size + 1 + 1, 5, none⟩ (.int .i64 (s c.d))).setCell ⟨w0.heap.size + 1 + 1 + 1, 0, none⟩ (.int .u64 (u d.v))).setCell ⟨w0.heap.size + 1 + 1 + 1, 1, none⟩ (.int .u64 (u d.m))).setCell ⟨w0.heap.size + 1 + 1 + 1, 2, none⟩ (.int .u64 (u d.a))).setCell ⟨w0.heap.size + 1 + 1 + 1, 3, none⟩ (.int .u64 (u d.b))).setCell ⟨w0.heap.size + 1 + 1 + 1, 4, none⟩ (.int .i64 (s d.c))).setCell ⟨w0.heap.size + 1 + 1 + 1, 5, none⟩ (.int .i64 (s d.d))) ∧ NumAt (w0.heap.size + 1 + 1 + 1) d ((((((((((((W.setCell ⟨w0.heap.size + 1 + 1, 0, none⟩ (.int .u64 (u c.v))).setCell ⟨w0.heap.size + 1 + 1, 1, none⟩ (.int .u64 (u c.m))).setCell ⟨w0.heap.size + 1 + 1, 2, none⟩ (.int .u64 (u c.a))).setCell ⟨w0.heap.size + 1 + 1, 3, none⟩ (.int .u64 (u c.b))).setCell ⟨w0.heap.size + 1 + 1, 4, none⟩ (.int .i64 (s c.c))).setCell ⟨w0.heap.size + 1 + 1, 5, none⟩ (.int .i64 (s c.d))).setCell ⟨w0.heap.size + 1 + 1 + 1, 0, none⟩ (.int .u64 (u d.v))).setCell ⟨w0.heap.size + 1 + 1 + 1, 1, none⟩ (.int .u64 (u d.m))).setCell ⟨w0.heap.size + 1 + 1 + 1, 2, none⟩ (.int .u64 (u d.a))).setCell ⟨w0.heap.size + 1 + 1 + 1, 3, none⟩ (.int .u64 (u d.b))).setCell ⟨w0.heap.size + 1 + 1 + 1, 4, none⟩ (.int .i64 (s d.c))).setCell ⟨w0.heap.size + 1 + 1 + 1, 5, none⟩ (.int .i64 (s d.d))) ∧ Below w0.heap.size w0 ((((((((((((W.setCell ⟨w0.heap.size + 1 + 1, 0, none⟩ (.int .u64 (u c.v))).setCell ⟨w0.heap.size + 1 + 1, 1, none⟩ (.int .u64 (u c.m))).setCell ⟨w0.heap.size + 1 + 1, 2, none⟩ (.int .u64 (u c.a))).setCell ⟨w0.heap.size + 1 + 1, 3, none⟩ (.int .u64 (u c.b))).setCell ⟨w0.heap.size + 1 + 1, 4, none⟩ (.int .i64 (s c.c))).setCell ⟨w0.heap.size + 1 + 1, 5, none⟩ (.int .i64 (s c.d))).setCell ⟨w0.heap.size + 1 + 1 + 1, 0, none⟩ (.int .u64 (u d.v))).setCell ⟨w0.heap.size + 1 + 1 + 1, 1, none⟩ (.int .u64 (u d.m))).setCell ⟨w0.heap.size + 1 + 1 + 1, 2, none⟩ (.int .u64 (u d.a))).setCell ⟨w0.heap.size + 1 + 1 + 1, 3, none⟩ (.int .u64 (u d.b))).setCell ⟨w0.heap.size + 1 + 1 + 1, 4, none⟩ (.int .i64 (s d.c))).setCell ⟨w0.heap.size + 1 + 1 + 1, 5, none⟩ (.int .i64 (s d.d))) :=
  ⟨num_other (num_ret h.2.1.1 c) (by omega) d, num_ret (num_other h.2.1.2 (by omega) c) d, below_num (by omega) (below_num (by omega) h.2.2.2 c) d⟩
theorem wb_told2 (h : WB w0 x y r q a b W) (c d : K) : NumAt (w0.heap.size + 1 + 1) c ((((((((((((W.setCell ⟨w0.heap.size + 1 + 1 + 1, 0, none⟩ (.int .u64 (u d.v))).setCell ⟨w0.heap.size + 1 + 1 + 1, 1, none⟩ (.int .u64 (u d.m))).setCell ⟨w0.heap.size + 1 + 1 + 1, 2, none⟩ (.int .u64 (u d.a))).setCell ⟨w0.heap.size + 1 + 1 + 1, 3, none⟩ (.int .u64 (u d.b))).setCell ⟨w0.heap.size + 1 + 1 + 1, 4, none⟩ (.int .i64 (s d.c))).setCell ⟨w0.heap.size + 1 + 1 + 1, 5, none⟩ (.int .i64 (s d.d))).setCell ⟨w0.heap.size + 1 + 1, 0, none⟩ (.int .u64 (u c.v))).setCell ⟨w0.heap.size + 1 + 1, 1, none⟩ (.int .u64 (u c.m))).setCell ⟨w0.heap.size + 1 + 1, 2, none⟩ (.int .u64 (u c.a))).setCell ⟨w0.heap.size + 1 + 1, 3, none⟩ (.int .u64 (u c.b))).setCell ⟨w0.heap.size + 1 + 1, 4, none⟩ (.int .i64 (s c.c))).setCell ⟨w0.heap.size + 1 + 1, 5, none⟩ (.int .i64 (s c.d))) ∧ NumAt (w0.heap.size + 1 + 1 + 1) d ((((((((((((W.setCell ⟨w0.heap.size + 1 + 1 + 1, 0, none⟩ (.int .u64 (u d.v))).setCell ⟨w0.heap.size + 1 + 1 + 1, 1, none⟩ (.int .u64 (u d.m))).setCell ⟨w0.heap.size + 1 + 1 + 1, 2, none⟩ (.int .u64 (u d.a))).setCell ⟨w0.heap.size + 1 + 1 + 1, 3, none⟩ (.int .u64 (u d.b))).setCell ⟨w0.heap.size + 1 + 1 + 1, 4, none⟩ (.int .i64 (s d.c))).setCell ⟨w0.heap.size + 1 + 1 + 1, 5, none⟩ (.int .i64 (s d.d))).setCell ⟨w0.heap.size + 1 + 1, 0, none⟩ (.int .u64 (u c.v))).setCell ⟨w0.heap.size + 1 + 1, 1, none⟩ (.int .u64 (u c.m))).setCell ⟨w0.heap.size + 1 + 1, 2, none⟩ (.int .u64 (u c.a))).setCell ⟨w0.heap.size + 1 + 1, 3, none⟩ (.int .u64 (u c.b))).setCell ⟨w0.heap.size + 1 + 1, 4, none⟩ (.int .i64 (s c.c))).setCell ⟨w0.heap.size + 1 + 1, 5, none⟩ (.int .i64 (s c.d))) ∧ Below w0.heap.size w0 ((((((((((((W.setCell ⟨w0.heap.size + 1 + 1 + 1, 0, none⟩ (.int .u64 (u d.v))).setCell ⟨w0.heap.size + 1 + 1 + 1, 1, none⟩ (.int .u64 (u d.m))).setCell ⟨w0.heap.size + 1 + 1 + 1, 2, none⟩ (.int .u64 (u d.a))).setCell ⟨w0.heap.size + 1 + 1 + 1, 3, none⟩ (.int .u64 (u d.b))).setCell ⟨w0.heap.size + 1 + 1 + 1, 4, none⟩ (.int .i64 (s d.c))).setCell ⟨w0.heap.size + 1 + 1 + 1, 5, none⟩ (.int .i64 (s d.d))).setCell ⟨w0.heap.size + 1 + 1, 0, none⟩ (.int .u64 (u c.v))).setCell ⟨w0.heap.size + 1 + 1, 1, none⟩ (.int .u64 (u c.m))).setCell ⟨w0.heap.size + 1 + 1, 2, none⟩ (.int .u64 (u c.a))).setCell ⟨w0.heap.size + 1 + 1, 3, none⟩ (.int .u64 (u c.b))).setCell ⟨w0.heap.size + 1 + 1, 4, none⟩ (.int .i64 (s c.c))).setCell ⟨w0.heap.size + 1 + 1, 5, none⟩ (.int .i64 (s c.d))) :=
  ⟨num_ret (num_other h.2.1.1 (by omega) d) c, num_other (num_ret h.2.1.2 d) (by omega) c, below_num (by omega) (below_num (by omega) h.2.2.2 d) c⟩
end
theorem wb_new (x y : K) (w : World) : WB w x y zeroK zeroK zeroK zeroK (((((w.alloc (.cells #[.int .u64 (u x.v), .int .u64 (u x.m), .int .u64 (u x.a), .int .u64 (u x.b), .int .i64 (s x.c), .int .i64 (s x.d)] 26)).alloc (.cells #[.int .u64 (u y.v), .int .u64 (u y.m), .int .u64 (u y.a), .int .u64 (u y.b), .int .i64 (s y.c), .int .i64 (s y.d)] 26)).alloc (.cells #[.int .u64 0, .int .u64 0, .int .u64 0, .int .u64 0, .int .i64 0, .int .i64 0] 26)).alloc (.cells #[.int .u64 0, .int .u64 0, .int .u64 0, .int .u64 0, .int .i64 0, .int .i64 0] 26)).alloc (.cells #[.int .u64 0, .int .u64 0, .int .u64 0, .int .u64 0, .int .i64 0, .int .i64 0, .int .u64 0, .int .u64 0, .int .u64 0, .int .u64 0, .int .i64 0, .int .i64 0] 38)) := by
  have h1 := num_new x w
  have b1 := below_box w (.cells #[.int .u64 (u x.v), .int .u64 (u x.m), .int .u64 (u x.a), .int .u64 (u x.b), .int .i64 (s x.c), .int .i64 (s x.d)] 26)
  have e1 : (w.alloc (.cells #[.int .u64 (u x.v), .int .u64 (u x.m), .int .u64 (u x.a), .int .u64 (u x.b), .int .i64 (s x.c), .int .i64 (s x.d)] 26)).heap.size = w.heap.size + 1 := by simp
  generalize w.alloc (.cells #[.int .u64 (u x.v), .int .u64 (u x.m), .int .u64 (u x.a), .int .u64 (u x.b), .int .i64 (s x.c), .int .i64 (s x.d)] 26) = W1 at h1 b1 e1 ⊢
  have h2 := num_new y W1
  have b2 := below_box W1 (.cells #[.int .u64 (u y.v), .int .u64 (u y.m), .int .u64 (u y.a), .int .u64 (u y.b), .int .i64 (s y.c), .int .i64 (s y.d)] 26)
  have e2 : (W1.alloc (.cells #[.int .u64 (u y.v), .int .u64 (u y.m), .int .u64 (u y.a), .int .u64 (u y.b), .int .i64 (s y.c), .int .i64 (s y.d)] 26)).heap.size = w.heap.size + 1 + 1 := by simp [e1]
  generalize W1.alloc (.cells #[.int .u64 (u y.v), .int .u64 (u y.m), .int .u64 (u y.a), .int .u64 (u y.b), .int .i64 (s y.c), .int .i64 (s y.d)] 26) = W2 at h2 b2 e2 ⊢
  have h3 := zero_new W2
  have b3 := below_box W2 (.cells #[.int .u64 0, .int .u64 0, .int .u64 0, .int .u64 0, .int .i64 0, .int .i64 0] 26)
  have e3 : (W2.alloc (.cells #[.int .u64 0, .int .u64 0, .int .u64 0, .int .u64 0, .int .i64 0, .int .i64 0] 26)).heap.size = w.heap.size + 1 + 1 + 1 := by simp [e2]
  generalize W2.alloc (.cells #[.int .u64 0, .int .u64 0, .int .u64 0, .int .u64 0, .int .i64 0, .int .i64 0] 26) = W3 at h3 b3 e3 ⊢
  have h4 := zero_new W3
  have b4 := below_box W3 (.cells #[.int .u64 0, .int .u64 0, .int .u64 0, .int .u64 0, .int .i64 0, .int .i64 0] 26)
  have e4 : (W3.alloc (.cells #[.int .u64 0, .int .u64 0, .int .u64 0, .int .u64 0, .int .i64 0, .int .i64 0] 26)).heap.size = w.heap.size + 1 + 1 + 1 + 1 := by simp [e3]
  generalize W3.alloc (.cells #[.int .u64 0, .int .u64 0, .int .u64 0, .int .u64 0, .int .i64 0, .int .i64 0] 26) = W4 at h4 b4 e4 ⊢
  have h5 := pair_new zeroK zeroK W4
  have b5 := below_box W4 (.cells #[.int .u64 0, .int .u64 0, .int .u64 0, .int .u64 0, .int .i64 0, .int .i64 0, .int .u64 0, .int .u64 0, .int .u64 0, .int .u64 0, .int .i64 0, .int .i64 0] 38)
  rw [e1] at h2
  rw [e2] at h3
  rw [e3] at h4
  rw [e4] at h5
  exact ⟨⟨num_keep (num_keep (num_keep (num_keep h1 b2) b3) b4) b5, num_keep (num_keep (num_keep h2 b3) b4) b5⟩, ⟨num_keep (num_keep h3 b4) b5, num_keep h4 b5⟩, h5,
    (((b1.trans (b2.mono (by omega))).trans (b3.mono (by omega))).trans (b4.mono (by omega))).trans (b5.mono (by omega))⟩
end Go.Proofs.Ytbljijbmjccalaa

/-
  Proved here: the memory of the two ways that the map of conditions gives. Conditions: none.
-/
namespace Go.Proofs.Ytbljijbmjccalaa
open Go.RowKit
attribute [local go_sem] u_and u_or u_xor u_andNot u_add u_sub s_conv u_conv max_u min_u max_s min_s u_inc u_less s_inc s_less s_inc64 s_less64
set_option linter.unusedSimpArgs false


theorem con_below (W : World) (f1 f2 : Value) : Below W.heap.size W (W.alloc (.cells #[f1, f2] 42)) := below_box W _
/-- Block C holds a condition's two ways. -/
def ConAt (C : Nat) (f1 f2 : Value) (W : World) : Prop := W.heap[C]? = some (.cells #[f1, f2] 42)
theorem con_new (W : World) (f1 f2 : Value) : ConAt W.heap.size f1 f2 (W.alloc (.cells #[f1, f2] 42)) := (MapKept.heap_alloc W _).1
theorem con_cells {C : Nat} {f1 f2 : Value} {W : World} (h : ConAt C f1 f2 W) : W.cell? ⟨C, 0, none⟩ = some f1 ∧ W.cell? ⟨C, 1, none⟩ = some f2 := by
  unfold ConAt at h
  refine ⟨?_, ?_⟩ <;> simp [World.cell?, h]
theorem con_keep {C : Nat} {f1 f2 : Value} {W W' : World} (h : ConAt C f1 f2 W) (hb : Below W.heap.size W W') : ConAt C f1 f2 W' :=
  (hb.block _ (Array.getElem?_eq_some_iff.1 h).1).trans h
end Go.Proofs.Ytbljijbmjccalaa
