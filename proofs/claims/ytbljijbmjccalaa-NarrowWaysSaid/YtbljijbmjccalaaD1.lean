/-
  Proved here: the memory of the document's holds of layer 9, and its head. Conditions: none.
-/
import Derived.Test.YtbljijbmjccalaaD0
import Derived.Test.YtbljijbmjccalaaM1
import Derived.Test.YtbljijbmjccalaaW1
namespace Go.Proofs.Ytbljijbmjccalaa
open Go.RowKit
attribute [local go_sem] u_and u_or u_xor u_andNot u_add u_sub s_conv u_conv max_u min_u max_s min_s u_inc u_less s_inc s_less s_inc64 s_less64
set_option linter.unusedSimpArgs false


/-- The boxes of holds: both, what is told, and x and y behind them. -/
def HB4 (w0 : World) (a b r q : K) (W : World) : Prop := (NumAt w0.heap.size a W ∧ NumAt (w0.heap.size + 1) b W) ∧ (NumAt (w0.heap.size + 1 + 1) r W ∧ NumAt (w0.heap.size + 1 + 1 + 1) q W) ∧ Below w0.heap.size w0 W
theorem alloc_cell (W : World) (o : Obj) (p : Addr) (h : p.block < W.heap.size) : (W.alloc o).cell? p = W.cell? p := (below_box W o).cell h
theorem alloc_frozen (W : World) (o : Obj) (p : Addr) (h : p.block < W.heap.size) : (W.alloc o).frozen? p = W.frozen? p := (below_box W o).frozen h
theorem lt_two (n : Nat) : (n < n + 1 + 1) = True := by simp; omega
theorem lt_up (n m : Nat) (h : n < m) : (n < m + 1) = True := by simp; omega
/-- These, and x and y behind them. -/
def HX (w0 : World) (a b x y : K) (g h : Nat) (W : World) : Prop := HB4 w0 a b zeroK zeroK W ∧ NumAt g x W ∧ NumAt h y W ∧ g ≠ h ∧ w0.heap.size + 1 + 1 + 1 < g ∧ w0.heap.size + 1 + 1 + 1 < h
section
variable {w0 W W' : World} {a b r q x y : K} {g h : Nat}
theorem h4_keep (h : HB4 w0 a b r q W) (hb : Below W.heap.size W W') : HB4 w0 a b r q W' :=
  ⟨⟨num_keep h.1.1 hb, num_keep h.1.2 hb⟩, ⟨num_keep h.2.1.1 hb, num_keep h.2.1.2 hb⟩, h.2.2.trans (hb.mono h.2.2.size)⟩
theorem h4_far (hh : HB4 w0 a b r q W) (hg : w0.heap.size + 1 + 1 + 1 < g) (o : Nat) (v : Value) : HB4 w0 a b r q (W.setCell ⟨g, o, none⟩ v) :=
  ⟨⟨num_far hh.1.1 (by omega) o v, num_far hh.1.2 (by omega) o v⟩, ⟨num_far hh.2.1.1 (by omega) o v, num_far hh.2.1.2 (by omega) o v⟩, hh.2.2.setCell (by show w0.heap.size ≤ g; omega) v⟩
theorem hx_keep (hx : HX w0 a b x y g h W) (hb : Below W.heap.size W W') : HX w0 a b x y g h W' :=
  ⟨h4_keep hx.1 hb, num_keep hx.2.1 hb, num_keep hx.2.2.1 hb, hx.2.2.2⟩
theorem hx_putx {x' : K} (hx : HX w0 a b x y g h W) (o : Nat) (v : Value) (hr : NumAt g x' (W.setCell ⟨g, o, none⟩ v)) : HX w0 a b x' y g h (W.setCell ⟨g, o, none⟩ v) :=
  ⟨h4_far hx.1 hx.2.2.2.2.1 o v, hr, num_far hx.2.2.1 (by have := hx.2.2.2.1; omega) o v, hx.2.2.2⟩
theorem hx_puty {y' : K} (hx : HX w0 a b x y g h W) (o : Nat) (v : Value) (hr : NumAt h y' (W.setCell ⟨h, o, none⟩ v)) : HX w0 a b x y' g h (W.setCell ⟨h, o, none⟩ v) :=
  ⟨h4_far hx.1 hx.2.2.2.2.2 o v, num_far hx.2.1 (by have := hx.2.2.2.1; omega) o v, hr, hx.2.2.2⟩
theorem hx_sixx (hx : HX w0 a b x y g h W) (k : K) : HX w0 a b k y g h ((((((W.setCell ⟨g, 0, none⟩ (.int .u64 (u k.v))).setCell ⟨g, 1, none⟩ (.int .u64 (u k.m))).setCell ⟨g, 2, none⟩ (.int .u64 (u k.a))).setCell ⟨g, 3, none⟩ (.int .u64 (u k.b))).setCell ⟨g, 4, none⟩ (.int .i64 (s k.c))).setCell ⟨g, 5, none⟩ (.int .i64 (s k.d))) :=
  ⟨h4_far (h4_far (h4_far (h4_far (h4_far (h4_far hx.1 hx.2.2.2.2.1 _ _) hx.2.2.2.2.1 _ _) hx.2.2.2.2.1 _ _) hx.2.2.2.2.1 _ _) hx.2.2.2.2.1 _ _) hx.2.2.2.2.1 _ _, num_six hx.2.1 k, num_other hx.2.2.1 (by have := hx.2.2.2.1; omega) k, hx.2.2.2⟩
theorem hx_sixy (hx : HX w0 a b x y g h W) (k : K) : HX w0 a b x k g h ((((((W.setCell ⟨h, 0, none⟩ (.int .u64 (u k.v))).setCell ⟨h, 1, none⟩ (.int .u64 (u k.m))).setCell ⟨h, 2, none⟩ (.int .u64 (u k.a))).setCell ⟨h, 3, none⟩ (.int .u64 (u k.b))).setCell ⟨h, 4, none⟩ (.int .i64 (s k.c))).setCell ⟨h, 5, none⟩ (.int .i64 (s k.d))) :=
  ⟨h4_far (h4_far (h4_far (h4_far (h4_far (h4_far hx.1 hx.2.2.2.2.2 _ _) hx.2.2.2.2.2 _ _) hx.2.2.2.2.2 _ _) hx.2.2.2.2.2 _ _) hx.2.2.2.2.2 _ _) hx.2.2.2.2.2 _ _, num_other hx.2.1 (by have := hx.2.2.2.1; omega) k, num_six hx.2.2.1 k, hx.2.2.2⟩
/-- What is told: both numbers, in whatever order they are stored. -/
theorem h4_told (hh : HB4 w0 a b r q W) (c d : K) : NumAt (w0.heap.size + 1 + 1) c ((((((((((((W.setCell ⟨w0.heap.size + 1 + 1, 0, none⟩ (.int .u64 (u c.v))).setCell ⟨w0.heap.size + 1 + 1, 1, none⟩ (.int .u64 (u c.m))).setCell ⟨w0.heap.size + 1 + 1, 2, none⟩ (.int .u64 (u c.a))).setCell ⟨w0.heap.size + 1 + 1, 3, none⟩ (.int .u64 (u c.b))).setCell ⟨w0.heap.size + 1 + 1, 4, none⟩ (.int .i64 (s c.c))).setCell ⟨w0.heap.size + 1 + 1, 5, none⟩ (.int .i64 (s c.d))).setCell ⟨w0.heap.size + 1 + 1 + 1, 0, none⟩ (.int .u64 (u d.v))).setCell ⟨w0.heap.size + 1 + 1 + 1, 1, none⟩ (.int .u64 (u d.m))).setCell ⟨w0.heap.size + 1 + 1 + 1, 2, none⟩ (.int .u64 (u d.a))).setCell ⟨w0.heap.size + 1 + 1 + 1, 3, none⟩ (.int .u64 (u d.b))).setCell ⟨w0.heap.size + 1 + 1 + 1, 4, none⟩ (.int .i64 (s d.c))).setCell ⟨w0.heap.size + 1 + 1 + 1, 5, none⟩ (.int .i64 (s d.d))) ∧ NumAt (w0.heap.size + 1 + 1 + 1) d ((((((((((((W.setCell ⟨w0.heap.size + 1 + 1, 0, none⟩ (.int .u64 (u c.v))).setCell ⟨w0.heap.size + 1 + 1, 1, none⟩ (.int .u64 (u c.m))).setCell ⟨w0.heap.size + 1 + 1, 2, none⟩ (.int .u64 (u c.a))).setCell ⟨w0.heap.size + 1 + 1, 3, none⟩ (.int .u64 (u c.b))).setCell ⟨w0.heap.size + 1 + 1, 4, none⟩ (.int .i64 (s c.c))).setCell ⟨w0.heap.size + 1 + 1, 5, none⟩ (.int .i64 (s c.d))).setCell ⟨w0.heap.size + 1 + 1 + 1, 0, none⟩ (.int .u64 (u d.v))).setCell ⟨w0.heap.size + 1 + 1 + 1, 1, none⟩ (.int .u64 (u d.m))).setCell ⟨w0.heap.size + 1 + 1 + 1, 2, none⟩ (.int .u64 (u d.a))).setCell ⟨w0.heap.size + 1 + 1 + 1, 3, none⟩ (.int .u64 (u d.b))).setCell ⟨w0.heap.size + 1 + 1 + 1, 4, none⟩ (.int .i64 (s d.c))).setCell ⟨w0.heap.size + 1 + 1 + 1, 5, none⟩ (.int .i64 (s d.d))) ∧ Below w0.heap.size w0 ((((((((((((W.setCell ⟨w0.heap.size + 1 + 1, 0, none⟩ (.int .u64 (u c.v))).setCell ⟨w0.heap.size + 1 + 1, 1, none⟩ (.int .u64 (u c.m))).setCell ⟨w0.heap.size + 1 + 1, 2, none⟩ (.int .u64 (u c.a))).setCell ⟨w0.heap.size + 1 + 1, 3, none⟩ (.int .u64 (u c.b))).setCell ⟨w0.heap.size + 1 + 1, 4, none⟩ (.int .i64 (s c.c))).setCell ⟨w0.heap.size + 1 + 1, 5, none⟩ (.int .i64 (s c.d))).setCell ⟨w0.heap.size + 1 + 1 + 1, 0, none⟩ (.int .u64 (u d.v))).setCell ⟨w0.heap.size + 1 + 1 + 1, 1, none⟩ (.int .u64 (u d.m))).setCell ⟨w0.heap.size + 1 + 1 + 1, 2, none⟩ (.int .u64 (u d.a))).setCell ⟨w0.heap.size + 1 + 1 + 1, 3, none⟩ (.int .u64 (u d.b))).setCell ⟨w0.heap.size + 1 + 1 + 1, 4, none⟩ (.int .i64 (s d.c))).setCell ⟨w0.heap.size + 1 + 1 + 1, 5, none⟩ (.int .i64 (s d.d))) :=
  ⟨num_other (num_ret hh.2.1.1 c) (by omega) d, num_ret (num_other hh.2.1.2 (by omega) c) d, below_num (by omega) (below_num (by omega) hh.2.2 c) d⟩
theorem h4_told2 (hh : HB4 w0 a b r q W) (c d : K) : NumAt (w0.heap.size + 1 + 1) c ((((((((((((W.setCell ⟨w0.heap.size + 1 + 1 + 1, 0, none⟩ (.int .u64 (u d.v))).setCell ⟨w0.heap.size + 1 + 1 + 1, 1, none⟩ (.int .u64 (u d.m))).setCell ⟨w0.heap.size + 1 + 1 + 1, 2, none⟩ (.int .u64 (u d.a))).setCell ⟨w0.heap.size + 1 + 1 + 1, 3, none⟩ (.int .u64 (u d.b))).setCell ⟨w0.heap.size + 1 + 1 + 1, 4, none⟩ (.int .i64 (s d.c))).setCell ⟨w0.heap.size + 1 + 1 + 1, 5, none⟩ (.int .i64 (s d.d))).setCell ⟨w0.heap.size + 1 + 1, 0, none⟩ (.int .u64 (u c.v))).setCell ⟨w0.heap.size + 1 + 1, 1, none⟩ (.int .u64 (u c.m))).setCell ⟨w0.heap.size + 1 + 1, 2, none⟩ (.int .u64 (u c.a))).setCell ⟨w0.heap.size + 1 + 1, 3, none⟩ (.int .u64 (u c.b))).setCell ⟨w0.heap.size + 1 + 1, 4, none⟩ (.int .i64 (s c.c))).setCell ⟨w0.heap.size + 1 + 1, 5, none⟩ (.int .i64 (s c.d))) ∧ NumAt (w0.heap.size + 1 + 1 + 1) d ((((((((((((W.setCell ⟨w0.heap.size + 1 + 1 + 1, 0, none⟩ (.int .u64 (u d.v))).setCell ⟨w0.heap.size + 1 + 1 + 1, 1, none⟩ (.int .u64 (u d.m))).setCell ⟨w0.heap.size + 1 + 1 + 1, 2, none⟩ (.int .u64 (u d.a))).setCell ⟨w0.heap.size + 1 + 1 + 1, 3, none⟩ (.int .u64 (u d.b))).setCell ⟨w0.heap.size + 1 + 1 + 1, 4, none⟩ (.int .i64 (s d.c))).setCell ⟨w0.heap.size + 1 + 1 + 1, 5, none⟩ (.int .i64 (s d.d))).setCell ⟨w0.heap.size + 1 + 1, 0, none⟩ (.int .u64 (u c.v))).setCell ⟨w0.heap.size + 1 + 1, 1, none⟩ (.int .u64 (u c.m))).setCell ⟨w0.heap.size + 1 + 1, 2, none⟩ (.int .u64 (u c.a))).setCell ⟨w0.heap.size + 1 + 1, 3, none⟩ (.int .u64 (u c.b))).setCell ⟨w0.heap.size + 1 + 1, 4, none⟩ (.int .i64 (s c.c))).setCell ⟨w0.heap.size + 1 + 1, 5, none⟩ (.int .i64 (s c.d))) ∧ Below w0.heap.size w0 ((((((((((((W.setCell ⟨w0.heap.size + 1 + 1 + 1, 0, none⟩ (.int .u64 (u d.v))).setCell ⟨w0.heap.size + 1 + 1 + 1, 1, none⟩ (.int .u64 (u d.m))).setCell ⟨w0.heap.size + 1 + 1 + 1, 2, none⟩ (.int .u64 (u d.a))).setCell ⟨w0.heap.size + 1 + 1 + 1, 3, none⟩ (.int .u64 (u d.b))).setCell ⟨w0.heap.size + 1 + 1 + 1, 4, none⟩ (.int .i64 (s d.c))).setCell ⟨w0.heap.size + 1 + 1 + 1, 5, none⟩ (.int .i64 (s d.d))).setCell ⟨w0.heap.size + 1 + 1, 0, none⟩ (.int .u64 (u c.v))).setCell ⟨w0.heap.size + 1 + 1, 1, none⟩ (.int .u64 (u c.m))).setCell ⟨w0.heap.size + 1 + 1, 2, none⟩ (.int .u64 (u c.a))).setCell ⟨w0.heap.size + 1 + 1, 3, none⟩ (.int .u64 (u c.b))).setCell ⟨w0.heap.size + 1 + 1, 4, none⟩ (.int .i64 (s c.c))).setCell ⟨w0.heap.size + 1 + 1, 5, none⟩ (.int .i64 (s c.d))) :=
  ⟨num_ret (num_other hh.2.1.1 (by omega) d) c, num_other (num_ret hh.2.1.2 d) (by omega) c, below_num (by omega) (below_num (by omega) hh.2.2 d) c⟩
end
theorem hx_new {w0 W : World} {a b : K} (h : HB4 w0 a b zeroK zeroK W) (x y : K) : NumAt W.heap.size x ((W.alloc (.cells #[.int .u64 (u x.v), .int .u64 (u x.m), .int .u64 (u x.a), .int .u64 (u x.b), .int .i64 (s x.c), .int .i64 (s x.d)] 26)).alloc (.cells #[.int .u64 (u y.v), .int .u64 (u y.m), .int .u64 (u y.a), .int .u64 (u y.b), .int .i64 (s y.c), .int .i64 (s y.d)] 26)).drew ∧ NumAt (W.heap.size + 1) y ((W.alloc (.cells #[.int .u64 (u x.v), .int .u64 (u x.m), .int .u64 (u x.a), .int .u64 (u x.b), .int .i64 (s x.c), .int .i64 (s x.d)] 26)).alloc (.cells #[.int .u64 (u y.v), .int .u64 (u y.m), .int .u64 (u y.a), .int .u64 (u y.b), .int .i64 (s y.c), .int .i64 (s y.d)] 26)).drew ∧ HB4 w0 a b zeroK zeroK ((W.alloc (.cells #[.int .u64 (u x.v), .int .u64 (u x.m), .int .u64 (u x.a), .int .u64 (u x.b), .int .i64 (s x.c), .int .i64 (s x.d)] 26)).alloc (.cells #[.int .u64 (u y.v), .int .u64 (u y.m), .int .u64 (u y.a), .int .u64 (u y.b), .int .i64 (s y.c), .int .i64 (s y.d)] 26)).drew := by
  have h1 := num_new x W
  have b1 := below_box W (.cells #[.int .u64 (u x.v), .int .u64 (u x.m), .int .u64 (u x.a), .int .u64 (u x.b), .int .i64 (s x.c), .int .i64 (s x.d)] 26)
  have h2 := num_new y (W.alloc (.cells #[.int .u64 (u x.v), .int .u64 (u x.m), .int .u64 (u x.a), .int .u64 (u x.b), .int .i64 (s x.c), .int .i64 (s x.d)] 26))
  have b2 := below_box (W.alloc (.cells #[.int .u64 (u x.v), .int .u64 (u x.m), .int .u64 (u x.a), .int .u64 (u x.b), .int .i64 (s x.c), .int .i64 (s x.d)] 26)) (.cells #[.int .u64 (u y.v), .int .u64 (u y.m), .int .u64 (u y.a), .int .u64 (u y.b), .int .i64 (s y.c), .int .i64 (s y.d)] 26)
  have e1 : (W.alloc (.cells #[.int .u64 (u x.v), .int .u64 (u x.m), .int .u64 (u x.a), .int .u64 (u x.b), .int .i64 (s x.c), .int .i64 (s x.d)] 26)).heap.size = W.heap.size + 1 := by simp
  rw [e1] at h2
  have hk := h4_keep (h4_keep h b1) b2
  exact ⟨num_keep h1 b2.drew, h2, hk.1, hk.2.1, hk.2.2.drew⟩
theorem h4_new (x y : K) (w : World) : HB4 w x y zeroK zeroK ((((w.alloc (.cells #[.int .u64 (u x.v), .int .u64 (u x.m), .int .u64 (u x.a), .int .u64 (u x.b), .int .i64 (s x.c), .int .i64 (s x.d)] 26)).alloc (.cells #[.int .u64 (u y.v), .int .u64 (u y.m), .int .u64 (u y.a), .int .u64 (u y.b), .int .i64 (s y.c), .int .i64 (s y.d)] 26)).alloc (.cells #[.int .u64 0, .int .u64 0, .int .u64 0, .int .u64 0, .int .i64 0, .int .i64 0] 26)).alloc (.cells #[.int .u64 0, .int .u64 0, .int .u64 0, .int .u64 0, .int .i64 0, .int .i64 0] 26)) := by
  have h1 := num_new x w
  have b1 := below_box w (.cells #[.int .u64 (u x.v), .int .u64 (u x.m), .int .u64 (u x.a), .int .u64 (u x.b), .int .i64 (s x.c), .int .i64 (s x.d)] 26)
  have e1 : (w.alloc (.cells #[.int .u64 (u x.v), .int .u64 (u x.m), .int .u64 (u x.a), .int .u64 (u x.b), .int .i64 (s x.c), .int .i64 (s x.d)] 26)).heap.size = w.heap.size + 1 := by simp
  generalize w.alloc (.cells #[.int .u64 (u x.v), .int .u64 (u x.m), .int .u64 (u x.a), .int .u64 (u x.b), .int .i64 (s x.c), .int .i64 (s x.d)] 26) = W1 at h1 b1 e1 ⊢
  have h2 := num_new y W1
  have b2 := below_box W1 (.cells #[.int .u64 (u y.v), .int .u64 (u y.m), .int .u64 (u y.a), .int .u64 (u y.b), .int .i64 (s y.c), .int .i64 (s y.d)] 26)
  have e2 : (W1.alloc (.cells #[.int .u64 (u y.v), .int .u64 (u y.m), .int .u64 (u y.a), .int .u64 (u y.b), .int .i64 (s y.c), .int .i64 (s y.d)] 26)).heap.size = w.heap.size + 1 + 1 := by simp [e1]
  generalize W1.alloc (.cells #[.int .u64 (u y.v), .int .u64 (u y.m), .int .u64 (u y.a), .int .u64 (u y.b), .int .i64 (s y.c), .int .i64 (s y.d)] 26) = W2 at h2 b2 e2 ⊢
  have h3 := zero_new W2
  have b3 := below_box W2 (.cells #[.int .u64 0, .int .u64 0, .int .u64 0, .int .u64 0, .int .i64 0, .int .i64 0] 26)
  have e3 : (W2.alloc (.cells #[.int .u64 0, .int .u64 0, .int .u64 0, .int .u64 0, .int .i64 0, .int .i64 0] 26)).heap.size = w.heap.size + 1 + 1 + 1 := by simp [e2]
  generalize W2.alloc (.cells #[.int .u64 0, .int .u64 0, .int .u64 0, .int .u64 0, .int .i64 0, .int .i64 0] 26) = W3 at h3 b3 e3 ⊢
  have h4 := zero_new W3
  have b4 := below_box W3 (.cells #[.int .u64 0, .int .u64 0, .int .u64 0, .int .u64 0, .int .i64 0, .int .i64 0] 26)
  rw [e1] at h2
  rw [e2] at h3
  rw [e3] at h4
  exact ⟨⟨num_keep (num_keep (num_keep h1 b2) b3) b4, num_keep (num_keep h2 b3) b4⟩, ⟨num_keep h3 b4, h4⟩, ((b1.trans (b2.mono (by omega))).trans (b3.mono (by omega))).trans (b4.mono (by omega))⟩
attribute [local go_sem] alloc_cell alloc_frozen World.size_drew lt_two lt_up
set_option maxRecDepth 100000 in
set_option maxHeartbeats 4000000 in
/-- The head of the document's holds: what follows it is had. -/
theorem hold_head (op set : Int) (x y : K) (w : World) (v : Value)
    (H : ∀ (g h : Nat) (W : World), HX w x y x y g h W → ∀ (u2 u3 u4 u5 u10 u13 u14 u15 u16 u17 u18 u19 u20 u21 u22 u23 u24 u25 u26 u27 u28 u29 u30 u31 u32 u33 u34 u35 u36 u37 u38 u39 u40 u41 u42 u43 u44 u45 u46 u47 u48 u49 u50 u51 u52 u53 u54 u55 u56 u57 u58 u59 u60 u61 u62 u63 u64 u65 u66 u67 u68 u69 u70 u71 u72 u73 u74 u75 u76 u77 u78 u79 u80 u81 u82 u83 u84 u85 u86 u87 u88 u89 u90 u91 u92 u93 u94 u95 u96 u97 u98 u99 u100 u101 u102 u103 u104 u105 u106 u107 u108 u109 u110 u111 u112 u113 u114 u115 u116 u117 u118 u119 u120 u121 u122 u123 u124 u125 u126 u127 u128 u129 u130 u131 u132 u133 u134 u135 u136 u137 u138 u139 u140 u141 u142 u143 u144 u145 u146 u147 u148 u149 u150 u151 u152 u153 u154 u155 u156 u157 u158 u159 u160 u161 u162 u163 u164 u165 u166 u167 u168 u169 u170 u171 u172 u173 u174 u175 u176 u177 u178 u179 u180 u181 u182 u183 u184 u185 u186 u187 u188 u189 u190 u191 u192 u193 u194 u195 u196 u197 u198 u199 u200 u201 u202 u203 u204 u205 u206 u207 u208 u209 u210 u211 u212 u213 u214 u215 u216 u217 u218 u219 u220 u221 u222 u223 u224 u225 u226 u227 u228 u229 u230 u231 u232 u233 u234 u235 u236 u237 u238 u239 u240 u241 u242 u243 u244 u245 u246 u247 u248 u249 u250 u251 u252 u253 u254 u255 u256 u257 u258 u259 u260 u261 u262 u263 u264 u265 u266 u267 u268 u269 u270 u271 u272 : Value), (tl 2 (Try.f16.body.getD .skip)).wp Try.prog (bodyPost Try.prog Try.f16 fun e w' => e = .returned v ∧ Below w.heap.size w w') ⟨List.toArray (.int .u8 op :: .int .i64 set :: u2 :: u3 :: u4 :: u5 :: .pointer (some ⟨w.heap.size, 0, none⟩) :: .pointer (some ⟨w.heap.size + 1, 0, none⟩) :: .pointer (some ⟨w.heap.size + 1 + 1, 0, none⟩) :: .pointer (some ⟨w.heap.size + 1 + 1 + 1, 0, none⟩) :: u10 :: .pointer (some ⟨g, 0, none⟩) :: .pointer (some ⟨h, 0, none⟩) :: u13 :: u14 :: u15 :: u16 :: u17 :: u18 :: u19 :: u20 :: u21 :: u22 :: u23 :: u24 :: u25 :: u26 :: u27 :: u28 :: u29 :: u30 :: u31 :: u32 :: u33 :: u34 :: u35 :: u36 :: u37 :: u38 :: u39 :: u40 :: u41 :: u42 :: u43 :: u44 :: u45 :: u46 :: u47 :: u48 :: u49 :: u50 :: u51 :: u52 :: u53 :: u54 :: u55 :: u56 :: u57 :: u58 :: u59 :: u60 :: u61 :: u62 :: u63 :: u64 :: u65 :: u66 :: u67 :: u68 :: u69 :: u70 :: u71 :: u72 :: u73 :: u74 :: u75 :: u76 :: u77 :: u78 :: u79 :: u80 :: u81 :: u82 :: u83 :: u84 :: u85 :: u86 :: u87 :: u88 :: u89 :: u90 :: u91 :: u92 :: u93 :: u94 :: u95 :: u96 :: u97 :: u98 :: u99 :: u100 :: u101 :: u102 :: u103 :: u104 :: u105 :: u106 :: u107 :: u108 :: u109 :: u110 :: u111 :: u112 :: u113 :: u114 :: u115 :: u116 :: u117 :: u118 :: u119 :: u120 :: u121 :: u122 :: u123 :: u124 :: u125 :: u126 :: u127 :: u128 :: u129 :: u130 :: u131 :: u132 :: u133 :: u134 :: u135 :: u136 :: u137 :: u138 :: u139 :: u140 :: u141 :: u142 :: u143 :: u144 :: u145 :: u146 :: u147 :: u148 :: u149 :: u150 :: u151 :: u152 :: u153 :: u154 :: u155 :: u156 :: u157 :: u158 :: u159 :: u160 :: u161 :: u162 :: u163 :: u164 :: u165 :: u166 :: u167 :: u168 :: u169 :: u170 :: u171 :: u172 :: u173 :: u174 :: u175 :: u176 :: u177 :: u178 :: u179 :: u180 :: u181 :: u182 :: u183 :: u184 :: u185 :: u186 :: u187 :: u188 :: u189 :: u190 :: u191 :: u192 :: u193 :: u194 :: u195 :: u196 :: u197 :: u198 :: u199 :: u200 :: u201 :: u202 :: u203 :: u204 :: u205 :: u206 :: u207 :: u208 :: u209 :: u210 :: u211 :: u212 :: u213 :: u214 :: u215 :: u216 :: u217 :: u218 :: u219 :: u220 :: u221 :: u222 :: u223 :: u224 :: u225 :: u226 :: u227 :: u228 :: u229 :: u230 :: u231 :: u232 :: u233 :: u234 :: u235 :: u236 :: u237 :: u238 :: u239 :: u240 :: u241 :: u242 :: u243 :: u244 :: u245 :: u246 :: u247 :: u248 :: u249 :: u250 :: u251 :: u252 :: u253 :: u254 :: u255 :: u256 :: u257 :: u258 :: u259 :: u260 :: u261 :: u262 :: u263 :: u264 :: u265 :: u266 :: u267 :: u268 :: u269 :: u270 :: u271 :: u272 :: []), []⟩ W) :
    Calls Try.prog 16 #[.int .u8 op, .int .i64 set, numV x, numV y] w (Gives v w) := by
  have HW := Lib.hid (h4_new x y w)
  have HH := Lib.hid H
  clear H
  unfold Gives numV
  obtain ⟨W0, hW0⟩ : ∃ W0, ((((w.alloc (.cells #[.int .u64 (u x.v), .int .u64 (u x.m), .int .u64 (u x.a), .int .u64 (u x.b), .int .i64 (s x.c), .int .i64 (s x.d)] 26)).alloc (.cells #[.int .u64 (u y.v), .int .u64 (u y.m), .int .u64 (u y.a), .int .u64 (u y.b), .int .i64 (s y.c), .int .i64 (s y.d)] 26)).alloc (.cells #[.int .u64 0, .int .u64 0, .int .u64 0, .int .u64 0, .int .i64 0, .int .i64 0] 26)).alloc (.cells #[.int .u64 0, .int .u64 0, .int .u64 0, .int .u64 0, .int .i64 0, .int .i64 0] 26)) = W0 := ⟨_, rfl⟩
  rw [hW0] at HW
  obtain ⟨x0, x1, x2, x3, x4, x5⟩ := num_cells HW.out.1.1
  obtain ⟨y0, y1, y2, y3, y4, y5⟩ := num_cells HW.out.1.2
  go_enter Try.func16, Try.ntmps16
  go_upto_region 1 with fail
  clear hW0
  have l0 := num_lt HW.out.1.1
  have l1 := num_lt HW.out.1.2
  have l3 := num_lt HW.out.2.1.2
  go_cut [11, 12] (fun p q W => ∃ g h, p = .pointer (some ⟨g, 0, none⟩) ∧ q = .pointer (some ⟨h, 0, none⟩) ∧ HX w x y x y g h W)
  case first =>
    go_region
    · go_wp2_with fail
      go_meet
      obtain ⟨k1, k2, k3⟩ := hx_new HW.out x y
      exact ⟨_, _, rfl, rfl, k3, k1, k2, by omega, by omega, by omega⟩
    · go_wp2_with fail
      go_meet
      obtain ⟨k1, k2, k3⟩ := hx_new HW.out y x
      exact ⟨_, _, rfl, rfl, k3, k2, k1, by omega, by omega, by omega⟩
  case rest =>
    obtain ⟨g, h, rfl, rfl, hx⟩ := hcut
    clear HW x0 x1 x2 x3 x4 x5 y0 y1 y2 y3 y4 y5 l0 l1 l3 W0
    apply_assumption
    refine wp_code (c' := tl 2 (Try.f16.body.getD .skip)) (by kernel_rfl) ?_
    exact HH.out g h _ hx _ _ _ _ _ _ _ _ _ _ _ _ _ _ _ _ _ _ _ _ _ _ _ _ _ _ _ _ _ _ _ _ _ _ _ _ _ _ _ _ _ _ _ _ _ _ _ _ _ _ _ _ _ _ _ _ _ _ _ _ _ _ _ _ _ _ _ _ _ _ _ _ _ _ _ _ _ _ _ _ _ _ _ _ _ _ _ _ _ _ _ _ _ _ _ _ _ _ _ _ _ _ _ _ _ _ _ _ _ _ _ _ _ _ _ _ _ _ _ _ _ _ _ _ _ _ _ _ _ _ _ _ _ _ _ _ _ _ _ _ _ _ _ _ _ _ _ _ _ _ _ _ _ _ _ _ _ _ _ _ _ _ _ _ _ _ _ _ _ _ _ _ _ _ _ _ _ _ _ _ _ _ _ _ _ _ _ _ _ _ _ _ _ _ _ _ _ _ _ _ _ _ _ _ _ _ _ _ _ _ _ _ _ _ _ _ _ _ _ _ _ _ _ _ _ _ _ _ _ _ _ _ _ _ _ _ _ _ _ _ _ _ _ _ _ _ _ _ _ _ _ _ _ _ _ _ _ _ _ _ _ _ _ _ _
end Go.Proofs.Ytbljijbmjccalaa

/-
  Proved here: what follows the switch of the document's holds of layer 9. Conditions: none.
-/
namespace Go.Proofs.Ytbljijbmjccalaa
open Go.RowKit
attribute [local go_sem] u_and u_or u_xor u_andNot u_add u_sub s_conv u_conv max_u min_u max_s min_s u_inc u_less s_inc s_less s_inc64 s_less64
set_option linter.unusedSimpArgs false

/-- The first statement. -/
def hdC : Code → Code
  | .seq a _ => a
  | c => c
set_option maxRecDepth 100000 in
set_option maxHeartbeats 8000000 in
theorem hend_ok (a b x y : K) (g h : Nat) (w W : World) (hx : HX w a b x y g h W) (hp : x.okF = true) (hq : y.okF = true) (next : Act → World → Prop) (hnext : ∀ a' w', (tl 4 (Try.f16.body.getD .skip)).wp Try.prog (bodyPost Try.prog Try.f16 fun e w' => e = .returned (.tuple #[numV x.fine, numV y.fine, .bool true]) ∧ Below w.heap.size w w') a' w' → next a' w') (u0 u1 u2 u3 u4 u5 u10 u13 u14 u15 u16 u17 u18 u19 u20 u21 u22 u23 u24 u25 u26 u27 u28 u29 u30 u31 u32 u33 u34 u35 u36 u37 u38 u39 u40 u41 u42 u43 u44 u45 u46 u47 u48 u49 u50 u51 u52 u53 u54 u55 u56 u57 u58 u59 u60 u61 u62 u63 u64 u65 u66 u67 u68 u69 u70 u71 u72 u73 u74 u75 u76 u77 u78 u79 u80 u81 u82 u83 u84 u85 u86 u87 u88 u89 u90 u91 u92 u93 u94 u95 u96 u97 u98 u99 u100 u101 u102 u103 u104 u105 u106 u107 u108 u109 u110 u111 u112 u113 u114 u115 u116 u117 u118 u119 u120 u121 u122 u123 u124 u125 u126 u127 u128 u129 u130 u131 u132 u133 u134 u135 u136 u137 u138 u139 u140 u141 u142 u143 u144 u145 u146 u147 u148 u149 u150 u151 u152 u153 u154 u155 u156 u157 u158 u159 u160 u161 u162 u163 u164 u165 u166 u167 u168 u169 u170 u171 u172 u173 u174 u175 u176 u177 u178 u179 u180 u181 u182 u183 u184 u185 u186 u187 u188 u189 u190 u191 u192 u193 u194 u195 u196 u197 u198 u199 u200 u201 u202 u203 u204 u205 u206 u207 u208 u209 u210 u211 u212 u213 u214 u215 u216 u217 u218 u219 u220 u221 u222 u223 u224 u225 u226 u227 u228 u229 u230 u231 u232 u233 u234 u235 u236 u237 u238 u239 u240 u241 u242 u243 u244 u245 u246 u247 u248 u249 u250 u251 u252 u253 u254 u255 u256 u257 u258 u259 u260 u261 u262 u263 u264 u265 u266 u267 u268 u269 u270 u271 u272 : Value) :
    (hdC (tl 3 (Try.f16.body.getD .skip))).wp Try.prog (Exit.then next (bodyPost Try.prog Try.f16 fun e w' => e = .returned (.tuple #[numV x.fine, numV y.fine, .bool true]) ∧ Below w.heap.size w w')) ⟨List.toArray (u0 :: u1 :: u2 :: u3 :: u4 :: u5 :: .pointer (some ⟨w.heap.size, 0, none⟩) :: .pointer (some ⟨w.heap.size + 1, 0, none⟩) :: .pointer (some ⟨w.heap.size + 1 + 1, 0, none⟩) :: .pointer (some ⟨w.heap.size + 1 + 1 + 1, 0, none⟩) :: u10 :: .pointer (some ⟨g, 0, none⟩) :: .pointer (some ⟨h, 0, none⟩) :: u13 :: u14 :: u15 :: u16 :: u17 :: u18 :: u19 :: u20 :: u21 :: u22 :: u23 :: u24 :: u25 :: u26 :: u27 :: u28 :: u29 :: u30 :: u31 :: u32 :: u33 :: u34 :: u35 :: u36 :: u37 :: u38 :: u39 :: u40 :: u41 :: u42 :: u43 :: u44 :: u45 :: u46 :: u47 :: u48 :: u49 :: u50 :: u51 :: u52 :: u53 :: u54 :: u55 :: u56 :: u57 :: u58 :: u59 :: u60 :: u61 :: u62 :: u63 :: u64 :: u65 :: u66 :: u67 :: u68 :: u69 :: u70 :: u71 :: u72 :: u73 :: u74 :: u75 :: u76 :: u77 :: u78 :: u79 :: u80 :: u81 :: u82 :: u83 :: u84 :: u85 :: u86 :: u87 :: u88 :: u89 :: u90 :: u91 :: u92 :: u93 :: u94 :: u95 :: u96 :: u97 :: u98 :: u99 :: u100 :: u101 :: u102 :: u103 :: u104 :: u105 :: u106 :: u107 :: u108 :: u109 :: u110 :: u111 :: u112 :: u113 :: u114 :: u115 :: u116 :: u117 :: u118 :: u119 :: u120 :: u121 :: u122 :: u123 :: u124 :: u125 :: u126 :: u127 :: u128 :: u129 :: u130 :: u131 :: u132 :: u133 :: u134 :: u135 :: u136 :: u137 :: u138 :: u139 :: u140 :: u141 :: u142 :: u143 :: u144 :: u145 :: u146 :: u147 :: u148 :: u149 :: u150 :: u151 :: u152 :: u153 :: u154 :: u155 :: u156 :: u157 :: u158 :: u159 :: u160 :: u161 :: u162 :: u163 :: u164 :: u165 :: u166 :: u167 :: u168 :: u169 :: u170 :: u171 :: u172 :: u173 :: u174 :: u175 :: u176 :: u177 :: u178 :: u179 :: u180 :: u181 :: u182 :: u183 :: u184 :: u185 :: u186 :: u187 :: u188 :: u189 :: u190 :: u191 :: u192 :: u193 :: u194 :: u195 :: u196 :: u197 :: u198 :: u199 :: u200 :: u201 :: u202 :: u203 :: u204 :: u205 :: u206 :: u207 :: u208 :: u209 :: u210 :: u211 :: u212 :: u213 :: u214 :: u215 :: u216 :: u217 :: u218 :: u219 :: u220 :: u221 :: u222 :: u223 :: u224 :: u225 :: u226 :: u227 :: u228 :: u229 :: u230 :: u231 :: u232 :: u233 :: u234 :: u235 :: u236 :: u237 :: u238 :: u239 :: u240 :: u241 :: u242 :: u243 :: u244 :: u245 :: u246 :: u247 :: u248 :: u249 :: u250 :: u251 :: u252 :: u253 :: u254 :: u255 :: u256 :: u257 :: u258 :: u259 :: u260 :: u261 :: u262 :: u263 :: u264 :: u265 :: u266 :: u267 :: u268 :: u269 :: u270 :: u271 :: u272 :: []), []⟩ W := by
  have hrx := fun W => reffine_num x W
  have hry := fun W => reffine_num y W
  rw [hp] at hrx
  rw [hq] at hry
  obtain ⟨x', hx'⟩ : ∃ x', x.fine = x' := ⟨_, rfl⟩
  obtain ⟨y', hy'⟩ : ∃ y', y.fine = y' := ⟨_, rfl⟩
  rw [hx'] at hrx hnext ⊢
  rw [hy'] at hry hnext ⊢
  clear hx' hy' hp hq
  have HW := Lib.hid hx
  clear hx
  unfold numV at *
  obtain ⟨rest, hrest⟩ : ∃ c, tl 4 (Try.f16.body.getD .skip) = c := ⟨_, rfl⟩
  rw [hrest] at hnext
  dsimp only [tl, Try.f16, Option.getD] at hrest
  subst hrest
  obtain ⟨code, hcode⟩ : ∃ c, hdC (tl 3 (Try.f16.body.getD .skip)) = c := ⟨_, rfl⟩
  rw [hcode]
  dsimp only [tl, hdC, Try.f16, Option.getD] at hcode
  subst hcode
  obtain ⟨x0, x1, x2, x3, x4, x5⟩ := num_cells HW.out.2.1
  go_upto_region 59 with (go_at_call 35; refine (hrx _).mono ?_; rintro e w1 ⟨rfl, hb⟩; have HV := Lib.hid (hx_keep HW.out hb); clear hb x0 x1 x2 x3 x4 x5; obtain ⟨x0, x1, x2, x3, x4, x5⟩ := num_cells HV.out.2.1; obtain ⟨i0, i1, i2, i3, i4, i5⟩ := num_free HV.out.2.1)
  have HU := Lib.hid (hx_sixx HV.out x')
  clear x0 x1 x2 x3 x4 x5 i0 i1 i2 i3 i4 i5
  generalize World.setCell _ _ _ = Wa at HU ⊢
  obtain ⟨Wb, hWb⟩ : ∃ Wb, Wa = Wb := ⟨_, rfl⟩
  rw [hWb] at HU ⊢
  clear hWb HV HW
  have HW := HU
  clear HU
  obtain ⟨y0, y1, y2, y3, y4, y5⟩ := num_cells HW.out.2.2.1
  go_upto_region 60 with (go_at_call 35; refine (hry _).mono ?_; rintro e w1 ⟨rfl, hb⟩; have HV := Lib.hid (hx_keep HW.out hb); clear hb y0 y1 y2 y3 y4 y5; obtain ⟨y0, y1, y2, y3, y4, y5⟩ := num_cells HV.out.2.2.1; obtain ⟨j0, j1, j2, j3, j4, j5⟩ := num_free HV.out.2.2.1)
  have HU := Lib.hid (hx_sixy HV.out y')
  clear y0 y1 y2 y3 y4 y5 j0 j1 j2 j3 j4 j5
  generalize World.setCell _ _ _ = Wa at HU ⊢
  obtain ⟨Wb, hWb⟩ : ∃ Wb, Wa = Wb := ⟨_, rfl⟩
  rw [hWb] at HU ⊢
  clear hWb HV HW
  have HW := HU
  clear HU
  obtain ⟨x0, x1, x2, x3, x4, x5⟩ := num_cells HW.out.2.1
  obtain ⟨y0, y1, y2, y3, y4, y5⟩ := num_cells HW.out.2.2.1
  obtain ⟨r0, r1, r2, r3, r4, r5⟩ := num_cells HW.out.1.2.1.1
  obtain ⟨t0, t1, t2, t3, t4, t5⟩ := num_cells HW.out.1.2.1.2
  obtain ⟨k0, k1, k2, k3, k4, k5⟩ := num_free HW.out.1.2.1.1
  obtain ⟨l0, l1, l2, l3, l4, l5⟩ := num_free HW.out.1.2.1.2
  have nq1 : (g = w.heap.size + 1 + 1) = False := by have := HW.out.2.2.2.2.1; simp; omega
  have nr1 : (w.heap.size + 1 + 1 = g) = False := by have := HW.out.2.2.2.2.1; simp; omega
  have nq2 : (g = w.heap.size + 1 + 1 + 1) = False := by have := HW.out.2.2.2.2.1; simp; omega
  have nr2 : (w.heap.size + 1 + 1 + 1 = g) = False := by have := HW.out.2.2.2.2.1; simp; omega
  have nq3 : (h = w.heap.size + 1 + 1) = False := by have := HW.out.2.2.2.2.2; simp; omega
  have nr3 : (w.heap.size + 1 + 1 = h) = False := by have := HW.out.2.2.2.2.2; simp; omega
  have nq4 : (h = w.heap.size + 1 + 1 + 1) = False := by have := HW.out.2.2.2.2.2; simp; omega
  have nr4 : (w.heap.size + 1 + 1 + 1 = h) = False := by have := HW.out.2.2.2.2.2; simp; omega
  go_wp2_with fail
  go_region
  all_goals
    first
      | (have HF := Lib.hid (h4_told (HW.out.1) (x') (y')); generalize World.setCell _ _ _ = Wf at HF ⊢; obtain ⟨Wg, hWg⟩ : ∃ Wg, Wf = Wg := ⟨_, rfl⟩; rw [hWg] at HF ⊢; clear hWg; obtain ⟨z0, z1, z2, z3, z4, z5⟩ := num_cells HF.out.1; obtain ⟨e0, e1, e2, e3, e4, e5⟩ := num_cells HF.out.2.1; go_wp2_with fail; exact bodyPost_ret (v := .tuple #[numV (x'), numV (y'), .bool true]) (by unfold numV; simp [results, Try.results16, go_sem, z0, z1, z2, z3, z4, z5, e0, e1, e2, e3, e4, e5]) rfl ⟨rfl, HF.out.2.2.drew⟩)
      | (have HF := Lib.hid (h4_told2 (HW.out.1) (x') (y')); generalize World.setCell _ _ _ = Wf at HF ⊢; obtain ⟨Wg, hWg⟩ : ∃ Wg, Wf = Wg := ⟨_, rfl⟩; rw [hWg] at HF ⊢; clear hWg; obtain ⟨z0, z1, z2, z3, z4, z5⟩ := num_cells HF.out.1; obtain ⟨e0, e1, e2, e3, e4, e5⟩ := num_cells HF.out.2.1; go_wp2_with fail; exact bodyPost_ret (v := .tuple #[numV (x'), numV (y'), .bool true]) (by unfold numV; simp [results, Try.results16, go_sem, z0, z1, z2, z3, z4, z5, e0, e1, e2, e3, e4, e5]) rfl ⟨rfl, HF.out.2.2.drew⟩)
set_option maxRecDepth 100000 in
set_option maxHeartbeats 8000000 in
theorem hend_x (a b x y : K) (g h : Nat) (w W : World) (hx : HX w a b x y g h W) (q : Bool) (hp : x.okF = false) (hq : y.okF = q) (next : Act → World → Prop) (hnext : ∀ a' w', (tl 4 (Try.f16.body.getD .skip)).wp Try.prog (bodyPost Try.prog Try.f16 fun e w' => e = .returned (.tuple #[numV a, numV b, .bool false]) ∧ Below w.heap.size w w') a' w' → next a' w') (u0 u1 u2 u3 u4 u5 u10 u13 u14 u15 u16 u17 u18 u19 u20 u21 u22 u23 u24 u25 u26 u27 u28 u29 u30 u31 u32 u33 u34 u35 u36 u37 u38 u39 u40 u41 u42 u43 u44 u45 u46 u47 u48 u49 u50 u51 u52 u53 u54 u55 u56 u57 u58 u59 u60 u61 u62 u63 u64 u65 u66 u67 u68 u69 u70 u71 u72 u73 u74 u75 u76 u77 u78 u79 u80 u81 u82 u83 u84 u85 u86 u87 u88 u89 u90 u91 u92 u93 u94 u95 u96 u97 u98 u99 u100 u101 u102 u103 u104 u105 u106 u107 u108 u109 u110 u111 u112 u113 u114 u115 u116 u117 u118 u119 u120 u121 u122 u123 u124 u125 u126 u127 u128 u129 u130 u131 u132 u133 u134 u135 u136 u137 u138 u139 u140 u141 u142 u143 u144 u145 u146 u147 u148 u149 u150 u151 u152 u153 u154 u155 u156 u157 u158 u159 u160 u161 u162 u163 u164 u165 u166 u167 u168 u169 u170 u171 u172 u173 u174 u175 u176 u177 u178 u179 u180 u181 u182 u183 u184 u185 u186 u187 u188 u189 u190 u191 u192 u193 u194 u195 u196 u197 u198 u199 u200 u201 u202 u203 u204 u205 u206 u207 u208 u209 u210 u211 u212 u213 u214 u215 u216 u217 u218 u219 u220 u221 u222 u223 u224 u225 u226 u227 u228 u229 u230 u231 u232 u233 u234 u235 u236 u237 u238 u239 u240 u241 u242 u243 u244 u245 u246 u247 u248 u249 u250 u251 u252 u253 u254 u255 u256 u257 u258 u259 u260 u261 u262 u263 u264 u265 u266 u267 u268 u269 u270 u271 u272 : Value) :
    (hdC (tl 3 (Try.f16.body.getD .skip))).wp Try.prog (Exit.then next (bodyPost Try.prog Try.f16 fun e w' => e = .returned (.tuple #[numV a, numV b, .bool false]) ∧ Below w.heap.size w w')) ⟨List.toArray (u0 :: u1 :: u2 :: u3 :: u4 :: u5 :: .pointer (some ⟨w.heap.size, 0, none⟩) :: .pointer (some ⟨w.heap.size + 1, 0, none⟩) :: .pointer (some ⟨w.heap.size + 1 + 1, 0, none⟩) :: .pointer (some ⟨w.heap.size + 1 + 1 + 1, 0, none⟩) :: u10 :: .pointer (some ⟨g, 0, none⟩) :: .pointer (some ⟨h, 0, none⟩) :: u13 :: u14 :: u15 :: u16 :: u17 :: u18 :: u19 :: u20 :: u21 :: u22 :: u23 :: u24 :: u25 :: u26 :: u27 :: u28 :: u29 :: u30 :: u31 :: u32 :: u33 :: u34 :: u35 :: u36 :: u37 :: u38 :: u39 :: u40 :: u41 :: u42 :: u43 :: u44 :: u45 :: u46 :: u47 :: u48 :: u49 :: u50 :: u51 :: u52 :: u53 :: u54 :: u55 :: u56 :: u57 :: u58 :: u59 :: u60 :: u61 :: u62 :: u63 :: u64 :: u65 :: u66 :: u67 :: u68 :: u69 :: u70 :: u71 :: u72 :: u73 :: u74 :: u75 :: u76 :: u77 :: u78 :: u79 :: u80 :: u81 :: u82 :: u83 :: u84 :: u85 :: u86 :: u87 :: u88 :: u89 :: u90 :: u91 :: u92 :: u93 :: u94 :: u95 :: u96 :: u97 :: u98 :: u99 :: u100 :: u101 :: u102 :: u103 :: u104 :: u105 :: u106 :: u107 :: u108 :: u109 :: u110 :: u111 :: u112 :: u113 :: u114 :: u115 :: u116 :: u117 :: u118 :: u119 :: u120 :: u121 :: u122 :: u123 :: u124 :: u125 :: u126 :: u127 :: u128 :: u129 :: u130 :: u131 :: u132 :: u133 :: u134 :: u135 :: u136 :: u137 :: u138 :: u139 :: u140 :: u141 :: u142 :: u143 :: u144 :: u145 :: u146 :: u147 :: u148 :: u149 :: u150 :: u151 :: u152 :: u153 :: u154 :: u155 :: u156 :: u157 :: u158 :: u159 :: u160 :: u161 :: u162 :: u163 :: u164 :: u165 :: u166 :: u167 :: u168 :: u169 :: u170 :: u171 :: u172 :: u173 :: u174 :: u175 :: u176 :: u177 :: u178 :: u179 :: u180 :: u181 :: u182 :: u183 :: u184 :: u185 :: u186 :: u187 :: u188 :: u189 :: u190 :: u191 :: u192 :: u193 :: u194 :: u195 :: u196 :: u197 :: u198 :: u199 :: u200 :: u201 :: u202 :: u203 :: u204 :: u205 :: u206 :: u207 :: u208 :: u209 :: u210 :: u211 :: u212 :: u213 :: u214 :: u215 :: u216 :: u217 :: u218 :: u219 :: u220 :: u221 :: u222 :: u223 :: u224 :: u225 :: u226 :: u227 :: u228 :: u229 :: u230 :: u231 :: u232 :: u233 :: u234 :: u235 :: u236 :: u237 :: u238 :: u239 :: u240 :: u241 :: u242 :: u243 :: u244 :: u245 :: u246 :: u247 :: u248 :: u249 :: u250 :: u251 :: u252 :: u253 :: u254 :: u255 :: u256 :: u257 :: u258 :: u259 :: u260 :: u261 :: u262 :: u263 :: u264 :: u265 :: u266 :: u267 :: u268 :: u269 :: u270 :: u271 :: u272 :: []), []⟩ W := by
  have hrx := fun W => reffine_num x W
  have hry := fun W => reffine_num y W
  rw [hp] at hrx
  rw [hq] at hry
  obtain ⟨x', hx'⟩ : ∃ x', x.fine = x' := ⟨_, rfl⟩
  obtain ⟨y', hy'⟩ : ∃ y', y.fine = y' := ⟨_, rfl⟩
  rw [hx'] at hrx
  rw [hy'] at hry
  clear hx' hy' hp hq
  have HW := Lib.hid hx
  clear hx
  unfold numV at *
  obtain ⟨rest, hrest⟩ : ∃ c, tl 4 (Try.f16.body.getD .skip) = c := ⟨_, rfl⟩
  rw [hrest] at hnext
  dsimp only [tl, Try.f16, Option.getD] at hrest
  subst hrest
  obtain ⟨code, hcode⟩ : ∃ c, hdC (tl 3 (Try.f16.body.getD .skip)) = c := ⟨_, rfl⟩
  rw [hcode]
  dsimp only [tl, hdC, Try.f16, Option.getD] at hcode
  subst hcode
  obtain ⟨x0, x1, x2, x3, x4, x5⟩ := num_cells HW.out.2.1
  go_upto_region 59 with (go_at_call 35; refine (hrx _).mono ?_; rintro e w1 ⟨rfl, hb⟩; have HV := Lib.hid (hx_keep HW.out hb); clear hb x0 x1 x2 x3 x4 x5; obtain ⟨x0, x1, x2, x3, x4, x5⟩ := num_cells HV.out.2.1; obtain ⟨i0, i1, i2, i3, i4, i5⟩ := num_free HV.out.2.1)
  have HU := Lib.hid (hx_sixx HV.out x')
  clear x0 x1 x2 x3 x4 x5 i0 i1 i2 i3 i4 i5
  generalize World.setCell _ _ _ = Wa at HU ⊢
  obtain ⟨Wb, hWb⟩ : ∃ Wb, Wa = Wb := ⟨_, rfl⟩
  rw [hWb] at HU ⊢
  clear hWb HV HW
  have HW := HU
  clear HU
  obtain ⟨y0, y1, y2, y3, y4, y5⟩ := num_cells HW.out.2.2.1
  go_upto_region 60 with (go_at_call 35; refine (hry _).mono ?_; rintro e w1 ⟨rfl, hb⟩; have HV := Lib.hid (hx_keep HW.out hb); clear hb y0 y1 y2 y3 y4 y5; obtain ⟨y0, y1, y2, y3, y4, y5⟩ := num_cells HV.out.2.2.1; obtain ⟨j0, j1, j2, j3, j4, j5⟩ := num_free HV.out.2.2.1)
  have HU := Lib.hid (hx_sixy HV.out y')
  clear y0 y1 y2 y3 y4 y5 j0 j1 j2 j3 j4 j5
  generalize World.setCell _ _ _ = Wa at HU ⊢
  obtain ⟨Wb, hWb⟩ : ∃ Wb, Wa = Wb := ⟨_, rfl⟩
  rw [hWb] at HU ⊢
  clear hWb HV HW
  have HW := HU
  clear HU
  obtain ⟨a0, a1, a2, a3, a4, a5⟩ := num_cells HW.out.1.1.1
  obtain ⟨b0, b1, b2, b3, b4, b5⟩ := num_cells HW.out.1.1.2
  obtain ⟨r0, r1, r2, r3, r4, r5⟩ := num_cells HW.out.1.2.1.1
  obtain ⟨t0, t1, t2, t3, t4, t5⟩ := num_cells HW.out.1.2.1.2
  obtain ⟨k0, k1, k2, k3, k4, k5⟩ := num_free HW.out.1.2.1.1
  obtain ⟨l0, l1, l2, l3, l4, l5⟩ := num_free HW.out.1.2.1.2
  go_wp2_with fail
  go_region
  all_goals
    first
      | (have HF := Lib.hid (h4_told (HW.out.1) (a) (b)); generalize World.setCell _ _ _ = Wf at HF ⊢; obtain ⟨Wg, hWg⟩ : ∃ Wg, Wf = Wg := ⟨_, rfl⟩; rw [hWg] at HF ⊢; clear hWg; obtain ⟨z0, z1, z2, z3, z4, z5⟩ := num_cells HF.out.1; obtain ⟨e0, e1, e2, e3, e4, e5⟩ := num_cells HF.out.2.1; go_wp2_with fail; exact bodyPost_ret (v := .tuple #[numV (a), numV (b), .bool false]) (by unfold numV; simp [results, Try.results16, go_sem, z0, z1, z2, z3, z4, z5, e0, e1, e2, e3, e4, e5]) rfl ⟨rfl, HF.out.2.2.drew⟩)
      | (have HF := Lib.hid (h4_told2 (HW.out.1) (a) (b)); generalize World.setCell _ _ _ = Wf at HF ⊢; obtain ⟨Wg, hWg⟩ : ∃ Wg, Wf = Wg := ⟨_, rfl⟩; rw [hWg] at HF ⊢; clear hWg; obtain ⟨z0, z1, z2, z3, z4, z5⟩ := num_cells HF.out.1; obtain ⟨e0, e1, e2, e3, e4, e5⟩ := num_cells HF.out.2.1; go_wp2_with fail; exact bodyPost_ret (v := .tuple #[numV (a), numV (b), .bool false]) (by unfold numV; simp [results, Try.results16, go_sem, z0, z1, z2, z3, z4, z5, e0, e1, e2, e3, e4, e5]) rfl ⟨rfl, HF.out.2.2.drew⟩)
set_option maxRecDepth 100000 in
set_option maxHeartbeats 8000000 in
theorem hend_y (a b x y : K) (g h : Nat) (w W : World) (hx : HX w a b x y g h W) (hp : x.okF = true) (hq : y.okF = false) (next : Act → World → Prop) (hnext : ∀ a' w', (tl 4 (Try.f16.body.getD .skip)).wp Try.prog (bodyPost Try.prog Try.f16 fun e w' => e = .returned (.tuple #[numV a, numV b, .bool false]) ∧ Below w.heap.size w w') a' w' → next a' w') (u0 u1 u2 u3 u4 u5 u10 u13 u14 u15 u16 u17 u18 u19 u20 u21 u22 u23 u24 u25 u26 u27 u28 u29 u30 u31 u32 u33 u34 u35 u36 u37 u38 u39 u40 u41 u42 u43 u44 u45 u46 u47 u48 u49 u50 u51 u52 u53 u54 u55 u56 u57 u58 u59 u60 u61 u62 u63 u64 u65 u66 u67 u68 u69 u70 u71 u72 u73 u74 u75 u76 u77 u78 u79 u80 u81 u82 u83 u84 u85 u86 u87 u88 u89 u90 u91 u92 u93 u94 u95 u96 u97 u98 u99 u100 u101 u102 u103 u104 u105 u106 u107 u108 u109 u110 u111 u112 u113 u114 u115 u116 u117 u118 u119 u120 u121 u122 u123 u124 u125 u126 u127 u128 u129 u130 u131 u132 u133 u134 u135 u136 u137 u138 u139 u140 u141 u142 u143 u144 u145 u146 u147 u148 u149 u150 u151 u152 u153 u154 u155 u156 u157 u158 u159 u160 u161 u162 u163 u164 u165 u166 u167 u168 u169 u170 u171 u172 u173 u174 u175 u176 u177 u178 u179 u180 u181 u182 u183 u184 u185 u186 u187 u188 u189 u190 u191 u192 u193 u194 u195 u196 u197 u198 u199 u200 u201 u202 u203 u204 u205 u206 u207 u208 u209 u210 u211 u212 u213 u214 u215 u216 u217 u218 u219 u220 u221 u222 u223 u224 u225 u226 u227 u228 u229 u230 u231 u232 u233 u234 u235 u236 u237 u238 u239 u240 u241 u242 u243 u244 u245 u246 u247 u248 u249 u250 u251 u252 u253 u254 u255 u256 u257 u258 u259 u260 u261 u262 u263 u264 u265 u266 u267 u268 u269 u270 u271 u272 : Value) :
    (hdC (tl 3 (Try.f16.body.getD .skip))).wp Try.prog (Exit.then next (bodyPost Try.prog Try.f16 fun e w' => e = .returned (.tuple #[numV a, numV b, .bool false]) ∧ Below w.heap.size w w')) ⟨List.toArray (u0 :: u1 :: u2 :: u3 :: u4 :: u5 :: .pointer (some ⟨w.heap.size, 0, none⟩) :: .pointer (some ⟨w.heap.size + 1, 0, none⟩) :: .pointer (some ⟨w.heap.size + 1 + 1, 0, none⟩) :: .pointer (some ⟨w.heap.size + 1 + 1 + 1, 0, none⟩) :: u10 :: .pointer (some ⟨g, 0, none⟩) :: .pointer (some ⟨h, 0, none⟩) :: u13 :: u14 :: u15 :: u16 :: u17 :: u18 :: u19 :: u20 :: u21 :: u22 :: u23 :: u24 :: u25 :: u26 :: u27 :: u28 :: u29 :: u30 :: u31 :: u32 :: u33 :: u34 :: u35 :: u36 :: u37 :: u38 :: u39 :: u40 :: u41 :: u42 :: u43 :: u44 :: u45 :: u46 :: u47 :: u48 :: u49 :: u50 :: u51 :: u52 :: u53 :: u54 :: u55 :: u56 :: u57 :: u58 :: u59 :: u60 :: u61 :: u62 :: u63 :: u64 :: u65 :: u66 :: u67 :: u68 :: u69 :: u70 :: u71 :: u72 :: u73 :: u74 :: u75 :: u76 :: u77 :: u78 :: u79 :: u80 :: u81 :: u82 :: u83 :: u84 :: u85 :: u86 :: u87 :: u88 :: u89 :: u90 :: u91 :: u92 :: u93 :: u94 :: u95 :: u96 :: u97 :: u98 :: u99 :: u100 :: u101 :: u102 :: u103 :: u104 :: u105 :: u106 :: u107 :: u108 :: u109 :: u110 :: u111 :: u112 :: u113 :: u114 :: u115 :: u116 :: u117 :: u118 :: u119 :: u120 :: u121 :: u122 :: u123 :: u124 :: u125 :: u126 :: u127 :: u128 :: u129 :: u130 :: u131 :: u132 :: u133 :: u134 :: u135 :: u136 :: u137 :: u138 :: u139 :: u140 :: u141 :: u142 :: u143 :: u144 :: u145 :: u146 :: u147 :: u148 :: u149 :: u150 :: u151 :: u152 :: u153 :: u154 :: u155 :: u156 :: u157 :: u158 :: u159 :: u160 :: u161 :: u162 :: u163 :: u164 :: u165 :: u166 :: u167 :: u168 :: u169 :: u170 :: u171 :: u172 :: u173 :: u174 :: u175 :: u176 :: u177 :: u178 :: u179 :: u180 :: u181 :: u182 :: u183 :: u184 :: u185 :: u186 :: u187 :: u188 :: u189 :: u190 :: u191 :: u192 :: u193 :: u194 :: u195 :: u196 :: u197 :: u198 :: u199 :: u200 :: u201 :: u202 :: u203 :: u204 :: u205 :: u206 :: u207 :: u208 :: u209 :: u210 :: u211 :: u212 :: u213 :: u214 :: u215 :: u216 :: u217 :: u218 :: u219 :: u220 :: u221 :: u222 :: u223 :: u224 :: u225 :: u226 :: u227 :: u228 :: u229 :: u230 :: u231 :: u232 :: u233 :: u234 :: u235 :: u236 :: u237 :: u238 :: u239 :: u240 :: u241 :: u242 :: u243 :: u244 :: u245 :: u246 :: u247 :: u248 :: u249 :: u250 :: u251 :: u252 :: u253 :: u254 :: u255 :: u256 :: u257 :: u258 :: u259 :: u260 :: u261 :: u262 :: u263 :: u264 :: u265 :: u266 :: u267 :: u268 :: u269 :: u270 :: u271 :: u272 :: []), []⟩ W := by
  have hrx := fun W => reffine_num x W
  have hry := fun W => reffine_num y W
  rw [hp] at hrx
  rw [hq] at hry
  obtain ⟨x', hx'⟩ : ∃ x', x.fine = x' := ⟨_, rfl⟩
  obtain ⟨y', hy'⟩ : ∃ y', y.fine = y' := ⟨_, rfl⟩
  rw [hx'] at hrx
  rw [hy'] at hry
  clear hx' hy' hp hq
  have HW := Lib.hid hx
  clear hx
  unfold numV at *
  obtain ⟨rest, hrest⟩ : ∃ c, tl 4 (Try.f16.body.getD .skip) = c := ⟨_, rfl⟩
  rw [hrest] at hnext
  dsimp only [tl, Try.f16, Option.getD] at hrest
  subst hrest
  obtain ⟨code, hcode⟩ : ∃ c, hdC (tl 3 (Try.f16.body.getD .skip)) = c := ⟨_, rfl⟩
  rw [hcode]
  dsimp only [tl, hdC, Try.f16, Option.getD] at hcode
  subst hcode
  obtain ⟨x0, x1, x2, x3, x4, x5⟩ := num_cells HW.out.2.1
  go_upto_region 59 with (go_at_call 35; refine (hrx _).mono ?_; rintro e w1 ⟨rfl, hb⟩; have HV := Lib.hid (hx_keep HW.out hb); clear hb x0 x1 x2 x3 x4 x5; obtain ⟨x0, x1, x2, x3, x4, x5⟩ := num_cells HV.out.2.1; obtain ⟨i0, i1, i2, i3, i4, i5⟩ := num_free HV.out.2.1)
  have HU := Lib.hid (hx_sixx HV.out x')
  clear x0 x1 x2 x3 x4 x5 i0 i1 i2 i3 i4 i5
  generalize World.setCell _ _ _ = Wa at HU ⊢
  obtain ⟨Wb, hWb⟩ : ∃ Wb, Wa = Wb := ⟨_, rfl⟩
  rw [hWb] at HU ⊢
  clear hWb HV HW
  have HW := HU
  clear HU
  obtain ⟨y0, y1, y2, y3, y4, y5⟩ := num_cells HW.out.2.2.1
  go_upto_region 60 with (go_at_call 35; refine (hry _).mono ?_; rintro e w1 ⟨rfl, hb⟩; have HV := Lib.hid (hx_keep HW.out hb); clear hb y0 y1 y2 y3 y4 y5; obtain ⟨y0, y1, y2, y3, y4, y5⟩ := num_cells HV.out.2.2.1; obtain ⟨j0, j1, j2, j3, j4, j5⟩ := num_free HV.out.2.2.1)
  have HU := Lib.hid (hx_sixy HV.out y')
  clear y0 y1 y2 y3 y4 y5 j0 j1 j2 j3 j4 j5
  generalize World.setCell _ _ _ = Wa at HU ⊢
  obtain ⟨Wb, hWb⟩ : ∃ Wb, Wa = Wb := ⟨_, rfl⟩
  rw [hWb] at HU ⊢
  clear hWb HV HW
  have HW := HU
  clear HU
  obtain ⟨a0, a1, a2, a3, a4, a5⟩ := num_cells HW.out.1.1.1
  obtain ⟨b0, b1, b2, b3, b4, b5⟩ := num_cells HW.out.1.1.2
  obtain ⟨r0, r1, r2, r3, r4, r5⟩ := num_cells HW.out.1.2.1.1
  obtain ⟨t0, t1, t2, t3, t4, t5⟩ := num_cells HW.out.1.2.1.2
  obtain ⟨k0, k1, k2, k3, k4, k5⟩ := num_free HW.out.1.2.1.1
  obtain ⟨l0, l1, l2, l3, l4, l5⟩ := num_free HW.out.1.2.1.2
  go_wp2_with fail
  go_region
  all_goals
    first
      | (have HF := Lib.hid (h4_told (HW.out.1) (a) (b)); generalize World.setCell _ _ _ = Wf at HF ⊢; obtain ⟨Wg, hWg⟩ : ∃ Wg, Wf = Wg := ⟨_, rfl⟩; rw [hWg] at HF ⊢; clear hWg; obtain ⟨z0, z1, z2, z3, z4, z5⟩ := num_cells HF.out.1; obtain ⟨e0, e1, e2, e3, e4, e5⟩ := num_cells HF.out.2.1; go_wp2_with fail; exact bodyPost_ret (v := .tuple #[numV (a), numV (b), .bool false]) (by unfold numV; simp [results, Try.results16, go_sem, z0, z1, z2, z3, z4, z5, e0, e1, e2, e3, e4, e5]) rfl ⟨rfl, HF.out.2.2.drew⟩)
      | (have HF := Lib.hid (h4_told2 (HW.out.1) (a) (b)); generalize World.setCell _ _ _ = Wf at HF ⊢; obtain ⟨Wg, hWg⟩ : ∃ Wg, Wf = Wg := ⟨_, rfl⟩; rw [hWg] at HF ⊢; clear hWg; obtain ⟨z0, z1, z2, z3, z4, z5⟩ := num_cells HF.out.1; obtain ⟨e0, e1, e2, e3, e4, e5⟩ := num_cells HF.out.2.1; go_wp2_with fail; exact bodyPost_ret (v := .tuple #[numV (a), numV (b), .bool false]) (by unfold numV; simp [results, Try.results16, go_sem, z0, z1, z2, z3, z4, z5, e0, e1, e2, e3, e4, e5]) rfl ⟨rfl, HF.out.2.2.drew⟩)
end Go.Proofs.Ytbljijbmjccalaa

/-
  Proved here: what the document's holds of layer 9 tells of not below, and of above, with a sign or without. Conditions: none.
-/
namespace Go.Proofs.Ytbljijbmjccalaa
open Go.RowKit
attribute [local go_sem] u_and u_or u_xor u_andNot u_add u_sub s_conv u_conv max_u min_u max_s min_s u_inc u_less s_inc s_less s_inc64 s_less64
set_option linter.unusedSimpArgs false

set_option maxRecDepth 100000 in
theorem hold_end (a b x y : K) (g h : Nat) (w W : World) (hx : HX w a b x y g h W) (next : Act → World → Prop) (hnext : ∀ a' w', (tl 4 (Try.f16.body.getD .skip)).wp Try.prog (bodyPost Try.prog Try.f16 fun e w' => e = .returned (backV a b ⟨true, x, y⟩) ∧ Below w.heap.size w w') a' w' → next a' w') (u0 u1 u2 u3 u4 u5 u10 u13 u14 u15 u16 u17 u18 u19 u20 u21 u22 u23 u24 u25 u26 u27 u28 u29 u30 u31 u32 u33 u34 u35 u36 u37 u38 u39 u40 u41 u42 u43 u44 u45 u46 u47 u48 u49 u50 u51 u52 u53 u54 u55 u56 u57 u58 u59 u60 u61 u62 u63 u64 u65 u66 u67 u68 u69 u70 u71 u72 u73 u74 u75 u76 u77 u78 u79 u80 u81 u82 u83 u84 u85 u86 u87 u88 u89 u90 u91 u92 u93 u94 u95 u96 u97 u98 u99 u100 u101 u102 u103 u104 u105 u106 u107 u108 u109 u110 u111 u112 u113 u114 u115 u116 u117 u118 u119 u120 u121 u122 u123 u124 u125 u126 u127 u128 u129 u130 u131 u132 u133 u134 u135 u136 u137 u138 u139 u140 u141 u142 u143 u144 u145 u146 u147 u148 u149 u150 u151 u152 u153 u154 u155 u156 u157 u158 u159 u160 u161 u162 u163 u164 u165 u166 u167 u168 u169 u170 u171 u172 u173 u174 u175 u176 u177 u178 u179 u180 u181 u182 u183 u184 u185 u186 u187 u188 u189 u190 u191 u192 u193 u194 u195 u196 u197 u198 u199 u200 u201 u202 u203 u204 u205 u206 u207 u208 u209 u210 u211 u212 u213 u214 u215 u216 u217 u218 u219 u220 u221 u222 u223 u224 u225 u226 u227 u228 u229 u230 u231 u232 u233 u234 u235 u236 u237 u238 u239 u240 u241 u242 u243 u244 u245 u246 u247 u248 u249 u250 u251 u252 u253 u254 u255 u256 u257 u258 u259 u260 u261 u262 u263 u264 u265 u266 u267 u268 u269 u270 u271 u272 : Value) :
    (hdC (tl 3 (Try.f16.body.getD .skip))).wp Try.prog (Exit.then next (bodyPost Try.prog Try.f16 fun e w' => e = .returned (backV a b ⟨true, x, y⟩) ∧ Below w.heap.size w w')) ⟨List.toArray (u0 :: u1 :: u2 :: u3 :: u4 :: u5 :: .pointer (some ⟨w.heap.size, 0, none⟩) :: .pointer (some ⟨w.heap.size + 1, 0, none⟩) :: .pointer (some ⟨w.heap.size + 1 + 1, 0, none⟩) :: .pointer (some ⟨w.heap.size + 1 + 1 + 1, 0, none⟩) :: u10 :: .pointer (some ⟨g, 0, none⟩) :: .pointer (some ⟨h, 0, none⟩) :: u13 :: u14 :: u15 :: u16 :: u17 :: u18 :: u19 :: u20 :: u21 :: u22 :: u23 :: u24 :: u25 :: u26 :: u27 :: u28 :: u29 :: u30 :: u31 :: u32 :: u33 :: u34 :: u35 :: u36 :: u37 :: u38 :: u39 :: u40 :: u41 :: u42 :: u43 :: u44 :: u45 :: u46 :: u47 :: u48 :: u49 :: u50 :: u51 :: u52 :: u53 :: u54 :: u55 :: u56 :: u57 :: u58 :: u59 :: u60 :: u61 :: u62 :: u63 :: u64 :: u65 :: u66 :: u67 :: u68 :: u69 :: u70 :: u71 :: u72 :: u73 :: u74 :: u75 :: u76 :: u77 :: u78 :: u79 :: u80 :: u81 :: u82 :: u83 :: u84 :: u85 :: u86 :: u87 :: u88 :: u89 :: u90 :: u91 :: u92 :: u93 :: u94 :: u95 :: u96 :: u97 :: u98 :: u99 :: u100 :: u101 :: u102 :: u103 :: u104 :: u105 :: u106 :: u107 :: u108 :: u109 :: u110 :: u111 :: u112 :: u113 :: u114 :: u115 :: u116 :: u117 :: u118 :: u119 :: u120 :: u121 :: u122 :: u123 :: u124 :: u125 :: u126 :: u127 :: u128 :: u129 :: u130 :: u131 :: u132 :: u133 :: u134 :: u135 :: u136 :: u137 :: u138 :: u139 :: u140 :: u141 :: u142 :: u143 :: u144 :: u145 :: u146 :: u147 :: u148 :: u149 :: u150 :: u151 :: u152 :: u153 :: u154 :: u155 :: u156 :: u157 :: u158 :: u159 :: u160 :: u161 :: u162 :: u163 :: u164 :: u165 :: u166 :: u167 :: u168 :: u169 :: u170 :: u171 :: u172 :: u173 :: u174 :: u175 :: u176 :: u177 :: u178 :: u179 :: u180 :: u181 :: u182 :: u183 :: u184 :: u185 :: u186 :: u187 :: u188 :: u189 :: u190 :: u191 :: u192 :: u193 :: u194 :: u195 :: u196 :: u197 :: u198 :: u199 :: u200 :: u201 :: u202 :: u203 :: u204 :: u205 :: u206 :: u207 :: u208 :: u209 :: u210 :: u211 :: u212 :: u213 :: u214 :: u215 :: u216 :: u217 :: u218 :: u219 :: u220 :: u221 :: u222 :: u223 :: u224 :: u225 :: u226 :: u227 :: u228 :: u229 :: u230 :: u231 :: u232 :: u233 :: u234 :: u235 :: u236 :: u237 :: u238 :: u239 :: u240 :: u241 :: u242 :: u243 :: u244 :: u245 :: u246 :: u247 :: u248 :: u249 :: u250 :: u251 :: u252 :: u253 :: u254 :: u255 :: u256 :: u257 :: u258 :: u259 :: u260 :: u261 :: u262 :: u263 :: u264 :: u265 :: u266 :: u267 :: u268 :: u269 :: u270 :: u271 :: u272 :: []), []⟩ W := by
  obtain ⟨p, hp⟩ : ∃ p, x.okF = p := ⟨_, rfl⟩
  obtain ⟨q, hq⟩ : ∃ q, y.okF = q := ⟨_, rfl⟩
  cases p
  · have hv : backV a b ⟨true, x, y⟩ = .tuple #[numV a, numV b, .bool false] := by unfold backV Tw.good; rw [if_neg (by simp [hp])]
    rw [hv] at hnext ⊢
    exact hend_x a b x y g h w W hx q hp hq next hnext _ _ _ _ _ _ _ _ _ _ _ _ _ _ _ _ _ _ _ _ _ _ _ _ _ _ _ _ _ _ _ _ _ _ _ _ _ _ _ _ _ _ _ _ _ _ _ _ _ _ _ _ _ _ _ _ _ _ _ _ _ _ _ _ _ _ _ _ _ _ _ _ _ _ _ _ _ _ _ _ _ _ _ _ _ _ _ _ _ _ _ _ _ _ _ _ _ _ _ _ _ _ _ _ _ _ _ _ _ _ _ _ _ _ _ _ _ _ _ _ _ _ _ _ _ _ _ _ _ _ _ _ _ _ _ _ _ _ _ _ _ _ _ _ _ _ _ _ _ _ _ _ _ _ _ _ _ _ _ _ _ _ _ _ _ _ _ _ _ _ _ _ _ _ _ _ _ _ _ _ _ _ _ _ _ _ _ _ _ _ _ _ _ _ _ _ _ _ _ _ _ _ _ _ _ _ _ _ _ _ _ _ _ _ _ _ _ _ _ _ _ _ _ _ _ _ _ _ _ _ _ _ _ _ _ _ _ _ _ _ _ _ _ _ _ _ _ _ _ _ _ _ _ _ _ _ _ _ _ _ _ _ _ _ _ _ _
  · cases q
    · have hv : backV a b ⟨true, x, y⟩ = .tuple #[numV a, numV b, .bool false] := by unfold backV Tw.good; rw [if_neg (by simp [hq])]
      rw [hv] at hnext ⊢
      exact hend_y a b x y g h w W hx hp hq next hnext _ _ _ _ _ _ _ _ _ _ _ _ _ _ _ _ _ _ _ _ _ _ _ _ _ _ _ _ _ _ _ _ _ _ _ _ _ _ _ _ _ _ _ _ _ _ _ _ _ _ _ _ _ _ _ _ _ _ _ _ _ _ _ _ _ _ _ _ _ _ _ _ _ _ _ _ _ _ _ _ _ _ _ _ _ _ _ _ _ _ _ _ _ _ _ _ _ _ _ _ _ _ _ _ _ _ _ _ _ _ _ _ _ _ _ _ _ _ _ _ _ _ _ _ _ _ _ _ _ _ _ _ _ _ _ _ _ _ _ _ _ _ _ _ _ _ _ _ _ _ _ _ _ _ _ _ _ _ _ _ _ _ _ _ _ _ _ _ _ _ _ _ _ _ _ _ _ _ _ _ _ _ _ _ _ _ _ _ _ _ _ _ _ _ _ _ _ _ _ _ _ _ _ _ _ _ _ _ _ _ _ _ _ _ _ _ _ _ _ _ _ _ _ _ _ _ _ _ _ _ _ _ _ _ _ _ _ _ _ _ _ _ _ _ _ _ _ _ _ _ _ _ _ _ _ _ _ _ _ _ _ _ _ _ _ _ _
    · have hv : backV a b ⟨true, x, y⟩ = .tuple #[numV x.fine, numV y.fine, .bool true] := by unfold backV Tw.good; rw [if_pos (by simp [hp, hq])]
      rw [hv] at hnext ⊢
      exact hend_ok a b x y g h w W hx hp hq next hnext _ _ _ _ _ _ _ _ _ _ _ _ _ _ _ _ _ _ _ _ _ _ _ _ _ _ _ _ _ _ _ _ _ _ _ _ _ _ _ _ _ _ _ _ _ _ _ _ _ _ _ _ _ _ _ _ _ _ _ _ _ _ _ _ _ _ _ _ _ _ _ _ _ _ _ _ _ _ _ _ _ _ _ _ _ _ _ _ _ _ _ _ _ _ _ _ _ _ _ _ _ _ _ _ _ _ _ _ _ _ _ _ _ _ _ _ _ _ _ _ _ _ _ _ _ _ _ _ _ _ _ _ _ _ _ _ _ _ _ _ _ _ _ _ _ _ _ _ _ _ _ _ _ _ _ _ _ _ _ _ _ _ _ _ _ _ _ _ _ _ _ _ _ _ _ _ _ _ _ _ _ _ _ _ _ _ _ _ _ _ _ _ _ _ _ _ _ _ _ _ _ _ _ _ _ _ _ _ _ _ _ _ _ _ _ _ _ _ _ _ _ _ _ _ _ _ _ _ _ _ _ _ _ _ _ _ _ _ _ _ _ _ _ _ _ _ _ _ _ _ _ _ _ _ _ _ _ _ _ _ _ _ _ _ _ _ _
theorem wp_first {c c' : Code} (h : c = c') {P : Program} {Q : Exit → Act → World → Prop} {a : Act} {w : World} (H : c'.wp P Q a w) : c.wp P Q a w := h ▸ H
theorem s_add1 {x : B64} (h : s x < 9223372036854775807) : s (x + 1#64) = s x + 1 := by
  have := s_bd x
  rw [← s_inc, wrap_s]
  omega
theorem s_sub1 {x : B64} (h : -9223372036854775808 < s x) : s (x - 1#64) = s x - 1 := by
  have := s_bd x
  rw [← s_less, wrap_s]
  omega
set_option maxRecDepth 100000 in
set_option maxHeartbeats 8000000 in
theorem ho_level (x y : K) (w : World) : Calls Try.prog 16 #[.int .u8 48, .int .i64 0, numV x, numV y] w (Gives (backV x y (levelT x y)) w) := by
  refine hold_head 48 0 x y w _ ?_
  intro g h W hx
  intros
  have HW := Lib.hid hx
  clear hx
  unfold levelT
  obtain ⟨code, hcode⟩ : ∃ c, tl 2 (Try.f16.body.getD .skip) = c := ⟨_, rfl⟩
  rw [hcode]
  dsimp only [tl, Try.f16, Option.getD] at hcode
  subst hcode
  obtain ⟨a0, a1, a2, a3, a4, a5⟩ := num_cells HW.out.1.1.1
  obtain ⟨b0, b1, b2, b3, b4, b5⟩ := num_cells HW.out.1.1.2
  obtain ⟨x0, x1, x2, x3, x4, x5⟩ := num_cells HW.out.2.1
  obtain ⟨y0, y1, y2, y3, y4, y5⟩ := num_cells HW.out.2.2.1
  obtain ⟨i0, i1, i2, i3, i4, i5⟩ := num_free HW.out.2.1
  obtain ⟨j0, j1, j2, j3, j4, j5⟩ := num_free HW.out.2.2.1
  go_upto_if 191 with fail
  go_cut [] (fun wx => HX w x y (x.upA y.a) y g h wx)
  case first =>
    go_wp2_with fail
    all_goals
      go_meet
      first
        | (unfold K.upA; rw [max_yes (x := x.a) (y := y.a) (by assumption)]; exact hx_putx HW.out _ _ (num_a HW.out.2.1 _))
        | (unfold K.upA; rw [max_no (x := x.a) (y := y.a) (by assumption)]; exact HW.out)
        | (unfold K.upA; rw [max_no (x := x.a) (y := y.a) (by omega)]; exact HW.out)
  case rest =>
    have HV := Lib.hid hcut
    clear a0 a1 a2 a3 a4 a5 b0 b1 b2 b3 b4 b5 x0 x1 x2 x3 x4 x5 y0 y1 y2 y3 y4 y5 i0 i1 i2 i3 i4 i5 j0 j1 j2 j3 j4 j5
    clear hcut HW
    have HW := HV
    clear HV
    obtain ⟨a0, a1, a2, a3, a4, a5⟩ := num_cells HW.out.1.1.1
    obtain ⟨b0, b1, b2, b3, b4, b5⟩ := num_cells HW.out.1.1.2
    obtain ⟨x0, x1, x2, x3, x4, x5⟩ := num_cells HW.out.2.1
    obtain ⟨y0, y1, y2, y3, y4, y5⟩ := num_cells HW.out.2.2.1
    obtain ⟨i0, i1, i2, i3, i4, i5⟩ := num_free HW.out.2.1
    obtain ⟨j0, j1, j2, j3, j4, j5⟩ := num_free HW.out.2.2.1
    go_upto_region 58 with fail
    all_goals
      refine wp_first (c' := hdC (tl 3 (Try.f16.body.getD .skip))) (by kernel_rfl) ?_
      refine hold_end x y (x.upA y.a) (y.dnB x.b) g h w _ ?_ _ (by intro a' w' h'; apply_assumption; exact h') _ _ _ _ _ _ _ _ _ _ _ _ _ _ _ _ _ _ _ _ _ _ _ _ _ _ _ _ _ _ _ _ _ _ _ _ _ _ _ _ _ _ _ _ _ _ _ _ _ _ _ _ _ _ _ _ _ _ _ _ _ _ _ _ _ _ _ _ _ _ _ _ _ _ _ _ _ _ _ _ _ _ _ _ _ _ _ _ _ _ _ _ _ _ _ _ _ _ _ _ _ _ _ _ _ _ _ _ _ _ _ _ _ _ _ _ _ _ _ _ _ _ _ _ _ _ _ _ _ _ _ _ _ _ _ _ _ _ _ _ _ _ _ _ _ _ _ _ _ _ _ _ _ _ _ _ _ _ _ _ _ _ _ _ _ _ _ _ _ _ _ _ _ _ _ _ _ _ _ _ _ _ _ _ _ _ _ _ _ _ _ _ _ _ _ _ _ _ _ _ _ _ _ _ _ _ _ _ _ _ _ _ _ _ _ _ _ _ _ _ _ _ _ _ _ _ _ _ _ _ _ _ _ _ _ _ _ _ _ _ _ _ _ _ _ _ _ _ _ _ _ _ _ _ _ _ _ _ _ _ _ _ _ _ _ _ _
      first
        | (unfold K.dnB; rw [min_yes (x := y.b) (y := x.b) (by assumption)]; exact hx_puty HW.out _ _ (num_b HW.out.2.2.1 _))
        | (unfold K.dnB; rw [min_no (x := y.b) (y := x.b) (by assumption)]; exact HW.out)
        | (unfold K.dnB; rw [min_no (x := y.b) (y := x.b) (by omega)]; exact HW.out)
set_option maxRecDepth 100000 in
set_option maxHeartbeats 8000000 in
theorem ho_levelS (x y : K) (w : World) : Calls Try.prog 16 #[.int .u8 112, .int .i64 0, numV x, numV y] w (Gives (backV x y (levelST x y)) w) := by
  refine hold_head 112 0 x y w _ ?_
  intro g h W hx
  intros
  have HW := Lib.hid hx
  clear hx
  unfold levelST
  obtain ⟨code, hcode⟩ : ∃ c, tl 2 (Try.f16.body.getD .skip) = c := ⟨_, rfl⟩
  rw [hcode]
  dsimp only [tl, Try.f16, Option.getD] at hcode
  subst hcode
  obtain ⟨a0, a1, a2, a3, a4, a5⟩ := num_cells HW.out.1.1.1
  obtain ⟨b0, b1, b2, b3, b4, b5⟩ := num_cells HW.out.1.1.2
  obtain ⟨x0, x1, x2, x3, x4, x5⟩ := num_cells HW.out.2.1
  obtain ⟨y0, y1, y2, y3, y4, y5⟩ := num_cells HW.out.2.2.1
  obtain ⟨i0, i1, i2, i3, i4, i5⟩ := num_free HW.out.2.1
  obtain ⟨j0, j1, j2, j3, j4, j5⟩ := num_free HW.out.2.2.1
  go_upto_if 241 with fail
  go_cut [] (fun wx => HX w x y (x.upC y.c) y g h wx)
  case first =>
    go_wp2_with fail
    all_goals
      go_meet
      first
        | (unfold K.upC; rw [maxs_yes (x := x.c) (y := y.c) (by assumption)]; exact hx_putx HW.out _ _ (num_c HW.out.2.1 _))
        | (unfold K.upC; rw [maxs_no (x := x.c) (y := y.c) (by assumption)]; exact HW.out)
        | (unfold K.upC; rw [maxs_no (x := x.c) (y := y.c) (by omega)]; exact HW.out)
  case rest =>
    have HV := Lib.hid hcut
    clear a0 a1 a2 a3 a4 a5 b0 b1 b2 b3 b4 b5 x0 x1 x2 x3 x4 x5 y0 y1 y2 y3 y4 y5 i0 i1 i2 i3 i4 i5 j0 j1 j2 j3 j4 j5
    clear hcut HW
    have HW := HV
    clear HV
    obtain ⟨a0, a1, a2, a3, a4, a5⟩ := num_cells HW.out.1.1.1
    obtain ⟨b0, b1, b2, b3, b4, b5⟩ := num_cells HW.out.1.1.2
    obtain ⟨x0, x1, x2, x3, x4, x5⟩ := num_cells HW.out.2.1
    obtain ⟨y0, y1, y2, y3, y4, y5⟩ := num_cells HW.out.2.2.1
    obtain ⟨i0, i1, i2, i3, i4, i5⟩ := num_free HW.out.2.1
    obtain ⟨j0, j1, j2, j3, j4, j5⟩ := num_free HW.out.2.2.1
    go_upto_region 58 with fail
    all_goals
      refine wp_first (c' := hdC (tl 3 (Try.f16.body.getD .skip))) (by kernel_rfl) ?_
      refine hold_end x y (x.upC y.c) (y.dnD x.d) g h w _ ?_ _ (by intro a' w' h'; apply_assumption; exact h') _ _ _ _ _ _ _ _ _ _ _ _ _ _ _ _ _ _ _ _ _ _ _ _ _ _ _ _ _ _ _ _ _ _ _ _ _ _ _ _ _ _ _ _ _ _ _ _ _ _ _ _ _ _ _ _ _ _ _ _ _ _ _ _ _ _ _ _ _ _ _ _ _ _ _ _ _ _ _ _ _ _ _ _ _ _ _ _ _ _ _ _ _ _ _ _ _ _ _ _ _ _ _ _ _ _ _ _ _ _ _ _ _ _ _ _ _ _ _ _ _ _ _ _ _ _ _ _ _ _ _ _ _ _ _ _ _ _ _ _ _ _ _ _ _ _ _ _ _ _ _ _ _ _ _ _ _ _ _ _ _ _ _ _ _ _ _ _ _ _ _ _ _ _ _ _ _ _ _ _ _ _ _ _ _ _ _ _ _ _ _ _ _ _ _ _ _ _ _ _ _ _ _ _ _ _ _ _ _ _ _ _ _ _ _ _ _ _ _ _ _ _ _ _ _ _ _ _ _ _ _ _ _ _ _ _ _ _ _ _ _ _ _ _ _ _ _ _ _ _ _ _ _ _ _ _ _ _ _ _ _ _ _ _ _ _ _
      first
        | (unfold K.dnD; rw [mins_yes (x := y.d) (y := x.d) (by assumption)]; exact hx_puty HW.out _ _ (num_d HW.out.2.2.1 _))
        | (unfold K.dnD; rw [mins_no (x := y.d) (y := x.d) (by assumption)]; exact HW.out)
        | (unfold K.dnD; rw [mins_no (x := y.d) (y := x.d) (by omega)]; exact HW.out)
set_option maxRecDepth 100000 in
set_option maxHeartbeats 8000000 in
theorem ho_above (x y : K) (w : World) : Calls Try.prog 16 #[.int .u8 32, .int .i64 0, numV x, numV y] w (Gives (backV x y (aboveT x y)) w) := by
  refine hold_head 32 0 x y w _ ?_
  intro g h W hx
  intros
  have HW := Lib.hid hx
  clear hx
  unfold aboveT
  obtain ⟨p, hp⟩ : ∃ p, (u y.a == 18446744073709551615) = p := ⟨_, rfl⟩
  obtain ⟨q, hq⟩ : ∃ q, (u x.b == 0) = q := ⟨_, rfl⟩
  cases p
  case true =>
    rw [if_pos (.inl (by simpa using hp))]
    have hb : backV x y ⟨false, x, y⟩ = .tuple #[numV x, numV y, .bool false] := by
      unfold backV Tw.good
      rw [if_neg (by simp)]
    rw [hb]
    clear hb
    unfold numV
    obtain ⟨code, hcode⟩ : ∃ c, tl 2 (Try.f16.body.getD .skip) = c := ⟨_, rfl⟩
    rw [hcode]
    dsimp only [tl, Try.f16, Option.getD] at hcode
    subst hcode
    obtain ⟨a0, a1, a2, a3, a4, a5⟩ := num_cells HW.out.1.1.1
    obtain ⟨b0, b1, b2, b3, b4, b5⟩ := num_cells HW.out.1.1.2
    obtain ⟨r0, r1, r2, r3, r4, r5⟩ := num_cells HW.out.1.2.1.1
    obtain ⟨t0, t1, t2, t3, t4, t5⟩ := num_cells HW.out.1.2.1.2
    obtain ⟨k0, k1, k2, k3, k4, k5⟩ := num_free HW.out.1.2.1.1
    obtain ⟨l0, l1, l2, l3, l4, l5⟩ := num_free HW.out.1.2.1.2
    go_wp2_with fail
    go_region
    all_goals
      first
        | (have HF := Lib.hid (h4_told (HW.out.1) (x) (y)); generalize World.setCell _ _ _ = Wf at HF ⊢; obtain ⟨Wg, hWg⟩ : ∃ Wg, Wf = Wg := ⟨_, rfl⟩; rw [hWg] at HF ⊢; clear hWg; obtain ⟨z0, z1, z2, z3, z4, z5⟩ := num_cells HF.out.1; obtain ⟨e0, e1, e2, e3, e4, e5⟩ := num_cells HF.out.2.1; go_wp2_with fail; exact bodyPost_ret (v := .tuple #[numV (x), numV (y), .bool false]) (by unfold numV; simp [results, Try.results16, go_sem, z0, z1, z2, z3, z4, z5, e0, e1, e2, e3, e4, e5]) rfl ⟨rfl, HF.out.2.2.drew⟩)
        | (have HF := Lib.hid (h4_told2 (HW.out.1) (x) (y)); generalize World.setCell _ _ _ = Wf at HF ⊢; obtain ⟨Wg, hWg⟩ : ∃ Wg, Wf = Wg := ⟨_, rfl⟩; rw [hWg] at HF ⊢; clear hWg; obtain ⟨z0, z1, z2, z3, z4, z5⟩ := num_cells HF.out.1; obtain ⟨e0, e1, e2, e3, e4, e5⟩ := num_cells HF.out.2.1; go_wp2_with fail; exact bodyPost_ret (v := .tuple #[numV (x), numV (y), .bool false]) (by unfold numV; simp [results, Try.results16, go_sem, z0, z1, z2, z3, z4, z5, e0, e1, e2, e3, e4, e5]) rfl ⟨rfl, HF.out.2.2.drew⟩)
  case false =>
  cases q
  case true =>
    rw [if_pos (.inr (by simpa using hq))]
    have hb : backV x y ⟨false, x, y⟩ = .tuple #[numV x, numV y, .bool false] := by
      unfold backV Tw.good
      rw [if_neg (by simp)]
    rw [hb]
    clear hb
    unfold numV
    obtain ⟨code, hcode⟩ : ∃ c, tl 2 (Try.f16.body.getD .skip) = c := ⟨_, rfl⟩
    rw [hcode]
    dsimp only [tl, Try.f16, Option.getD] at hcode
    subst hcode
    obtain ⟨a0, a1, a2, a3, a4, a5⟩ := num_cells HW.out.1.1.1
    obtain ⟨b0, b1, b2, b3, b4, b5⟩ := num_cells HW.out.1.1.2
    obtain ⟨r0, r1, r2, r3, r4, r5⟩ := num_cells HW.out.1.2.1.1
    obtain ⟨t0, t1, t2, t3, t4, t5⟩ := num_cells HW.out.1.2.1.2
    obtain ⟨k0, k1, k2, k3, k4, k5⟩ := num_free HW.out.1.2.1.1
    obtain ⟨l0, l1, l2, l3, l4, l5⟩ := num_free HW.out.1.2.1.2
    go_wp2_with fail
    go_region
    all_goals
      first
        | (have HF := Lib.hid (h4_told (HW.out.1) (x) (y)); generalize World.setCell _ _ _ = Wf at HF ⊢; obtain ⟨Wg, hWg⟩ : ∃ Wg, Wf = Wg := ⟨_, rfl⟩; rw [hWg] at HF ⊢; clear hWg; obtain ⟨z0, z1, z2, z3, z4, z5⟩ := num_cells HF.out.1; obtain ⟨e0, e1, e2, e3, e4, e5⟩ := num_cells HF.out.2.1; go_wp2_with fail; exact bodyPost_ret (v := .tuple #[numV (x), numV (y), .bool false]) (by unfold numV; simp [results, Try.results16, go_sem, z0, z1, z2, z3, z4, z5, e0, e1, e2, e3, e4, e5]) rfl ⟨rfl, HF.out.2.2.drew⟩)
        | (have HF := Lib.hid (h4_told2 (HW.out.1) (x) (y)); generalize World.setCell _ _ _ = Wf at HF ⊢; obtain ⟨Wg, hWg⟩ : ∃ Wg, Wf = Wg := ⟨_, rfl⟩; rw [hWg] at HF ⊢; clear hWg; obtain ⟨z0, z1, z2, z3, z4, z5⟩ := num_cells HF.out.1; obtain ⟨e0, e1, e2, e3, e4, e5⟩ := num_cells HF.out.2.1; go_wp2_with fail; exact bodyPost_ret (v := .tuple #[numV (x), numV (y), .bool false]) (by unfold numV; simp [results, Try.results16, go_sem, z0, z1, z2, z3, z4, z5, e0, e1, e2, e3, e4, e5]) rfl ⟨rfl, HF.out.2.2.drew⟩)
  case false =>
  have hp' : ¬ u y.a = 18446744073709551615 := by simpa using hp
  have hq' : ¬ u x.b = 0 := by simpa using hq
  have bp := u_bd y.a
  have bq := u_bd x.b
  have E1 := u_add1 (x := y.a) (by omega)
  have E2 := u_sub1 (x := x.b) (by omega)
  rw [if_neg (by rintro (h | h) <;> omega)]
  clear bp bq hp' hq'
  have H1 := Lib.hid E1
  have H2 := Lib.hid E2
  clear E1 E2
  obtain ⟨code, hcode⟩ : ∃ c, tl 2 (Try.f16.body.getD .skip) = c := ⟨_, rfl⟩
  rw [hcode]
  dsimp only [tl, Try.f16, Option.getD] at hcode
  subst hcode
  obtain ⟨a0, a1, a2, a3, a4, a5⟩ := num_cells HW.out.1.1.1
  obtain ⟨b0, b1, b2, b3, b4, b5⟩ := num_cells HW.out.1.1.2
  obtain ⟨x0, x1, x2, x3, x4, x5⟩ := num_cells HW.out.2.1
  obtain ⟨y0, y1, y2, y3, y4, y5⟩ := num_cells HW.out.2.2.1
  obtain ⟨i0, i1, i2, i3, i4, i5⟩ := num_free HW.out.2.1
  obtain ⟨j0, j1, j2, j3, j4, j5⟩ := num_free HW.out.2.2.1
  go_upto_if 170 with fail
  clear hp hq
  go_cut [] (fun wx => HX w x y (x.upA (y.a + 1#64)) y g h wx)
  case first =>
    go_wp2_with fail
    all_goals
      go_meet
      first
        | (unfold K.upA; rw [max_yes (x := x.a) (y := y.a + 1#64) (by have := H1.out; omega)]; exact hx_putx HW.out _ _ (num_a HW.out.2.1 _))
        | (unfold K.upA; rw [max_no (x := x.a) (y := y.a + 1#64) (by have := H1.out; omega)]; exact HW.out)
  case rest =>
    have HV := Lib.hid hcut
    clear a0 a1 a2 a3 a4 a5 b0 b1 b2 b3 b4 b5 x0 x1 x2 x3 x4 x5 y0 y1 y2 y3 y4 y5 i0 i1 i2 i3 i4 i5 j0 j1 j2 j3 j4 j5
    clear hcut HW
    have HW := HV
    clear HV
    obtain ⟨a0, a1, a2, a3, a4, a5⟩ := num_cells HW.out.1.1.1
    obtain ⟨b0, b1, b2, b3, b4, b5⟩ := num_cells HW.out.1.1.2
    obtain ⟨x0, x1, x2, x3, x4, x5⟩ := num_cells HW.out.2.1
    obtain ⟨y0, y1, y2, y3, y4, y5⟩ := num_cells HW.out.2.2.1
    obtain ⟨i0, i1, i2, i3, i4, i5⟩ := num_free HW.out.2.1
    obtain ⟨j0, j1, j2, j3, j4, j5⟩ := num_free HW.out.2.2.1
    go_upto_region 58 with fail
    all_goals
      refine wp_first (c' := hdC (tl 3 (Try.f16.body.getD .skip))) (by kernel_rfl) ?_
      refine hold_end x y (x.upA (y.a + 1#64)) (y.dnB (x.b - 1#64)) g h w _ ?_ _ (by intro a' w' h'; apply_assumption; exact h') _ _ _ _ _ _ _ _ _ _ _ _ _ _ _ _ _ _ _ _ _ _ _ _ _ _ _ _ _ _ _ _ _ _ _ _ _ _ _ _ _ _ _ _ _ _ _ _ _ _ _ _ _ _ _ _ _ _ _ _ _ _ _ _ _ _ _ _ _ _ _ _ _ _ _ _ _ _ _ _ _ _ _ _ _ _ _ _ _ _ _ _ _ _ _ _ _ _ _ _ _ _ _ _ _ _ _ _ _ _ _ _ _ _ _ _ _ _ _ _ _ _ _ _ _ _ _ _ _ _ _ _ _ _ _ _ _ _ _ _ _ _ _ _ _ _ _ _ _ _ _ _ _ _ _ _ _ _ _ _ _ _ _ _ _ _ _ _ _ _ _ _ _ _ _ _ _ _ _ _ _ _ _ _ _ _ _ _ _ _ _ _ _ _ _ _ _ _ _ _ _ _ _ _ _ _ _ _ _ _ _ _ _ _ _ _ _ _ _ _ _ _ _ _ _ _ _ _ _ _ _ _ _ _ _ _ _ _ _ _ _ _ _ _ _ _ _ _ _ _ _ _ _ _ _ _ _ _ _ _ _ _ _ _ _ _ _
      first
        | (unfold K.dnB; rw [min_yes (x := y.b) (y := x.b - 1#64) (by have := H2.out; omega)]; exact hx_puty HW.out _ _ (num_b HW.out.2.2.1 _))
        | (unfold K.dnB; rw [min_no (x := y.b) (y := x.b - 1#64) (by have := H2.out; omega)]; exact HW.out)
set_option maxRecDepth 100000 in
set_option maxHeartbeats 8000000 in
theorem ho_aboveS (x y : K) (w : World) : Calls Try.prog 16 #[.int .u8 96, .int .i64 0, numV x, numV y] w (Gives (backV x y (aboveST x y)) w) := by
  refine hold_head 96 0 x y w _ ?_
  intro g h W hx
  intros
  have HW := Lib.hid hx
  clear hx
  unfold aboveST
  obtain ⟨p, hp⟩ : ∃ p, (s y.c == 9223372036854775807) = p := ⟨_, rfl⟩
  obtain ⟨q, hq⟩ : ∃ q, (s x.d == -9223372036854775808) = q := ⟨_, rfl⟩
  cases p
  case true =>
    rw [if_pos (.inl (by simpa using hp))]
    have hb : backV x y ⟨false, x, y⟩ = .tuple #[numV x, numV y, .bool false] := by
      unfold backV Tw.good
      rw [if_neg (by simp)]
    rw [hb]
    clear hb
    unfold numV
    obtain ⟨code, hcode⟩ : ∃ c, tl 2 (Try.f16.body.getD .skip) = c := ⟨_, rfl⟩
    rw [hcode]
    dsimp only [tl, Try.f16, Option.getD] at hcode
    subst hcode
    obtain ⟨a0, a1, a2, a3, a4, a5⟩ := num_cells HW.out.1.1.1
    obtain ⟨b0, b1, b2, b3, b4, b5⟩ := num_cells HW.out.1.1.2
    obtain ⟨r0, r1, r2, r3, r4, r5⟩ := num_cells HW.out.1.2.1.1
    obtain ⟨t0, t1, t2, t3, t4, t5⟩ := num_cells HW.out.1.2.1.2
    obtain ⟨k0, k1, k2, k3, k4, k5⟩ := num_free HW.out.1.2.1.1
    obtain ⟨l0, l1, l2, l3, l4, l5⟩ := num_free HW.out.1.2.1.2
    go_wp2_with fail
    go_region
    all_goals
      first
        | (have HF := Lib.hid (h4_told (HW.out.1) (x) (y)); generalize World.setCell _ _ _ = Wf at HF ⊢; obtain ⟨Wg, hWg⟩ : ∃ Wg, Wf = Wg := ⟨_, rfl⟩; rw [hWg] at HF ⊢; clear hWg; obtain ⟨z0, z1, z2, z3, z4, z5⟩ := num_cells HF.out.1; obtain ⟨e0, e1, e2, e3, e4, e5⟩ := num_cells HF.out.2.1; go_wp2_with fail; exact bodyPost_ret (v := .tuple #[numV (x), numV (y), .bool false]) (by unfold numV; simp [results, Try.results16, go_sem, z0, z1, z2, z3, z4, z5, e0, e1, e2, e3, e4, e5]) rfl ⟨rfl, HF.out.2.2.drew⟩)
        | (have HF := Lib.hid (h4_told2 (HW.out.1) (x) (y)); generalize World.setCell _ _ _ = Wf at HF ⊢; obtain ⟨Wg, hWg⟩ : ∃ Wg, Wf = Wg := ⟨_, rfl⟩; rw [hWg] at HF ⊢; clear hWg; obtain ⟨z0, z1, z2, z3, z4, z5⟩ := num_cells HF.out.1; obtain ⟨e0, e1, e2, e3, e4, e5⟩ := num_cells HF.out.2.1; go_wp2_with fail; exact bodyPost_ret (v := .tuple #[numV (x), numV (y), .bool false]) (by unfold numV; simp [results, Try.results16, go_sem, z0, z1, z2, z3, z4, z5, e0, e1, e2, e3, e4, e5]) rfl ⟨rfl, HF.out.2.2.drew⟩)
  case false =>
  cases q
  case true =>
    rw [if_pos (.inr (by simpa using hq))]
    have hb : backV x y ⟨false, x, y⟩ = .tuple #[numV x, numV y, .bool false] := by
      unfold backV Tw.good
      rw [if_neg (by simp)]
    rw [hb]
    clear hb
    unfold numV
    obtain ⟨code, hcode⟩ : ∃ c, tl 2 (Try.f16.body.getD .skip) = c := ⟨_, rfl⟩
    rw [hcode]
    dsimp only [tl, Try.f16, Option.getD] at hcode
    subst hcode
    obtain ⟨a0, a1, a2, a3, a4, a5⟩ := num_cells HW.out.1.1.1
    obtain ⟨b0, b1, b2, b3, b4, b5⟩ := num_cells HW.out.1.1.2
    obtain ⟨r0, r1, r2, r3, r4, r5⟩ := num_cells HW.out.1.2.1.1
    obtain ⟨t0, t1, t2, t3, t4, t5⟩ := num_cells HW.out.1.2.1.2
    obtain ⟨k0, k1, k2, k3, k4, k5⟩ := num_free HW.out.1.2.1.1
    obtain ⟨l0, l1, l2, l3, l4, l5⟩ := num_free HW.out.1.2.1.2
    go_wp2_with fail
    go_region
    all_goals
      first
        | (have HF := Lib.hid (h4_told (HW.out.1) (x) (y)); generalize World.setCell _ _ _ = Wf at HF ⊢; obtain ⟨Wg, hWg⟩ : ∃ Wg, Wf = Wg := ⟨_, rfl⟩; rw [hWg] at HF ⊢; clear hWg; obtain ⟨z0, z1, z2, z3, z4, z5⟩ := num_cells HF.out.1; obtain ⟨e0, e1, e2, e3, e4, e5⟩ := num_cells HF.out.2.1; go_wp2_with fail; exact bodyPost_ret (v := .tuple #[numV (x), numV (y), .bool false]) (by unfold numV; simp [results, Try.results16, go_sem, z0, z1, z2, z3, z4, z5, e0, e1, e2, e3, e4, e5]) rfl ⟨rfl, HF.out.2.2.drew⟩)
        | (have HF := Lib.hid (h4_told2 (HW.out.1) (x) (y)); generalize World.setCell _ _ _ = Wf at HF ⊢; obtain ⟨Wg, hWg⟩ : ∃ Wg, Wf = Wg := ⟨_, rfl⟩; rw [hWg] at HF ⊢; clear hWg; obtain ⟨z0, z1, z2, z3, z4, z5⟩ := num_cells HF.out.1; obtain ⟨e0, e1, e2, e3, e4, e5⟩ := num_cells HF.out.2.1; go_wp2_with fail; exact bodyPost_ret (v := .tuple #[numV (x), numV (y), .bool false]) (by unfold numV; simp [results, Try.results16, go_sem, z0, z1, z2, z3, z4, z5, e0, e1, e2, e3, e4, e5]) rfl ⟨rfl, HF.out.2.2.drew⟩)
  case false =>
  have hp' : ¬ s y.c = 9223372036854775807 := by simpa using hp
  have hq' : ¬ s x.d = -9223372036854775808 := by simpa using hq
  have bp := s_bd y.c
  have bq := s_bd x.d
  have E1 := s_add1 (x := y.c) (by omega)
  have E2 := s_sub1 (x := x.d) (by omega)
  rw [if_neg (by rintro (h | h) <;> omega)]
  clear bp bq hp' hq'
  have H1 := Lib.hid E1
  have H2 := Lib.hid E2
  clear E1 E2
  obtain ⟨code, hcode⟩ : ∃ c, tl 2 (Try.f16.body.getD .skip) = c := ⟨_, rfl⟩
  rw [hcode]
  dsimp only [tl, Try.f16, Option.getD] at hcode
  subst hcode
  obtain ⟨a0, a1, a2, a3, a4, a5⟩ := num_cells HW.out.1.1.1
  obtain ⟨b0, b1, b2, b3, b4, b5⟩ := num_cells HW.out.1.1.2
  obtain ⟨x0, x1, x2, x3, x4, x5⟩ := num_cells HW.out.2.1
  obtain ⟨y0, y1, y2, y3, y4, y5⟩ := num_cells HW.out.2.2.1
  obtain ⟨i0, i1, i2, i3, i4, i5⟩ := num_free HW.out.2.1
  obtain ⟨j0, j1, j2, j3, j4, j5⟩ := num_free HW.out.2.2.1
  go_upto_if 220 with fail
  clear hp hq
  go_cut [] (fun wx => HX w x y (x.upC (y.c + 1#64)) y g h wx)
  case first =>
    go_wp2_with fail
    all_goals
      go_meet
      first
        | (unfold K.upC; rw [maxs_yes (x := x.c) (y := y.c + 1#64) (by have := H1.out; omega)]; exact hx_putx HW.out _ _ (num_c HW.out.2.1 _))
        | (unfold K.upC; rw [maxs_no (x := x.c) (y := y.c + 1#64) (by have := H1.out; omega)]; exact HW.out)
  case rest =>
    have HV := Lib.hid hcut
    clear a0 a1 a2 a3 a4 a5 b0 b1 b2 b3 b4 b5 x0 x1 x2 x3 x4 x5 y0 y1 y2 y3 y4 y5 i0 i1 i2 i3 i4 i5 j0 j1 j2 j3 j4 j5
    clear hcut HW
    have HW := HV
    clear HV
    obtain ⟨a0, a1, a2, a3, a4, a5⟩ := num_cells HW.out.1.1.1
    obtain ⟨b0, b1, b2, b3, b4, b5⟩ := num_cells HW.out.1.1.2
    obtain ⟨x0, x1, x2, x3, x4, x5⟩ := num_cells HW.out.2.1
    obtain ⟨y0, y1, y2, y3, y4, y5⟩ := num_cells HW.out.2.2.1
    obtain ⟨i0, i1, i2, i3, i4, i5⟩ := num_free HW.out.2.1
    obtain ⟨j0, j1, j2, j3, j4, j5⟩ := num_free HW.out.2.2.1
    go_upto_region 58 with fail
    all_goals
      refine wp_first (c' := hdC (tl 3 (Try.f16.body.getD .skip))) (by kernel_rfl) ?_
      refine hold_end x y (x.upC (y.c + 1#64)) (y.dnD (x.d - 1#64)) g h w _ ?_ _ (by intro a' w' h'; apply_assumption; exact h') _ _ _ _ _ _ _ _ _ _ _ _ _ _ _ _ _ _ _ _ _ _ _ _ _ _ _ _ _ _ _ _ _ _ _ _ _ _ _ _ _ _ _ _ _ _ _ _ _ _ _ _ _ _ _ _ _ _ _ _ _ _ _ _ _ _ _ _ _ _ _ _ _ _ _ _ _ _ _ _ _ _ _ _ _ _ _ _ _ _ _ _ _ _ _ _ _ _ _ _ _ _ _ _ _ _ _ _ _ _ _ _ _ _ _ _ _ _ _ _ _ _ _ _ _ _ _ _ _ _ _ _ _ _ _ _ _ _ _ _ _ _ _ _ _ _ _ _ _ _ _ _ _ _ _ _ _ _ _ _ _ _ _ _ _ _ _ _ _ _ _ _ _ _ _ _ _ _ _ _ _ _ _ _ _ _ _ _ _ _ _ _ _ _ _ _ _ _ _ _ _ _ _ _ _ _ _ _ _ _ _ _ _ _ _ _ _ _ _ _ _ _ _ _ _ _ _ _ _ _ _ _ _ _ _ _ _ _ _ _ _ _ _ _ _ _ _ _ _ _ _ _ _ _ _ _ _ _ _ _ _ _ _ _ _ _ _
      first
        | (unfold K.dnD; rw [mins_yes (x := y.d) (y := x.d - 1#64) (by have := H2.out; omega)]; exact hx_puty HW.out _ _ (num_d HW.out.2.2.1 _))
        | (unfold K.dnD; rw [mins_no (x := y.d) (y := x.d - 1#64) (by have := H2.out; omega)]; exact HW.out)
end Go.Proofs.Ytbljijbmjccalaa
