/-
  Proved here: the memory of package narrow's methods on a pair (the boxes of the pair and of a result). Conditions: none.
-/
import Derived.Test.YtbljijbmjccalaaHWayBv
import Derived.Test.YtbljijbmjccalaaHNumJ
namespace Go.Proofs.Ytbljijbmjccalaa
open Go.RowKit

/-- What is known of both, as a value. -/
def pairC (x y : K) : Array Value := #[.int .u64 (u x.v), .int .u64 (u x.m), .int .u64 (u x.a), .int .u64 (u x.b), .int .i64 (s x.c), .int .i64 (s x.d), .int .u64 (u y.v), .int .u64 (u y.m), .int .u64 (u y.a), .int .u64 (u y.b), .int .i64 (s y.c), .int .i64 (s y.d)]
def pairV (x y : K) : Value := .agg (pairC x y)
def PairAt (g : Nat) (x y : K) (W : World) : Prop := W.heap[g]? = some (.cells (pairC x y) 38)
theorem pair_cells {g : Nat} {x y : K} {W : World} (h : PairAt g x y W) :
    (W.cell? ⟨g, 0, none⟩ = some (.int .u64 (u x.v)) ∧ W.cell? ⟨g, 1, none⟩ = some (.int .u64 (u x.m)) ∧ W.cell? ⟨g, 2, none⟩ = some (.int .u64 (u x.a)) ∧ W.cell? ⟨g, 3, none⟩ = some (.int .u64 (u x.b)) ∧ W.cell? ⟨g, 4, none⟩ = some (.int .i64 (s x.c)) ∧ W.cell? ⟨g, 5, none⟩ = some (.int .i64 (s x.d))) ∧
    (W.cell? ⟨g, 6, none⟩ = some (.int .u64 (u y.v)) ∧ W.cell? ⟨g, 7, none⟩ = some (.int .u64 (u y.m)) ∧ W.cell? ⟨g, 8, none⟩ = some (.int .u64 (u y.a)) ∧ W.cell? ⟨g, 9, none⟩ = some (.int .u64 (u y.b)) ∧ W.cell? ⟨g, 10, none⟩ = some (.int .i64 (s y.c)) ∧ W.cell? ⟨g, 11, none⟩ = some (.int .i64 (s y.d))) := by
  unfold PairAt pairC at h
  refine ⟨⟨?_, ?_, ?_, ?_, ?_, ?_⟩, ⟨?_, ?_, ?_, ?_, ?_, ?_⟩⟩ <;> simp [World.cell?, h]
theorem pair_free {g : Nat} {x y : K} {W : World} (h : PairAt g x y W) :
    (W.frozen? ⟨g, 0, none⟩ = false ∧ W.frozen? ⟨g, 1, none⟩ = false ∧ W.frozen? ⟨g, 2, none⟩ = false ∧ W.frozen? ⟨g, 3, none⟩ = false ∧ W.frozen? ⟨g, 4, none⟩ = false ∧ W.frozen? ⟨g, 5, none⟩ = false) ∧
    (W.frozen? ⟨g, 6, none⟩ = false ∧ W.frozen? ⟨g, 7, none⟩ = false ∧ W.frozen? ⟨g, 8, none⟩ = false ∧ W.frozen? ⟨g, 9, none⟩ = false ∧ W.frozen? ⟨g, 10, none⟩ = false ∧ W.frozen? ⟨g, 11, none⟩ = false) := by
  unfold PairAt pairC at h
  refine ⟨⟨?_, ?_, ?_, ?_, ?_, ?_⟩, ⟨?_, ?_, ?_, ?_, ?_, ?_⟩⟩ <;> simp [World.frozen?, h]
theorem pair_lt {g : Nat} {x y : K} {W : World} (h : PairAt g x y W) : g < W.heap.size := (Array.getElem?_eq_some_iff.1 h).1
theorem pair_keep {g : Nat} {x y : K} {W W' : World} (h : PairAt g x y W) (hb : Below W.heap.size W W') : PairAt g x y W' := (hb.block _ (pair_lt h)).trans h
theorem pair_new (x y : K) (w : World) : PairAt w.heap.size x y (w.alloc (.cells (pairC x y) 38)) := (MapKept.heap_alloc w _).1
theorem pair_xv {g : Nat} {x y : K} {W : World} (h : PairAt g x y W) (z : B64) : PairAt g ⟨z, x.m, x.a, x.b, x.c, x.d⟩ y (W.setCell ⟨g, 0, none⟩ (.int .u64 (u z))) := by
  unfold PairAt pairC at *
  simp [World.setCell, Array.getElem?_modify, h]
theorem pair_xm {g : Nat} {x y : K} {W : World} (h : PairAt g x y W) (z : B64) : PairAt g ⟨x.v, z, x.a, x.b, x.c, x.d⟩ y (W.setCell ⟨g, 1, none⟩ (.int .u64 (u z))) := by
  unfold PairAt pairC at *
  simp [World.setCell, Array.getElem?_modify, h]
theorem pair_xa {g : Nat} {x y : K} {W : World} (h : PairAt g x y W) (z : B64) : PairAt g ⟨x.v, x.m, z, x.b, x.c, x.d⟩ y (W.setCell ⟨g, 2, none⟩ (.int .u64 (u z))) := by
  unfold PairAt pairC at *
  simp [World.setCell, Array.getElem?_modify, h]
theorem pair_xb {g : Nat} {x y : K} {W : World} (h : PairAt g x y W) (z : B64) : PairAt g ⟨x.v, x.m, x.a, z, x.c, x.d⟩ y (W.setCell ⟨g, 3, none⟩ (.int .u64 (u z))) := by
  unfold PairAt pairC at *
  simp [World.setCell, Array.getElem?_modify, h]
theorem pair_xc {g : Nat} {x y : K} {W : World} (h : PairAt g x y W) (z : B64) : PairAt g ⟨x.v, x.m, x.a, x.b, z, x.d⟩ y (W.setCell ⟨g, 4, none⟩ (.int .i64 (s z))) := by
  unfold PairAt pairC at *
  simp [World.setCell, Array.getElem?_modify, h]
theorem pair_xd {g : Nat} {x y : K} {W : World} (h : PairAt g x y W) (z : B64) : PairAt g ⟨x.v, x.m, x.a, x.b, x.c, z⟩ y (W.setCell ⟨g, 5, none⟩ (.int .i64 (s z))) := by
  unfold PairAt pairC at *
  simp [World.setCell, Array.getElem?_modify, h]
theorem pair_yv {g : Nat} {x y : K} {W : World} (h : PairAt g x y W) (z : B64) : PairAt g x ⟨z, y.m, y.a, y.b, y.c, y.d⟩ (W.setCell ⟨g, 6, none⟩ (.int .u64 (u z))) := by
  unfold PairAt pairC at *
  simp [World.setCell, Array.getElem?_modify, h]
theorem pair_ym {g : Nat} {x y : K} {W : World} (h : PairAt g x y W) (z : B64) : PairAt g x ⟨y.v, z, y.a, y.b, y.c, y.d⟩ (W.setCell ⟨g, 7, none⟩ (.int .u64 (u z))) := by
  unfold PairAt pairC at *
  simp [World.setCell, Array.getElem?_modify, h]
theorem pair_ya {g : Nat} {x y : K} {W : World} (h : PairAt g x y W) (z : B64) : PairAt g x ⟨y.v, y.m, z, y.b, y.c, y.d⟩ (W.setCell ⟨g, 8, none⟩ (.int .u64 (u z))) := by
  unfold PairAt pairC at *
  simp [World.setCell, Array.getElem?_modify, h]
theorem pair_yb {g : Nat} {x y : K} {W : World} (h : PairAt g x y W) (z : B64) : PairAt g x ⟨y.v, y.m, y.a, z, y.c, y.d⟩ (W.setCell ⟨g, 9, none⟩ (.int .u64 (u z))) := by
  unfold PairAt pairC at *
  simp [World.setCell, Array.getElem?_modify, h]
theorem pair_yc {g : Nat} {x y : K} {W : World} (h : PairAt g x y W) (z : B64) : PairAt g x ⟨y.v, y.m, y.a, y.b, z, y.d⟩ (W.setCell ⟨g, 10, none⟩ (.int .i64 (s z))) := by
  unfold PairAt pairC at *
  simp [World.setCell, Array.getElem?_modify, h]
theorem pair_yd {g : Nat} {x y : K} {W : World} (h : PairAt g x y W) (z : B64) : PairAt g x ⟨y.v, y.m, y.a, y.b, y.c, z⟩ (W.setCell ⟨g, 11, none⟩ (.int .i64 (s z))) := by
  unfold PairAt pairC at *
  simp [World.setCell, Array.getElem?_modify, h]

/-- Both boxes of a method: the pair's, and what is returned. -/
def PB (w0 : World) (x y r q : K) (W : World) : Prop := PairAt w0.heap.size x y W ∧ PairAt (w0.heap.size + 1) r q W ∧ Below w0.heap.size w0 W
section
variable {w0 W W' : World} {x y r q : K}
theorem pb_keep (h : PB w0 x y r q W) (hb : Below W.heap.size W W') : PB w0 x y r q W' :=
  ⟨pair_keep h.1 hb, pair_keep h.2.1 hb, h.2.2.trans (hb.mono h.2.2.size)⟩
theorem pb_keep2 (h : PB w0 x y r q W) (hb : Below (w0.heap.size + 2) W W') : PB w0 x y r q W' :=
  ⟨(hb.block _ (by omega)).trans h.1, (hb.block _ (by omega)).trans h.2.1, h.2.2.trans (hb.mono (by omega))⟩
theorem pb_put {x' y' : K} (h : PB w0 x y r q W) (o : Nat) (z : Value) (hr : PairAt w0.heap.size x' y' (W.setCell ⟨w0.heap.size, o, none⟩ z)) : PB w0 x' y' r q (W.setCell ⟨w0.heap.size, o, none⟩ z) := by
  obtain ⟨h1, h2, h3⟩ := h
  refine ⟨hr, ?_, h3.setCell (Nat.le_refl _) z⟩
  unfold PairAt at h2 ⊢
  rw [← h2]
  simp [World.setCell, Array.getElem?_modify]
end
theorem pb_new (x y : K) (w : World) : PB w x y zeroK zeroK ((w.alloc (.cells (pairC x y) 38)).alloc (.cells #[.int .u64 0, .int .u64 0, .int .u64 0, .int .u64 0, .int .i64 0, .int .i64 0, .int .u64 0, .int .u64 0, .int .u64 0, .int .u64 0, .int .i64 0, .int .i64 0] 38)) := by
  have h1 := pair_new x y w
  obtain ⟨W1, hW1⟩ : ∃ W, w.alloc (.cells (pairC x y) 38) = W := ⟨_, rfl⟩
  have b1 : Below w.heap.size w W1 := by rw [← hW1]; exact below_box _ _
  have e1 : W1.heap.size = w.heap.size + 1 := by rw [← hW1]; simp
  rw [hW1] at h1 ⊢
  have h2 := pair_new zeroK zeroK W1
  have b2 := below_box W1 (.cells #[.int .u64 0, .int .u64 0, .int .u64 0, .int .u64 0, .int .i64 0, .int .i64 0, .int .u64 0, .int .u64 0, .int .u64 0, .int .u64 0, .int .i64 0, .int .i64 0] 38)
  rw [e1] at h2
  exact ⟨pair_keep h1 b2, h2, b1.trans (b2.mono (by omega))⟩
/-- What is returned is stored cell by cell. -/
theorem below_ret {w0 W : World} (h : Below w0.heap.size w0 W) (z0 z1 z2 z3 z4 z5 z6 z7 z8 z9 z10 z11 : Value) : Below w0.heap.size w0 ((((((((((((W.setCell ⟨w0.heap.size + 1, 0, none⟩ z0).setCell ⟨w0.heap.size + 1, 1, none⟩ z1).setCell ⟨w0.heap.size + 1, 2, none⟩ z2).setCell ⟨w0.heap.size + 1, 3, none⟩ z3).setCell ⟨w0.heap.size + 1, 4, none⟩ z4).setCell ⟨w0.heap.size + 1, 5, none⟩ z5).setCell ⟨w0.heap.size + 1, 6, none⟩ z6).setCell ⟨w0.heap.size + 1, 7, none⟩ z7).setCell ⟨w0.heap.size + 1, 8, none⟩ z8).setCell ⟨w0.heap.size + 1, 9, none⟩ z9).setCell ⟨w0.heap.size + 1, 10, none⟩ z10).setCell ⟨w0.heap.size + 1, 11, none⟩ z11) :=
  h.trans ((below_set (below_set (below_set (below_set (below_set (below_set (below_set (below_set (below_set (below_set (below_set (below_set (Below.refl (w0.heap.size + 1) W) _ _) _ _) _ _) _ _) _ _) _ _) _ _) _ _) _ _) _ _) _ _) _ _).mono (by omega))
end Go.Proofs.Ytbljijbmjccalaa

/-
  Proved here: the memory of methods on a pair where the box of what is returned is block g. Conditions: none.
-/
namespace Go.Proofs.Ytbljijbmjccalaa
open Go.RowKit

/-- The pair's box, and that of what is returned (block g). -/
def PG (w0 : World) (x y r q : K) (g : Nat) (W : World) : Prop := PairAt w0.heap.size x y W ∧ PairAt g r q W ∧ w0.heap.size < g ∧ Below w0.heap.size w0 W
theorem pair_ret {g : Nat} {a b : K} {W : World} (h : PairAt g a b W) (r q : K) : PairAt g r q ((((((((((((W.setCell ⟨g, 0, none⟩ (.int .u64 (u r.v))).setCell ⟨g, 1, none⟩ (.int .u64 (u r.m))).setCell ⟨g, 2, none⟩ (.int .u64 (u r.a))).setCell ⟨g, 3, none⟩ (.int .u64 (u r.b))).setCell ⟨g, 4, none⟩ (.int .i64 (s r.c))).setCell ⟨g, 5, none⟩ (.int .i64 (s r.d))).setCell ⟨g, 6, none⟩ (.int .u64 (u q.v))).setCell ⟨g, 7, none⟩ (.int .u64 (u q.m))).setCell ⟨g, 8, none⟩ (.int .u64 (u q.a))).setCell ⟨g, 9, none⟩ (.int .u64 (u q.b))).setCell ⟨g, 10, none⟩ (.int .i64 (s q.c))).setCell ⟨g, 11, none⟩ (.int .i64 (s q.d))) :=
  pair_yd (pair_yc (pair_yb (pair_ya (pair_ym (pair_yv (pair_xd (pair_xc (pair_xb (pair_xa (pair_xm (pair_xv h r.v) r.m) r.a) r.b) r.c) r.d) q.v) q.m) q.a) q.b) q.c) q.d
section
variable {w0 W W' : World} {x y r q : K} {g : Nat}
theorem pg_keep (h : PG w0 x y r q g W) (hb : Below W.heap.size W W') : PG w0 x y r q g W' :=
  ⟨pair_keep h.1 hb, pair_keep h.2.1 hb, h.2.2.1, h.2.2.2.trans (hb.mono h.2.2.2.size)⟩
theorem pg_alloc (h : PG w0 x y r q g W) (o : Obj) : PG w0 x y r q g (W.alloc o) := pg_keep h (below_box _ _)
theorem pg_drews (h : PG w0 x y r q g W) (n : Nat) : PG w0 x y r q g (W.drewN n) := ⟨h.1, h.2.1, h.2.2.1, below_drews h.2.2.2 n⟩
theorem pg_put {x' y' : K} (h : PG w0 x y r q g W) (o : Nat) (z : Value) (hr : PairAt w0.heap.size x' y' (W.setCell ⟨w0.heap.size, o, none⟩ z)) : PG w0 x' y' r q g (W.setCell ⟨w0.heap.size, o, none⟩ z) := by
  obtain ⟨h1, h2, h3, h4⟩ := h
  refine ⟨hr, ?_, h3, h4.setCell (Nat.le_refl _) z⟩
  unfold PairAt at h2 ⊢
  rw [← h2]
  simp [World.setCell, Array.getElem?_modify]
  intro e; omega
theorem pg_ret {a b : K} (h : PG w0 x y a b g W) (r q : K) : PG w0 x y r q g ((((((((((((W.setCell ⟨g, 0, none⟩ (.int .u64 (u r.v))).setCell ⟨g, 1, none⟩ (.int .u64 (u r.m))).setCell ⟨g, 2, none⟩ (.int .u64 (u r.a))).setCell ⟨g, 3, none⟩ (.int .u64 (u r.b))).setCell ⟨g, 4, none⟩ (.int .i64 (s r.c))).setCell ⟨g, 5, none⟩ (.int .i64 (s r.d))).setCell ⟨g, 6, none⟩ (.int .u64 (u q.v))).setCell ⟨g, 7, none⟩ (.int .u64 (u q.m))).setCell ⟨g, 8, none⟩ (.int .u64 (u q.a))).setCell ⟨g, 9, none⟩ (.int .u64 (u q.b))).setCell ⟨g, 10, none⟩ (.int .i64 (s q.c))).setCell ⟨g, 11, none⟩ (.int .i64 (s q.d))) := by
  obtain ⟨h1, h2, h3, h4⟩ := h
  have hb : Below g W ((((((((((((W.setCell ⟨g, 0, none⟩ (.int .u64 (u r.v))).setCell ⟨g, 1, none⟩ (.int .u64 (u r.m))).setCell ⟨g, 2, none⟩ (.int .u64 (u r.a))).setCell ⟨g, 3, none⟩ (.int .u64 (u r.b))).setCell ⟨g, 4, none⟩ (.int .i64 (s r.c))).setCell ⟨g, 5, none⟩ (.int .i64 (s r.d))).setCell ⟨g, 6, none⟩ (.int .u64 (u q.v))).setCell ⟨g, 7, none⟩ (.int .u64 (u q.m))).setCell ⟨g, 8, none⟩ (.int .u64 (u q.a))).setCell ⟨g, 9, none⟩ (.int .u64 (u q.b))).setCell ⟨g, 10, none⟩ (.int .i64 (s q.c))).setCell ⟨g, 11, none⟩ (.int .i64 (s q.d))) := below_set (below_set (below_set (below_set (below_set (below_set (below_set (below_set (below_set (below_set (below_set (below_set (Below.refl g W) _ _) _ _) _ _) _ _) _ _) _ _) _ _) _ _) _ _) _ _) _ _) _ _
  exact ⟨(hb.block _ h3).trans h1, pair_ret h2 r q, h3, h4.trans (hb.mono (by omega))⟩
end
theorem pg_of {w0 W : World} {x y r q : K} (h : PB w0 x y r q W) : PG w0 x y r q (w0.heap.size + 1) W := ⟨h.1, h.2.1, by omega, h.2.2⟩
theorem pg_new (x y : K) (t : Obj) (w : World) : PG w x y zeroK zeroK (w.heap.size + 1 + 1) (((w.alloc (.cells (pairC x y) 38)).alloc t).alloc (.cells #[.int .u64 0, .int .u64 0, .int .u64 0, .int .u64 0, .int .i64 0, .int .i64 0, .int .u64 0, .int .u64 0, .int .u64 0, .int .u64 0, .int .i64 0, .int .i64 0] 38)) := by
  have h1 := pair_new x y w
  obtain ⟨W1, hW1⟩ : ∃ W, w.alloc (.cells (pairC x y) 38) = W := ⟨_, rfl⟩
  have b1 : Below w.heap.size w W1 := by rw [← hW1]; exact below_box _ _
  have e1 : W1.heap.size = w.heap.size + 1 := by rw [← hW1]; simp
  rw [hW1] at h1 ⊢
  have bt := below_box W1 t
  have et : (W1.alloc t).heap.size = w.heap.size + 1 + 1 := by simp [e1]
  generalize W1.alloc t = W2 at bt et ⊢
  have h2 := pair_new zeroK zeroK W2
  have b2 := below_box W2 (.cells #[.int .u64 0, .int .u64 0, .int .u64 0, .int .u64 0, .int .i64 0, .int .i64 0, .int .u64 0, .int .u64 0, .int .u64 0, .int .u64 0, .int .i64 0, .int .i64 0] 38)
  rw [et] at h2
  exact ⟨pair_keep (pair_keep h1 bt) b2, h2, by omega, (b1.trans (bt.mono (by omega))).trans (b2.mono (by omega))⟩
end Go.Proofs.Ytbljijbmjccalaa
