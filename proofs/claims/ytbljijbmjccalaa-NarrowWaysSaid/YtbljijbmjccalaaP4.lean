/-
  Proved here: what turned of package narrow returns (a closure over a box of its own), and what that closure returns, given what the captured function returns. Conditions: none.
-/
import Derived.Test.YtbljijbmjccalaaP1
import Derived.MapKept
import Derived.Maps.Own
namespace Go.Proofs.Ytbljijbmjccalaa
open Go.RowKit
attribute [local go_sem] u_and u_or u_xor u_andNot u_add u_sub s_conv u_conv max_u min_u max_s min_s u_inc u_less s_inc s_less s_inc64 s_less64
set_option linter.unusedSimpArgs false


def fnV (f : Nat) : Value := .func (.func f) #[] #[]
/-- The closure that turned makes, over the box at block g. -/
def cloV (g : Nat) : Value := .func (.func 41) #[] #[.pointer (some ⟨g, 0, none⟩)]
theorem turned_call (f : Nat) (w : World) : Calls Try.prog 23 #[fnV f] w (Ret (cloV w.heap.size) (w.alloc (.cells #[fnV f] 40))) := by
  unfold Ret cloV fnV
  go_enter Try.func23, Try.ntmps23
  go_wp2
  go_ret
  exact ⟨rfl, rfl⟩
theorem pg_store {w0 W : World} {x y r q : K} {g : Nat} (h : PG w0 x y r q g W) (a b : K) : PG w0 a b r q g ((((((((((((W.setCell ⟨w0.heap.size, 0, none⟩ (.int .u64 (u a.v))).setCell ⟨w0.heap.size, 1, none⟩ (.int .u64 (u a.m))).setCell ⟨w0.heap.size, 2, none⟩ (.int .u64 (u a.a))).setCell ⟨w0.heap.size, 3, none⟩ (.int .u64 (u a.b))).setCell ⟨w0.heap.size, 4, none⟩ (.int .i64 (s a.c))).setCell ⟨w0.heap.size, 5, none⟩ (.int .i64 (s a.d))).setCell ⟨w0.heap.size, 6, none⟩ (.int .u64 (u b.v))).setCell ⟨w0.heap.size, 7, none⟩ (.int .u64 (u b.m))).setCell ⟨w0.heap.size, 8, none⟩ (.int .u64 (u b.a))).setCell ⟨w0.heap.size, 9, none⟩ (.int .u64 (u b.b))).setCell ⟨w0.heap.size, 10, none⟩ (.int .i64 (s b.c))).setCell ⟨w0.heap.size, 11, none⟩ (.int .i64 (s b.d))) := by
  obtain ⟨h1, h2, h3, h4⟩ := h
  refine ⟨pair_ret h1 a b, ?_, h3, below_set (below_set (below_set (below_set (below_set (below_set (below_set (below_set (below_set (below_set (below_set (below_set (h4) _ _) _ _) _ _) _ _) _ _) _ _) _ _) _ _) _ _) _ _) _ _) _ _⟩
  unfold PairAt at h2 ⊢
  rw [← h2]
  have hne : ∀ (W : World) (o : Nat) (v : Value), (W.setCell ⟨w0.heap.size, o, none⟩ v).heap[g]? = W.heap[g]? := fun W o v => Below.heap_setCell W _ v g (by simp; omega)
  simp only [hne]
set_option maxHeartbeats 4000000 in
theorem clo_22 (x y : K) (t : Tw) (A : Nat) (w : World) (hA : w.cell? ⟨A, 0, none⟩ = some (fnV 22)) (hl : A < w.heap.size)
    (hf : ∀ W, Calls Try.prog 22 #[pairV y x] W (Gives (.tuple #[pairV t.x t.y, .bool t.ok]) W)) :
    Calls Try.prog 41 #[pairV x y, .pointer (some ⟨A, 0, none⟩)] w (Gives (.tuple #[pairV t.y t.x, .bool t.ok]) w) := by
  unfold pairV pairC at hf
  have HP := Lib.hid (pb_new x y w)
  unfold Gives pairV pairC
  unfold pairC at HP
  obtain ⟨W0, hW0⟩ : ∃ W0, ((w.alloc (.cells #[.int .u64 (u x.v), .int .u64 (u x.m), .int .u64 (u x.a), .int .u64 (u x.b), .int .i64 (s x.c), .int .i64 (s x.d), .int .u64 (u y.v), .int .u64 (u y.m), .int .u64 (u y.a), .int .u64 (u y.b), .int .i64 (s y.c), .int .i64 (s y.d)] 38)).alloc (.cells #[.int .u64 0, .int .u64 0, .int .u64 0, .int .u64 0, .int .i64 0, .int .i64 0, .int .u64 0, .int .u64 0, .int .u64 0, .int .u64 0, .int .i64 0, .int .i64 0] 38)) = W0 := ⟨_, rfl⟩
  rw [hW0] at HP
  obtain ⟨⟨p0, p1, p2, p3, p4, p5⟩, ⟨q0, q1, q2, q3, q4, q5⟩⟩ := pair_cells HP.out.1
  obtain ⟨⟨f0, f1, f2, f3, f4, f5⟩, ⟨g0, g1, g2, g3, g4, g5⟩⟩ := pair_free HP.out.1
  obtain ⟨⟨r0, r1, r2, r3, r4, r5⟩, ⟨t0, t1, t2, t3, t4, t5⟩⟩ := pair_cells HP.out.2.1
  obtain ⟨⟨k0, k1, k2, k3, k4, k5⟩, ⟨l0, l1, l2, l3, l4, l5⟩⟩ := pair_free HP.out.2.1
  have hc : W0.cell? ⟨A, 0, none⟩ = some (fnV 22) := by rw [HP.out.2.2.cell hl]; exact hA
  unfold fnV at hc
  clear hA
  go_enter Try.func41, Try.ntmps41
  go_upto_region 2 with (go_at_call 22; refine (hf _).mono ?_; rintro e w1 ⟨rfl, hb⟩; have HQ := Lib.hid (pg_of (pb_keep HP.out hb)); clear hb; clear p0 p1 p2 p3 p4 p5 q0 q1 q2 q3 q4 q5 f0 f1 f2 f3 f4 f5 g0 g1 g2 g3 g4 g5 r0 r1 r2 r3 r4 r5 t0 t1 t2 t3 t4 t5 k0 k1 k2 k3 k4 k5 l0 l1 l2 l3 l4 l5; clear hc; obtain ⟨⟨p0, p1, p2, p3, p4, p5⟩, ⟨q0, q1, q2, q3, q4, q5⟩⟩ := pair_cells HQ.out.1; obtain ⟨⟨f0, f1, f2, f3, f4, f5⟩, ⟨g0, g1, g2, g3, g4, g5⟩⟩ := pair_free HQ.out.1; obtain ⟨⟨r0, r1, r2, r3, r4, r5⟩, ⟨t0, t1, t2, t3, t4, t5⟩⟩ := pair_cells HQ.out.2.1; obtain ⟨⟨k0, k1, k2, k3, k4, k5⟩, ⟨l0, l1, l2, l3, l4, l5⟩⟩ := pair_free HQ.out.2.1)
  clear hW0 HP
  have HP := Lib.hid (pg_store HQ.out t.x t.y)
  clear HQ
  clear p0 p1 p2 p3 p4 p5 q0 q1 q2 q3 q4 q5 f0 f1 f2 f3 f4 f5 g0 g1 g2 g3 g4 g5 r0 r1 r2 r3 r4 r5 t0 t1 t2 t3 t4 t5 k0 k1 k2 k3 k4 k5 l0 l1 l2 l3 l4 l5
  generalize World.setCell _ _ _ = W at HP ⊢
  obtain ⟨⟨p0, p1, p2, p3, p4, p5⟩, ⟨q0, q1, q2, q3, q4, q5⟩⟩ := pair_cells HP.out.1
  obtain ⟨⟨f0, f1, f2, f3, f4, f5⟩, ⟨g0, g1, g2, g3, g4, g5⟩⟩ := pair_free HP.out.1
  obtain ⟨⟨r0, r1, r2, r3, r4, r5⟩, ⟨t0, t1, t2, t3, t4, t5⟩⟩ := pair_cells HP.out.2.1
  obtain ⟨⟨k0, k1, k2, k3, k4, k5⟩, ⟨l0, l1, l2, l3, l4, l5⟩⟩ := pair_free HP.out.2.1
  go_wp2_with fail
  clear p0 p1 p2 p3 p4 p5 q0 q1 q2 q3 q4 q5 f0 f1 f2 f3 f4 f5 g0 g1 g2 g3 g4 g5 r0 r1 r2 r3 r4 r5 t0 t1 t2 t3 t4 t5 k0 k1 k2 k3 k4 k5 l0 l1 l2 l3 l4 l5
  have HF := Lib.hid (pg_ret HP.out t.y t.x)
  generalize World.setCell _ _ _ = Wf at HF ⊢
  obtain ⟨⟨r0, r1, r2, r3, r4, r5⟩, ⟨t0, t1, t2, t3, t4, t5⟩⟩ := pair_cells HF.out.2.1
  exact bodyPost_ret (v := .tuple #[pairV t.y t.x, .bool t.ok]) (by unfold pairV pairC; simp [results, Try.results41, go_sem, r0, r1, r2, r3, r4, r5, t0, t1, t2, t3, t4, t5]) rfl ⟨rfl, HF.out.2.2.2⟩
set_option maxHeartbeats 4000000 in
theorem clo_24 (x y : K) (t : Tw) (A : Nat) (w : World) (hA : w.cell? ⟨A, 0, none⟩ = some (fnV 24)) (hl : A < w.heap.size)
    (hf : ∀ W, Calls Try.prog 24 #[pairV y x] W (Gives (.tuple #[pairV t.x t.y, .bool t.ok]) W)) :
    Calls Try.prog 41 #[pairV x y, .pointer (some ⟨A, 0, none⟩)] w (Gives (.tuple #[pairV t.y t.x, .bool t.ok]) w) := by
  unfold pairV pairC at hf
  have HP := Lib.hid (pb_new x y w)
  unfold Gives pairV pairC
  unfold pairC at HP
  obtain ⟨W0, hW0⟩ : ∃ W0, ((w.alloc (.cells #[.int .u64 (u x.v), .int .u64 (u x.m), .int .u64 (u x.a), .int .u64 (u x.b), .int .i64 (s x.c), .int .i64 (s x.d), .int .u64 (u y.v), .int .u64 (u y.m), .int .u64 (u y.a), .int .u64 (u y.b), .int .i64 (s y.c), .int .i64 (s y.d)] 38)).alloc (.cells #[.int .u64 0, .int .u64 0, .int .u64 0, .int .u64 0, .int .i64 0, .int .i64 0, .int .u64 0, .int .u64 0, .int .u64 0, .int .u64 0, .int .i64 0, .int .i64 0] 38)) = W0 := ⟨_, rfl⟩
  rw [hW0] at HP
  obtain ⟨⟨p0, p1, p2, p3, p4, p5⟩, ⟨q0, q1, q2, q3, q4, q5⟩⟩ := pair_cells HP.out.1
  obtain ⟨⟨f0, f1, f2, f3, f4, f5⟩, ⟨g0, g1, g2, g3, g4, g5⟩⟩ := pair_free HP.out.1
  obtain ⟨⟨r0, r1, r2, r3, r4, r5⟩, ⟨t0, t1, t2, t3, t4, t5⟩⟩ := pair_cells HP.out.2.1
  obtain ⟨⟨k0, k1, k2, k3, k4, k5⟩, ⟨l0, l1, l2, l3, l4, l5⟩⟩ := pair_free HP.out.2.1
  have hc : W0.cell? ⟨A, 0, none⟩ = some (fnV 24) := by rw [HP.out.2.2.cell hl]; exact hA
  unfold fnV at hc
  clear hA
  go_enter Try.func41, Try.ntmps41
  go_upto_region 2 with (go_at_call 24; refine (hf _).mono ?_; rintro e w1 ⟨rfl, hb⟩; have HQ := Lib.hid (pg_of (pb_keep HP.out hb)); clear hb; clear p0 p1 p2 p3 p4 p5 q0 q1 q2 q3 q4 q5 f0 f1 f2 f3 f4 f5 g0 g1 g2 g3 g4 g5 r0 r1 r2 r3 r4 r5 t0 t1 t2 t3 t4 t5 k0 k1 k2 k3 k4 k5 l0 l1 l2 l3 l4 l5; clear hc; obtain ⟨⟨p0, p1, p2, p3, p4, p5⟩, ⟨q0, q1, q2, q3, q4, q5⟩⟩ := pair_cells HQ.out.1; obtain ⟨⟨f0, f1, f2, f3, f4, f5⟩, ⟨g0, g1, g2, g3, g4, g5⟩⟩ := pair_free HQ.out.1; obtain ⟨⟨r0, r1, r2, r3, r4, r5⟩, ⟨t0, t1, t2, t3, t4, t5⟩⟩ := pair_cells HQ.out.2.1; obtain ⟨⟨k0, k1, k2, k3, k4, k5⟩, ⟨l0, l1, l2, l3, l4, l5⟩⟩ := pair_free HQ.out.2.1)
  clear hW0 HP
  have HP := Lib.hid (pg_store HQ.out t.x t.y)
  clear HQ
  clear p0 p1 p2 p3 p4 p5 q0 q1 q2 q3 q4 q5 f0 f1 f2 f3 f4 f5 g0 g1 g2 g3 g4 g5 r0 r1 r2 r3 r4 r5 t0 t1 t2 t3 t4 t5 k0 k1 k2 k3 k4 k5 l0 l1 l2 l3 l4 l5
  generalize World.setCell _ _ _ = W at HP ⊢
  obtain ⟨⟨p0, p1, p2, p3, p4, p5⟩, ⟨q0, q1, q2, q3, q4, q5⟩⟩ := pair_cells HP.out.1
  obtain ⟨⟨f0, f1, f2, f3, f4, f5⟩, ⟨g0, g1, g2, g3, g4, g5⟩⟩ := pair_free HP.out.1
  obtain ⟨⟨r0, r1, r2, r3, r4, r5⟩, ⟨t0, t1, t2, t3, t4, t5⟩⟩ := pair_cells HP.out.2.1
  obtain ⟨⟨k0, k1, k2, k3, k4, k5⟩, ⟨l0, l1, l2, l3, l4, l5⟩⟩ := pair_free HP.out.2.1
  go_wp2_with fail
  clear p0 p1 p2 p3 p4 p5 q0 q1 q2 q3 q4 q5 f0 f1 f2 f3 f4 f5 g0 g1 g2 g3 g4 g5 r0 r1 r2 r3 r4 r5 t0 t1 t2 t3 t4 t5 k0 k1 k2 k3 k4 k5 l0 l1 l2 l3 l4 l5
  have HF := Lib.hid (pg_ret HP.out t.y t.x)
  generalize World.setCell _ _ _ = Wf at HF ⊢
  obtain ⟨⟨r0, r1, r2, r3, r4, r5⟩, ⟨t0, t1, t2, t3, t4, t5⟩⟩ := pair_cells HF.out.2.1
  exact bodyPost_ret (v := .tuple #[pairV t.y t.x, .bool t.ok]) (by unfold pairV pairC; simp [results, Try.results41, go_sem, r0, r1, r2, r3, r4, r5, t0, t1, t2, t3, t4, t5]) rfl ⟨rfl, HF.out.2.2.2⟩
set_option maxHeartbeats 4000000 in
theorem clo_25 (x y : K) (t : Tw) (A : Nat) (w : World) (hA : w.cell? ⟨A, 0, none⟩ = some (fnV 25)) (hl : A < w.heap.size)
    (hf : ∀ W, Calls Try.prog 25 #[pairV y x] W (Gives (.tuple #[pairV t.x t.y, .bool t.ok]) W)) :
    Calls Try.prog 41 #[pairV x y, .pointer (some ⟨A, 0, none⟩)] w (Gives (.tuple #[pairV t.y t.x, .bool t.ok]) w) := by
  unfold pairV pairC at hf
  have HP := Lib.hid (pb_new x y w)
  unfold Gives pairV pairC
  unfold pairC at HP
  obtain ⟨W0, hW0⟩ : ∃ W0, ((w.alloc (.cells #[.int .u64 (u x.v), .int .u64 (u x.m), .int .u64 (u x.a), .int .u64 (u x.b), .int .i64 (s x.c), .int .i64 (s x.d), .int .u64 (u y.v), .int .u64 (u y.m), .int .u64 (u y.a), .int .u64 (u y.b), .int .i64 (s y.c), .int .i64 (s y.d)] 38)).alloc (.cells #[.int .u64 0, .int .u64 0, .int .u64 0, .int .u64 0, .int .i64 0, .int .i64 0, .int .u64 0, .int .u64 0, .int .u64 0, .int .u64 0, .int .i64 0, .int .i64 0] 38)) = W0 := ⟨_, rfl⟩
  rw [hW0] at HP
  obtain ⟨⟨p0, p1, p2, p3, p4, p5⟩, ⟨q0, q1, q2, q3, q4, q5⟩⟩ := pair_cells HP.out.1
  obtain ⟨⟨f0, f1, f2, f3, f4, f5⟩, ⟨g0, g1, g2, g3, g4, g5⟩⟩ := pair_free HP.out.1
  obtain ⟨⟨r0, r1, r2, r3, r4, r5⟩, ⟨t0, t1, t2, t3, t4, t5⟩⟩ := pair_cells HP.out.2.1
  obtain ⟨⟨k0, k1, k2, k3, k4, k5⟩, ⟨l0, l1, l2, l3, l4, l5⟩⟩ := pair_free HP.out.2.1
  have hc : W0.cell? ⟨A, 0, none⟩ = some (fnV 25) := by rw [HP.out.2.2.cell hl]; exact hA
  unfold fnV at hc
  clear hA
  go_enter Try.func41, Try.ntmps41
  go_upto_region 2 with (go_at_call 25; refine (hf _).mono ?_; rintro e w1 ⟨rfl, hb⟩; have HQ := Lib.hid (pg_of (pb_keep HP.out hb)); clear hb; clear p0 p1 p2 p3 p4 p5 q0 q1 q2 q3 q4 q5 f0 f1 f2 f3 f4 f5 g0 g1 g2 g3 g4 g5 r0 r1 r2 r3 r4 r5 t0 t1 t2 t3 t4 t5 k0 k1 k2 k3 k4 k5 l0 l1 l2 l3 l4 l5; clear hc; obtain ⟨⟨p0, p1, p2, p3, p4, p5⟩, ⟨q0, q1, q2, q3, q4, q5⟩⟩ := pair_cells HQ.out.1; obtain ⟨⟨f0, f1, f2, f3, f4, f5⟩, ⟨g0, g1, g2, g3, g4, g5⟩⟩ := pair_free HQ.out.1; obtain ⟨⟨r0, r1, r2, r3, r4, r5⟩, ⟨t0, t1, t2, t3, t4, t5⟩⟩ := pair_cells HQ.out.2.1; obtain ⟨⟨k0, k1, k2, k3, k4, k5⟩, ⟨l0, l1, l2, l3, l4, l5⟩⟩ := pair_free HQ.out.2.1)
  clear hW0 HP
  have HP := Lib.hid (pg_store HQ.out t.x t.y)
  clear HQ
  clear p0 p1 p2 p3 p4 p5 q0 q1 q2 q3 q4 q5 f0 f1 f2 f3 f4 f5 g0 g1 g2 g3 g4 g5 r0 r1 r2 r3 r4 r5 t0 t1 t2 t3 t4 t5 k0 k1 k2 k3 k4 k5 l0 l1 l2 l3 l4 l5
  generalize World.setCell _ _ _ = W at HP ⊢
  obtain ⟨⟨p0, p1, p2, p3, p4, p5⟩, ⟨q0, q1, q2, q3, q4, q5⟩⟩ := pair_cells HP.out.1
  obtain ⟨⟨f0, f1, f2, f3, f4, f5⟩, ⟨g0, g1, g2, g3, g4, g5⟩⟩ := pair_free HP.out.1
  obtain ⟨⟨r0, r1, r2, r3, r4, r5⟩, ⟨t0, t1, t2, t3, t4, t5⟩⟩ := pair_cells HP.out.2.1
  obtain ⟨⟨k0, k1, k2, k3, k4, k5⟩, ⟨l0, l1, l2, l3, l4, l5⟩⟩ := pair_free HP.out.2.1
  go_wp2_with fail
  clear p0 p1 p2 p3 p4 p5 q0 q1 q2 q3 q4 q5 f0 f1 f2 f3 f4 f5 g0 g1 g2 g3 g4 g5 r0 r1 r2 r3 r4 r5 t0 t1 t2 t3 t4 t5 k0 k1 k2 k3 k4 k5 l0 l1 l2 l3 l4 l5
  have HF := Lib.hid (pg_ret HP.out t.y t.x)
  generalize World.setCell _ _ _ = Wf at HF ⊢
  obtain ⟨⟨r0, r1, r2, r3, r4, r5⟩, ⟨t0, t1, t2, t3, t4, t5⟩⟩ := pair_cells HF.out.2.1
  exact bodyPost_ret (v := .tuple #[pairV t.y t.x, .bool t.ok]) (by unfold pairV pairC; simp [results, Try.results41, go_sem, r0, r1, r2, r3, r4, r5, t0, t1, t2, t3, t4, t5]) rfl ⟨rfl, HF.out.2.2.2⟩
set_option maxHeartbeats 4000000 in
theorem clo_26 (x y : K) (t : Tw) (A : Nat) (w : World) (hA : w.cell? ⟨A, 0, none⟩ = some (fnV 26)) (hl : A < w.heap.size)
    (hf : ∀ W, Calls Try.prog 26 #[pairV y x] W (Gives (.tuple #[pairV t.x t.y, .bool t.ok]) W)) :
    Calls Try.prog 41 #[pairV x y, .pointer (some ⟨A, 0, none⟩)] w (Gives (.tuple #[pairV t.y t.x, .bool t.ok]) w) := by
  unfold pairV pairC at hf
  have HP := Lib.hid (pb_new x y w)
  unfold Gives pairV pairC
  unfold pairC at HP
  obtain ⟨W0, hW0⟩ : ∃ W0, ((w.alloc (.cells #[.int .u64 (u x.v), .int .u64 (u x.m), .int .u64 (u x.a), .int .u64 (u x.b), .int .i64 (s x.c), .int .i64 (s x.d), .int .u64 (u y.v), .int .u64 (u y.m), .int .u64 (u y.a), .int .u64 (u y.b), .int .i64 (s y.c), .int .i64 (s y.d)] 38)).alloc (.cells #[.int .u64 0, .int .u64 0, .int .u64 0, .int .u64 0, .int .i64 0, .int .i64 0, .int .u64 0, .int .u64 0, .int .u64 0, .int .u64 0, .int .i64 0, .int .i64 0] 38)) = W0 := ⟨_, rfl⟩
  rw [hW0] at HP
  obtain ⟨⟨p0, p1, p2, p3, p4, p5⟩, ⟨q0, q1, q2, q3, q4, q5⟩⟩ := pair_cells HP.out.1
  obtain ⟨⟨f0, f1, f2, f3, f4, f5⟩, ⟨g0, g1, g2, g3, g4, g5⟩⟩ := pair_free HP.out.1
  obtain ⟨⟨r0, r1, r2, r3, r4, r5⟩, ⟨t0, t1, t2, t3, t4, t5⟩⟩ := pair_cells HP.out.2.1
  obtain ⟨⟨k0, k1, k2, k3, k4, k5⟩, ⟨l0, l1, l2, l3, l4, l5⟩⟩ := pair_free HP.out.2.1
  have hc : W0.cell? ⟨A, 0, none⟩ = some (fnV 26) := by rw [HP.out.2.2.cell hl]; exact hA
  unfold fnV at hc
  clear hA
  go_enter Try.func41, Try.ntmps41
  go_upto_region 2 with (go_at_call 26; refine (hf _).mono ?_; rintro e w1 ⟨rfl, hb⟩; have HQ := Lib.hid (pg_of (pb_keep HP.out hb)); clear hb; clear p0 p1 p2 p3 p4 p5 q0 q1 q2 q3 q4 q5 f0 f1 f2 f3 f4 f5 g0 g1 g2 g3 g4 g5 r0 r1 r2 r3 r4 r5 t0 t1 t2 t3 t4 t5 k0 k1 k2 k3 k4 k5 l0 l1 l2 l3 l4 l5; clear hc; obtain ⟨⟨p0, p1, p2, p3, p4, p5⟩, ⟨q0, q1, q2, q3, q4, q5⟩⟩ := pair_cells HQ.out.1; obtain ⟨⟨f0, f1, f2, f3, f4, f5⟩, ⟨g0, g1, g2, g3, g4, g5⟩⟩ := pair_free HQ.out.1; obtain ⟨⟨r0, r1, r2, r3, r4, r5⟩, ⟨t0, t1, t2, t3, t4, t5⟩⟩ := pair_cells HQ.out.2.1; obtain ⟨⟨k0, k1, k2, k3, k4, k5⟩, ⟨l0, l1, l2, l3, l4, l5⟩⟩ := pair_free HQ.out.2.1)
  clear hW0 HP
  have HP := Lib.hid (pg_store HQ.out t.x t.y)
  clear HQ
  clear p0 p1 p2 p3 p4 p5 q0 q1 q2 q3 q4 q5 f0 f1 f2 f3 f4 f5 g0 g1 g2 g3 g4 g5 r0 r1 r2 r3 r4 r5 t0 t1 t2 t3 t4 t5 k0 k1 k2 k3 k4 k5 l0 l1 l2 l3 l4 l5
  generalize World.setCell _ _ _ = W at HP ⊢
  obtain ⟨⟨p0, p1, p2, p3, p4, p5⟩, ⟨q0, q1, q2, q3, q4, q5⟩⟩ := pair_cells HP.out.1
  obtain ⟨⟨f0, f1, f2, f3, f4, f5⟩, ⟨g0, g1, g2, g3, g4, g5⟩⟩ := pair_free HP.out.1
  obtain ⟨⟨r0, r1, r2, r3, r4, r5⟩, ⟨t0, t1, t2, t3, t4, t5⟩⟩ := pair_cells HP.out.2.1
  obtain ⟨⟨k0, k1, k2, k3, k4, k5⟩, ⟨l0, l1, l2, l3, l4, l5⟩⟩ := pair_free HP.out.2.1
  go_wp2_with fail
  clear p0 p1 p2 p3 p4 p5 q0 q1 q2 q3 q4 q5 f0 f1 f2 f3 f4 f5 g0 g1 g2 g3 g4 g5 r0 r1 r2 r3 r4 r5 t0 t1 t2 t3 t4 t5 k0 k1 k2 k3 k4 k5 l0 l1 l2 l3 l4 l5
  have HF := Lib.hid (pg_ret HP.out t.y t.x)
  generalize World.setCell _ _ _ = Wf at HF ⊢
  obtain ⟨⟨r0, r1, r2, r3, r4, r5⟩, ⟨t0, t1, t2, t3, t4, t5⟩⟩ := pair_cells HF.out.2.1
  exact bodyPost_ret (v := .tuple #[pairV t.y t.x, .bool t.ok]) (by unfold pairV pairC; simp [results, Try.results41, go_sem, r0, r1, r2, r3, r4, r5, t0, t1, t2, t3, t4, t5]) rfl ⟨rfl, HF.out.2.2.2⟩
end Go.Proofs.Ytbljijbmjccalaa

/-
  Proved here: conditions of package narrow makes a new map with eleven entries, and boxes for its closures; what a look-up in it tells. Conditions: none.
-/
namespace Go.Proofs.Ytbljijbmjccalaa
open Go.RowKit Go.MapKept
attribute [local go_sem] u_and u_or u_xor u_andNot u_add u_sub s_conv u_conv max_u min_u max_s min_s u_inc u_less s_inc s_less s_inc64 s_less64
set_option linter.unusedSimpArgs false


/-- A condition's number, and its two ways, where the closures' boxes stand behind block B. -/
def conT (B : Nat) : List (Int × Value × Value) := [(16, fnV 20, fnV 21), (80, fnV 21, fnV 20), (32, fnV 22, cloV (B + 1)), (48, fnV 24, cloV (B + 2)), (160, cloV (B + 3), fnV 24), (176, cloV (B + 4), fnV 22), (96, fnV 25, cloV (B + 5)), (112, fnV 26, cloV (B + 6)), (192, cloV (B + 7), fnV 26), (208, cloV (B + 8), fnV 25), (64, fnV 27, fnV 28)]
/-- The first n entries. -/
def conEnts (B n : Nat) : Array MapEntry := (((conT B).take n).mapIdx fun i f => { key := .int .u8 f.1, val := .agg #[f.2.1, f.2.2], born := i }).toArray
def boxL : List Obj := [.cells #[fnV 24] 40, .cells #[fnV 22] 40, .cells #[fnV 22] 40, .cells #[fnV 24] 40, .cells #[fnV 26] 40, .cells #[fnV 25] 40, .cells #[fnV 25] 40, .cells #[fnV 26] 40]
def setW (B : Nat) (o : Obj) (W : World) : World := { W with heap := W.heap.setIfInBounds B o }
theorem setW_alloc (B : Nat) (o o' : Obj) (W : World) (h : B < W.heap.size) : setW B o (W.alloc o') = (setW B o W).alloc o' := by
  have e : (W.heap.push o').setIfInBounds B o = (W.heap.setIfInBounds B o).push o' := by
    apply Array.ext_getElem?
    intro i
    rw [Array.getElem?_setIfInBounds, Array.getElem?_push, Array.getElem?_push, Array.getElem?_setIfInBounds, Array.size_push, Array.size_setIfInBounds]
    by_cases hb : B = i
    · subst hb
      rw [if_pos rfl, if_pos (by omega), if_neg (by omega), if_pos rfl, if_pos h]
    · rw [if_neg hb, if_neg hb]
  show { W with heap := (W.heap.push o').setIfInBounds B o } = _
  rw [e]
  rfl
theorem setW_size (B : Nat) (o : Obj) (W : World) : (setW B o W).heap.size = W.heap.size := by simp [setW]
theorem setW_all (B : Nat) (o : Obj) : ∀ (l : List Obj) (W : World), B < W.heap.size → setW B o (l.foldl World.alloc W) = l.foldl World.alloc (setW B o W)
  | [], _, _ => rfl
  | a :: l, W, h => by
    have hs : B < (W.alloc a).heap.size := by simp; omega
    rw [List.foldl_cons, List.foldl_cons, setW_all B o l _ hs, setW_alloc B o a W h]
theorem setW_new (w : World) (o o' : Obj) : setW w.heap.size o' (w.alloc o) = w.alloc o' := by
  have e : (w.heap.push o).setIfInBounds w.heap.size o' = w.heap.push o' := by
    apply Array.ext_getElem?
    intro i
    rw [Array.getElem?_setIfInBounds, Array.getElem?_push, Array.getElem?_push, Array.size_push]
    by_cases h : w.heap.size = i
    · subst h; simp
    · rw [if_neg h, if_neg (Ne.symm h), if_neg (Ne.symm h)]
  show { w.alloc o with heap := (w.heap.push o).setIfInBounds w.heap.size o' } = w.alloc o'
  rw [e]
  rfl
/-- The world behind k entries and j boxes. -/
def conW (w : World) (k j : Nat) : World := (boxL.take j).foldl World.alloc (w.alloc (.map (conEnts w.heap.size k) k))
theorem all_below : ∀ (l : List Obj) (W : World), Below W.heap.size W (l.foldl World.alloc W)
  | [], W => Below.refl _ _
  | a :: l, W => by
    have h := all_below l (W.alloc a)
    have hb := below_box W a
    exact hb.trans (h.mono hb.size)
theorem conW_below (w : World) (k j : Nat) : Below w.heap.size w (conW w k j) := by
  have hb := below_box w (.map (conEnts w.heap.size k) k)
  exact hb.trans ((all_below (boxL.take j) _).mono hb.size)
theorem conW_map (w : World) (k j : Nat) : (conW w k j).heap[w.heap.size]? = some (.map (conEnts w.heap.size k) k) := by
  have h1 := (MapKept.heap_alloc w (.map (conEnts w.heap.size k) k)).1
  have h2 := all_below (boxL.take j) (w.alloc (.map (conEnts w.heap.size k) k))
  exact (h2.block _ (by simp)).trans h1
theorem con_put (w : World) (k j : Nat) (c : Int) (v : Value) (h1 : Instr.findNow (.int .u8) (.int .u8 c) (conEnts w.heap.size k).toList 0 = some none) (h2 : (conEnts w.heap.size k).push { key := .int .u8 c, val := v, born := k } = conEnts w.heap.size (k + 1)) :
    (Instr.mapUpdate 44 (.map (some w.heap.size)) (.int .u8 c) v).run Try.prog (conW w k j) = .ok () (conW w (k + 1) j) := by
  have hb := conW_map w k j
  have hk : IsKey (.int .u8) (.int .u8 c) := rfl
  have hd : Try.prog.underlying 5 = some (.int .u8) := Try.underlying5
  simp [Instr.mapUpdate, run_underlying Try.underlying44, MapKept.run_getObj_map hb, run_checkKey hd hk, run_findKey hd h1, run_setObj_map _ hb, Result.andThen]
  show setW w.heap.size _ (conW w k j) = conW w (k + 1) j
  unfold conW
  rw [setW_all _ _ _ _ (by simp), setW_new, h2]
theorem conW_call0 (w : World) (k : Nat) : (conW w k 0).alloc (.cells #[fnV 24] 40) = conW w k 1 := rfl
theorem conW_size0 (w : World) (k : Nat) : (conW w k 0).heap.size = w.heap.size + 1 := by simp [conW, boxL]
theorem conW_call1 (w : World) (k : Nat) : (conW w k 1).alloc (.cells #[fnV 22] 40) = conW w k 2 := rfl
theorem conW_size1 (w : World) (k : Nat) : (conW w k 1).heap.size = w.heap.size + 2 := by simp [conW, boxL]
theorem conW_call2 (w : World) (k : Nat) : (conW w k 2).alloc (.cells #[fnV 22] 40) = conW w k 3 := rfl
theorem conW_size2 (w : World) (k : Nat) : (conW w k 2).heap.size = w.heap.size + 3 := by simp [conW, boxL]
theorem conW_call3 (w : World) (k : Nat) : (conW w k 3).alloc (.cells #[fnV 24] 40) = conW w k 4 := rfl
theorem conW_size3 (w : World) (k : Nat) : (conW w k 3).heap.size = w.heap.size + 4 := by simp [conW, boxL]
theorem conW_call4 (w : World) (k : Nat) : (conW w k 4).alloc (.cells #[fnV 26] 40) = conW w k 5 := rfl
theorem conW_size4 (w : World) (k : Nat) : (conW w k 4).heap.size = w.heap.size + 5 := by simp [conW, boxL]
theorem conW_call5 (w : World) (k : Nat) : (conW w k 5).alloc (.cells #[fnV 25] 40) = conW w k 6 := rfl
theorem conW_size5 (w : World) (k : Nat) : (conW w k 5).heap.size = w.heap.size + 6 := by simp [conW, boxL]
theorem conW_call6 (w : World) (k : Nat) : (conW w k 6).alloc (.cells #[fnV 25] 40) = conW w k 7 := rfl
theorem conW_size6 (w : World) (k : Nat) : (conW w k 6).heap.size = w.heap.size + 7 := by simp [conW, boxL]
theorem conW_call7 (w : World) (k : Nat) : (conW w k 7).alloc (.cells #[fnV 26] 40) = conW w k 8 := rfl
theorem conW_size7 (w : World) (k : Nat) : (conW w k 7).heap.size = w.heap.size + 8 := by simp [conW, boxL]
theorem map_lit (w : World) : w.alloc (.map #[] 0) = conW w 0 0 := rfl
set_option maxHeartbeats 4000000 in
theorem conditions_call (w : World) : Calls Try.prog 12 #[] w (Ret (.map (some w.heap.size)) (conW w 11 8)) := by
  unfold Ret
  have e0 := map_lit w
  have hmm := @run_makeMap Try.prog
  have p0 := con_put w 0 0 16 (.agg #[fnV 20, fnV 21]) rfl rfl
  have p1 := con_put w 1 0 80 (.agg #[fnV 21, fnV 20]) rfl rfl
  have p2 := con_put w 2 1 32 (.agg #[fnV 22, cloV (w.heap.size + 1)]) rfl rfl
  have p3 := con_put w 3 2 48 (.agg #[fnV 24, cloV (w.heap.size + 2)]) rfl rfl
  have p4 := con_put w 4 3 160 (.agg #[cloV (w.heap.size + 3), fnV 24]) rfl rfl
  have p5 := con_put w 5 4 176 (.agg #[cloV (w.heap.size + 4), fnV 22]) rfl rfl
  have p6 := con_put w 6 5 96 (.agg #[fnV 25, cloV (w.heap.size + 5)]) rfl rfl
  have p7 := con_put w 7 6 112 (.agg #[fnV 26, cloV (w.heap.size + 6)]) rfl rfl
  have p8 := con_put w 8 7 192 (.agg #[cloV (w.heap.size + 7), fnV 26]) rfl rfl
  have p9 := con_put w 9 8 208 (.agg #[cloV (w.heap.size + 8), fnV 25]) rfl rfl
  have p10 := con_put w 10 8 64 (.agg #[fnV 27, fnV 28]) rfl rfl
  simp only [fnV, cloV, Nat.reduceAdd] at p0 p1 p2 p3 p4 p5 p6 p7 p8 p9 p10
  go_enter Try.func12, Try.ntmps12
  go_wp2_with (go_at_call 23; refine (turned_call _ _).mono ?_; rintro e w' ⟨rfl, rfl⟩; first | rw [conW_call0, conW_size0, cloV] | rw [conW_call1, conW_size1, cloV] | rw [conW_call2, conW_size2, cloV] | rw [conW_call3, conW_size3, cloV] | rw [conW_call4, conW_size4, cloV] | rw [conW_call5, conW_size5, cloV] | rw [conW_call6, conW_size6, cloV] | rw [conW_call7, conW_size7, cloV])
  go_ret
  exact ⟨rfl, rfl⟩
end Go.Proofs.Ytbljijbmjccalaa

/-
  Proved here: what a look-up in the map of conditions tells. Conditions: none.
-/
namespace Go.Proofs.Ytbljijbmjccalaa
open Go.RowKit Go.MapKept
attribute [local go_sem] u_and u_or u_xor u_andNot u_add u_sub s_conv u_conv max_u min_u max_s min_s u_inc u_less s_inc s_less s_inc64 s_less64
set_option linter.unusedSimpArgs false


theorem con_look (w : World) (B j : Nat) (c : Int) (v : Value) (hb : w.heap[B]? = some (.map (conEnts B 11) 11)) (h1 : Instr.findNow (.int .u8) (.int .u8 c) (conEnts B 11).toList 0 = some (some (j, v))) :
    (Instr.lookup 44 (.map (some B)) (.int .u8 c) true).run Try.prog w = .ok (.tuple #[v, .bool true]) w := by
  have hk : IsKey (.int .u8) (.int .u8 c) := rfl
  have hd : Try.prog.underlying 5 = some (.int .u8) := Try.underlying5
  simp [Instr.lookup, run_underlying Try.underlying44, MapKept.run_getObj_map hb, run_checkKey hd hk, run_findKey hd h1, Result.andThen]
theorem con_none (B : Nat) (c : Int) (h : isCond c = false) : Instr.findNow (.int .u8) (.int .u8 c) (conEnts B 11).toList 0 = some none := by
  simp only [isCond, Bool.or_eq_false_iff, beq_eq_false_iff_ne, ne_eq, and_assoc] at h
  obtain ⟨g1, g2, g3, g4, g5, g6, g7, g8, g9, g10, g11⟩ := h
  have hb : ∀ k : Int, ¬ c = k → (c == k) = false := fun k hk => by simpa using hk
  simp [conEnts, conT, Instr.findNow, Instr.sameNow]
  rw [hb _ g1, hb _ g2, hb _ g3, hb _ g4, hb _ g5, hb _ g6, hb _ g7, hb _ g8, hb _ g9, hb _ g10, hb _ g11]

theorem con_look0 (w : World) (B : Nat) (c : Int) (hb : w.heap[B]? = some (.map (conEnts B 11) 11)) (h1 : Instr.findNow (.int .u8) (.int .u8 c) (conEnts B 11).toList 0 = some none) :
    (Instr.lookup 44 (.map (some B)) (.int .u8 c) true).run Try.prog w = .ok (.tuple #[.agg #[.nilFunc, .nilFunc], .bool false]) w := by
  have hk : IsKey (.int .u8) (.int .u8 c) := rfl
  have hd : Try.prog.underlying 5 = some (.int .u8) := Try.underlying5
  simp [Instr.lookup, run_underlying Try.underlying44, MapKept.run_getObj_map hb, run_checkKey hd hk, run_findKey hd h1, Result.andThen]
end Go.Proofs.Ytbljijbmjccalaa

/-
  Proved here: what refined and fourBytesTell of package narrow return. Conditions: none.
-/
namespace Go.Proofs.Ytbljijbmjccalaa
open Go.RowKit
attribute [local go_sem] u_and u_or u_xor u_andNot u_add u_sub s_conv u_conv max_u min_u max_s min_s u_inc u_less s_inc s_less s_inc64 s_less64
set_option linter.unusedSimpArgs false

theorem small4 : u (lowM (bN 4)) = 4294967295 := by decide
set_option maxHeartbeats 4000000 in
theorem refined_pair (x y : K) (w : World) : Calls Try.prog 14 #[pairV x y] w (Gives (.tuple #[pairV x.fine y.fine, .bool (x.okF && y.okF)]) w) := by
  have h1 := fun W => refine_num x W
  have h2 := fun W => refine_num y W
  obtain ⟨a, ha⟩ : ∃ a, x.fine = a := ⟨_, rfl⟩
  obtain ⟨b, hb⟩ : ∃ b, y.fine = b := ⟨_, rfl⟩
  obtain ⟨p, hp⟩ : ∃ p, x.okF = p := ⟨_, rfl⟩
  obtain ⟨q, hq⟩ : ∃ q, y.okF = q := ⟨_, rfl⟩
  rw [ha, hp] at h1
  rw [hb, hq] at h2
  rw [ha, hb, hp, hq]
  clear ha hb hp hq
  cases p <;> cases q
  all_goals
    unfold numV at h1 h2
    have HP := Lib.hid (pb_new x y w)
    unfold Gives pairV pairC
    unfold pairC at HP
    obtain ⟨W0, hW0⟩ : ∃ W0, ((w.alloc (.cells #[.int .u64 (u x.v), .int .u64 (u x.m), .int .u64 (u x.a), .int .u64 (u x.b), .int .i64 (s x.c), .int .i64 (s x.d), .int .u64 (u y.v), .int .u64 (u y.m), .int .u64 (u y.a), .int .u64 (u y.b), .int .i64 (s y.c), .int .i64 (s y.d)] 38)).alloc (.cells #[.int .u64 0, .int .u64 0, .int .u64 0, .int .u64 0, .int .i64 0, .int .i64 0, .int .u64 0, .int .u64 0, .int .u64 0, .int .u64 0, .int .i64 0, .int .i64 0] 38)) = W0 := ⟨_, rfl⟩
    rw [hW0] at HP
    obtain ⟨⟨p0, p1, p2, p3, p4, p5⟩, ⟨q0, q1, q2, q3, q4, q5⟩⟩ := pair_cells HP.out.1
    obtain ⟨⟨f0, f1, f2, f3, f4, f5⟩, ⟨g0, g1, g2, g3, g4, g5⟩⟩ := pair_free HP.out.1
    obtain ⟨⟨r0, r1, r2, r3, r4, r5⟩, ⟨t0, t1, t2, t3, t4, t5⟩⟩ := pair_cells HP.out.2.1
    obtain ⟨⟨k0, k1, k2, k3, k4, k5⟩, ⟨l0, l1, l2, l3, l4, l5⟩⟩ := pair_free HP.out.2.1
    go_enter Try.func14, Try.ntmps14
    go_wp2_with (first
      | (go_at_call_of 30 (Value.agg #[.int .u64 (u x.v), .int .u64 (u x.m), .int .u64 (u x.a), .int .u64 (u x.b), .int .i64 (s x.c), .int .i64 (s x.d)]); refine (h1 _).mono ?_; rintro e w1 ⟨rfl, hb⟩; have HQ := Lib.hid (pg_alloc (pg_of (pb_keep HP.out hb)) (.cells #[.int .u64 (u a.v), .int .u64 (u a.m), .int .u64 (u a.a), .int .u64 (u a.b), .int .i64 (s a.c), .int .i64 (s a.d)] 26)); have HA := Lib.hid (num_new a w1); clear hb; clear p0 p1 p2 p3 p4 p5 q0 q1 q2 q3 q4 q5 f0 f1 f2 f3 f4 f5 g0 g1 g2 g3 g4 g5 r0 r1 r2 r3 r4 r5 t0 t1 t2 t3 t4 t5 k0 k1 k2 k3 k4 k5 l0 l1 l2 l3 l4 l5; obtain ⟨⟨p0, p1, p2, p3, p4, p5⟩, ⟨q0, q1, q2, q3, q4, q5⟩⟩ := pair_cells HQ.out.1; obtain ⟨⟨f0, f1, f2, f3, f4, f5⟩, ⟨g0, g1, g2, g3, g4, g5⟩⟩ := pair_free HQ.out.1; obtain ⟨⟨r0, r1, r2, r3, r4, r5⟩, ⟨t0, t1, t2, t3, t4, t5⟩⟩ := pair_cells HQ.out.2.1; obtain ⟨⟨k0, k1, k2, k3, k4, k5⟩, ⟨l0, l1, l2, l3, l4, l5⟩⟩ := pair_free HQ.out.2.1; have hl := pair_lt HQ.out.2.1)
      | (go_at_call 30; refine (h2 _).mono ?_; rintro e w2 ⟨rfl, hb⟩; have HR := Lib.hid (pg_alloc (pg_keep HQ.out hb) (.cells #[.int .u64 (u b.v), .int .u64 (u b.m), .int .u64 (u b.a), .int .u64 (u b.b), .int .i64 (s b.c), .int .i64 (s b.d)] 26)); have HA2 := Lib.hid (num_keep (num_keep HA.out hb) (below_box _ (.cells #[.int .u64 (u b.v), .int .u64 (u b.m), .int .u64 (u b.a), .int .u64 (u b.b), .int .i64 (s b.c), .int .i64 (s b.d)] 26))); have HB := Lib.hid (num_new b w2); clear hb hl; clear p0 p1 p2 p3 p4 p5 q0 q1 q2 q3 q4 q5 f0 f1 f2 f3 f4 f5 g0 g1 g2 g3 g4 g5 r0 r1 r2 r3 r4 r5 t0 t1 t2 t3 t4 t5 k0 k1 k2 k3 k4 k5 l0 l1 l2 l3 l4 l5; obtain ⟨⟨p0, p1, p2, p3, p4, p5⟩, ⟨q0, q1, q2, q3, q4, q5⟩⟩ := pair_cells HR.out.1; obtain ⟨⟨f0, f1, f2, f3, f4, f5⟩, ⟨g0, g1, g2, g3, g4, g5⟩⟩ := pair_free HR.out.1; obtain ⟨⟨r0, r1, r2, r3, r4, r5⟩, ⟨t0, t1, t2, t3, t4, t5⟩⟩ := pair_cells HR.out.2.1; obtain ⟨⟨k0, k1, k2, k3, k4, k5⟩, ⟨l0, l1, l2, l3, l4, l5⟩⟩ := pair_free HR.out.2.1; obtain ⟨a0, a1, a2, a3, a4, a5⟩ := num_cells HA2.out; obtain ⟨b0, b1, b2, b3, b4, b5⟩ := num_cells HB.out))
    clear p0 p1 p2 p3 p4 p5 q0 q1 q2 q3 q4 q5 f0 f1 f2 f3 f4 f5 g0 g1 g2 g3 g4 g5 r0 r1 r2 r3 r4 r5 t0 t1 t2 t3 t4 t5 k0 k1 k2 k3 k4 k5 l0 l1 l2 l3 l4 l5
    have HF := Lib.hid (pg_ret HR.out a b)
    generalize World.setCell _ _ _ = Wf at HF ⊢
    obtain ⟨⟨r0, r1, r2, r3, r4, r5⟩, ⟨t0, t1, t2, t3, t4, t5⟩⟩ := pair_cells HF.out.2.1
    refine bodyPost_ret (v := .tuple #[pairV a b, .bool _]) (by unfold pairV pairC; simp [results, Try.results14, go_sem, r0, r1, r2, r3, r4, r5, t0, t1, t2, t3, t4, t5]) rfl ⟨rfl, HF.out.2.2.2⟩
theorem four_no (op : Int) (x y : K) (w : World) (h : isSig op = true) : Calls Try.prog 13 #[pairV x y, .int .u8 op] w (Gives (.bool false) w) := by
  unfold Gives pairV pairC
  unfold isSig at h
  simp only [Bool.or_eq_true, beq_iff_eq, or_assoc] at h
  rcases h with rfl | rfl | rfl | rfl
  all_goals
    go_enter Try.func13, Try.ntmps13
    go_wp2
    go_ret
    exact ⟨rfl, below_box _ _⟩
theorem four_yes (op : Int) (x y : K) (w : World) (h : isSig op = false) : Calls Try.prog 13 #[pairV x y, .int .u8 op] w (Gives (.bool (lowK x && lowK y)) w) := by
  have hx := fun W => low_num x 4 W (.inr (.inr rfl))
  have hy := fun W => low_num y 4 W (.inr (.inr rfl))
  rw [small4] at hx hy
  unfold lowK
  obtain ⟨p, hp⟩ : ∃ p, decide (u x.b ≤ 4294967295) = p := ⟨_, rfl⟩
  obtain ⟨q, hq⟩ : ∃ q, decide (u y.b ≤ 4294967295) = q := ⟨_, rfl⟩
  rw [hp] at hx
  rw [hq] at hy
  rw [hp, hq]
  clear hp hq
  unfold isSig at h
  simp only [Bool.or_eq_false_iff, and_assoc] at h
  obtain ⟨e1, e2, e3, e4⟩ := h
  have n1 : ¬ op = 96 := by simpa using e1
  have n2 : ¬ op = 112 := by simpa using e2
  have n3 : ¬ op = 192 := by simpa using e3
  have n4 : ¬ op = 208 := by simpa using e4
  have HN := Lib.hid (pair_new x y w)
  cases p <;> cases q
  all_goals
    unfold numV at hx hy
    unfold Gives pairV pairC
    unfold pairC at HN
    go_enter Try.func13, Try.ntmps13
    go_wp2_with (first
      | (go_at_call_of 29 (Value.agg #[.int .u64 (u x.v), .int .u64 (u x.m), .int .u64 (u x.a), .int .u64 (u x.b), .int .i64 (s x.c), .int .i64 (s x.d)]); refine (hx _).mono ?_; rintro e w1 ⟨rfl, hb⟩; have HB := Lib.hid ((below_box _ _).trans (hb.mono (by simp))); have H1 := Lib.hid (pair_keep HN.out hb); obtain ⟨⟨p0, p1, p2, p3, p4, p5⟩, ⟨q0, q1, q2, q3, q4, q5⟩⟩ := pair_cells H1.out; clear hb)
      | (go_at_call 29; refine (hy _).mono ?_; rintro e w2 ⟨rfl, hb⟩; have HB2 := Lib.hid (HB.out.trans (hb.mono HB.out.size)); clear hb))
    go_ret
    first
      | exact ⟨rfl, HB2.out⟩
      | exact ⟨rfl, HB.out⟩
end Go.Proofs.Ytbljijbmjccalaa
