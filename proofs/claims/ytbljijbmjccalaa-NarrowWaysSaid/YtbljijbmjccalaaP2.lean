/-
  Proved here: what notBelow and notBelowSigned of package narrow return. Conditions: none.
-/
import Derived.Test.YtbljijbmjccalaaP1
import Derived.Test.YtbljijbmjccalaaPop
namespace Go.Proofs.Ytbljijbmjccalaa
open Go.RowKit
attribute [local go_sem] u_and u_or u_xor u_andNot u_add u_sub s_conv u_conv max_u min_u max_s min_s u_inc u_less s_inc s_less s_inc64 s_less64
set_option linter.unusedSimpArgs false

theorem level_pair (x y : K) (w : World) : Calls Try.prog 24 #[pairV x y] w (Gives (.tuple #[pairV (levelT x y).x (levelT x y).y, .bool true]) w) := by
  have HP := Lib.hid (pb_new x y w)
  unfold Gives pairV pairC
  unfold pairC at HP
  obtain ⟨W0, hW0⟩ : ∃ W0, ((w.alloc (.cells #[.int .u64 (u x.v), .int .u64 (u x.m), .int .u64 (u x.a), .int .u64 (u x.b), .int .i64 (s x.c), .int .i64 (s x.d), .int .u64 (u y.v), .int .u64 (u y.m), .int .u64 (u y.a), .int .u64 (u y.b), .int .i64 (s y.c), .int .i64 (s y.d)] 38)).alloc (.cells #[.int .u64 0, .int .u64 0, .int .u64 0, .int .u64 0, .int .i64 0, .int .i64 0, .int .u64 0, .int .u64 0, .int .u64 0, .int .u64 0, .int .i64 0, .int .i64 0] 38)) = W0 := ⟨_, rfl⟩
  rw [hW0] at HP
  obtain ⟨⟨p0, p1, p2, p3, p4, p5⟩, ⟨q0, q1, q2, q3, q4, q5⟩⟩ := pair_cells HP.out.1
  obtain ⟨⟨f0, f1, f2, f3, f4, f5⟩, ⟨g0, g1, g2, g3, g4, g5⟩⟩ := pair_free HP.out.1
  obtain ⟨⟨r0, r1, r2, r3, r4, r5⟩, ⟨t0, t1, t2, t3, t4, t5⟩⟩ := pair_cells HP.out.2.1
  obtain ⟨⟨k0, k1, k2, k3, k4, k5⟩, ⟨l0, l1, l2, l3, l4, l5⟩⟩ := pair_free HP.out.2.1
  go_enter Try.func24, Try.ntmps24
  go_upto_region 2 with fail
  clear hW0
  have HQ := Lib.hid (pb_put (pb_put HP.out 2 _ (pair_xa HP.out.1 (maxU x.a y.a))) 9 _ (pair_yb (pair_xa HP.out.1 (maxU x.a y.a)) (minU y.b x.b)))
  clear p0 p1 p2 p3 p4 p5 q0 q1 q2 q3 q4 q5 f0 f1 f2 f3 f4 f5 g0 g1 g2 g3 g4 g5 r0 r1 r2 r3 r4 r5 t0 t1 t2 t3 t4 t5 k0 k1 k2 k3 k4 k5 l0 l1 l2 l3 l4 l5
  generalize World.setCell _ _ _ = W at HQ ⊢
  clear HP
  have HP := HQ
  clear HQ
  obtain ⟨⟨p0, p1, p2, p3, p4, p5⟩, ⟨q0, q1, q2, q3, q4, q5⟩⟩ := pair_cells HP.out.1
  obtain ⟨⟨f0, f1, f2, f3, f4, f5⟩, ⟨g0, g1, g2, g3, g4, g5⟩⟩ := pair_free HP.out.1
  obtain ⟨⟨r0, r1, r2, r3, r4, r5⟩, ⟨t0, t1, t2, t3, t4, t5⟩⟩ := pair_cells HP.out.2.1
  obtain ⟨⟨k0, k1, k2, k3, k4, k5⟩, ⟨l0, l1, l2, l3, l4, l5⟩⟩ := pair_free HP.out.2.1
  go_wp2_with fail
  exact bodyPost_ret (v := .tuple #[pairV (⟨x.v, x.m, (maxU x.a y.a), x.b, x.c, x.d⟩) (⟨y.v, y.m, y.a, (minU y.b x.b), y.c, y.d⟩), .bool true]) (by unfold pairV pairC; simp [results, Try.results24, go_sem, r0, r1, r2, r3, r4, r5, t0, t1, t2, t3, t4, t5]) rfl ⟨rfl, below_ret HP.out.2.2 _ _ _ _ _ _ _ _ _ _ _ _⟩
theorem levelS_pair (x y : K) (w : World) : Calls Try.prog 26 #[pairV x y] w (Gives (.tuple #[pairV (levelST x y).x (levelST x y).y, .bool true]) w) := by
  have HP := Lib.hid (pb_new x y w)
  unfold Gives pairV pairC
  unfold pairC at HP
  obtain ⟨W0, hW0⟩ : ∃ W0, ((w.alloc (.cells #[.int .u64 (u x.v), .int .u64 (u x.m), .int .u64 (u x.a), .int .u64 (u x.b), .int .i64 (s x.c), .int .i64 (s x.d), .int .u64 (u y.v), .int .u64 (u y.m), .int .u64 (u y.a), .int .u64 (u y.b), .int .i64 (s y.c), .int .i64 (s y.d)] 38)).alloc (.cells #[.int .u64 0, .int .u64 0, .int .u64 0, .int .u64 0, .int .i64 0, .int .i64 0, .int .u64 0, .int .u64 0, .int .u64 0, .int .u64 0, .int .i64 0, .int .i64 0] 38)) = W0 := ⟨_, rfl⟩
  rw [hW0] at HP
  obtain ⟨⟨p0, p1, p2, p3, p4, p5⟩, ⟨q0, q1, q2, q3, q4, q5⟩⟩ := pair_cells HP.out.1
  obtain ⟨⟨f0, f1, f2, f3, f4, f5⟩, ⟨g0, g1, g2, g3, g4, g5⟩⟩ := pair_free HP.out.1
  obtain ⟨⟨r0, r1, r2, r3, r4, r5⟩, ⟨t0, t1, t2, t3, t4, t5⟩⟩ := pair_cells HP.out.2.1
  obtain ⟨⟨k0, k1, k2, k3, k4, k5⟩, ⟨l0, l1, l2, l3, l4, l5⟩⟩ := pair_free HP.out.2.1
  go_enter Try.func26, Try.ntmps26
  go_upto_region 2 with fail
  clear hW0
  have HQ := Lib.hid (pb_put (pb_put HP.out 4 _ (pair_xc HP.out.1 (maxS x.c y.c))) 11 _ (pair_yd (pair_xc HP.out.1 (maxS x.c y.c)) (minS y.d x.d)))
  clear p0 p1 p2 p3 p4 p5 q0 q1 q2 q3 q4 q5 f0 f1 f2 f3 f4 f5 g0 g1 g2 g3 g4 g5 r0 r1 r2 r3 r4 r5 t0 t1 t2 t3 t4 t5 k0 k1 k2 k3 k4 k5 l0 l1 l2 l3 l4 l5
  generalize World.setCell _ _ _ = W at HQ ⊢
  clear HP
  have HP := HQ
  clear HQ
  obtain ⟨⟨p0, p1, p2, p3, p4, p5⟩, ⟨q0, q1, q2, q3, q4, q5⟩⟩ := pair_cells HP.out.1
  obtain ⟨⟨f0, f1, f2, f3, f4, f5⟩, ⟨g0, g1, g2, g3, g4, g5⟩⟩ := pair_free HP.out.1
  obtain ⟨⟨r0, r1, r2, r3, r4, r5⟩, ⟨t0, t1, t2, t3, t4, t5⟩⟩ := pair_cells HP.out.2.1
  obtain ⟨⟨k0, k1, k2, k3, k4, k5⟩, ⟨l0, l1, l2, l3, l4, l5⟩⟩ := pair_free HP.out.2.1
  go_wp2_with fail
  exact bodyPost_ret (v := .tuple #[pairV (⟨x.v, x.m, x.a, x.b, (maxS x.c y.c), x.d⟩) (⟨y.v, y.m, y.a, y.b, y.c, (minS y.d x.d)⟩), .bool true]) (by unfold pairV pairC; simp [results, Try.results26, go_sem, r0, r1, r2, r3, r4, r5, t0, t1, t2, t3, t4, t5]) rfl ⟨rfl, below_ret HP.out.2.2 _ _ _ _ _ _ _ _ _ _ _ _⟩
end Go.Proofs.Ytbljijbmjccalaa

/-
  Proved here: what above and aboveSigned of package narrow return. Conditions: none.
-/
namespace Go.Proofs.Ytbljijbmjccalaa
open Go.RowKit
attribute [local go_sem] u_and u_or u_xor u_andNot u_add u_sub s_conv u_conv max_u min_u max_s min_s u_inc u_less s_inc s_less s_inc64 s_less64
set_option linter.unusedSimpArgs false

set_option maxHeartbeats 4000000 in
theorem above_pair_no (x y : K) (w : World) (h1 : ¬ u y.a = 18446744073709551615) (h2 : ¬ u x.b = 0) : Calls Try.prog 22 #[pairV x y] w (Gives (.tuple #[pairV (⟨x.v, x.m, (maxU x.a (y.a + 1#64)), x.b, x.c, x.d⟩) (⟨y.v, y.m, y.a, (minU y.b (x.b - 1#64)), y.c, y.d⟩), .bool true]) w) := by
  have d1 : (u y.a == 18446744073709551615) = false := by simpa using h1
  have d2 : (u x.b == 0) = false := by simpa using h2
  have HP := Lib.hid (pb_new x y w)
  unfold Gives pairV pairC
  unfold pairC at HP
  obtain ⟨W0, hW0⟩ : ∃ W0, ((w.alloc (.cells #[.int .u64 (u x.v), .int .u64 (u x.m), .int .u64 (u x.a), .int .u64 (u x.b), .int .i64 (s x.c), .int .i64 (s x.d), .int .u64 (u y.v), .int .u64 (u y.m), .int .u64 (u y.a), .int .u64 (u y.b), .int .i64 (s y.c), .int .i64 (s y.d)] 38)).alloc (.cells #[.int .u64 0, .int .u64 0, .int .u64 0, .int .u64 0, .int .i64 0, .int .i64 0, .int .u64 0, .int .u64 0, .int .u64 0, .int .u64 0, .int .i64 0, .int .i64 0] 38)) = W0 := ⟨_, rfl⟩
  rw [hW0] at HP
  obtain ⟨⟨p0, p1, p2, p3, p4, p5⟩, ⟨q0, q1, q2, q3, q4, q5⟩⟩ := pair_cells HP.out.1
  obtain ⟨⟨f0, f1, f2, f3, f4, f5⟩, ⟨g0, g1, g2, g3, g4, g5⟩⟩ := pair_free HP.out.1
  obtain ⟨⟨r0, r1, r2, r3, r4, r5⟩, ⟨t0, t1, t2, t3, t4, t5⟩⟩ := pair_cells HP.out.2.1
  obtain ⟨⟨k0, k1, k2, k3, k4, k5⟩, ⟨l0, l1, l2, l3, l4, l5⟩⟩ := pair_free HP.out.2.1
  go_enter Try.func22, Try.ntmps22
  go_upto_region 4 with fail
  clear hW0
  have HQ := Lib.hid (pb_put (pb_put HP.out 2 _ (pair_xa HP.out.1 (maxU x.a (y.a + 1#64)))) 9 _ (pair_yb (pair_xa HP.out.1 (maxU x.a (y.a + 1#64))) (minU y.b (x.b - 1#64))))
  clear p0 p1 p2 p3 p4 p5 q0 q1 q2 q3 q4 q5 f0 f1 f2 f3 f4 f5 g0 g1 g2 g3 g4 g5 r0 r1 r2 r3 r4 r5 t0 t1 t2 t3 t4 t5 k0 k1 k2 k3 k4 k5 l0 l1 l2 l3 l4 l5
  generalize World.setCell _ _ _ = W at HQ ⊢
  clear HP
  have HP := HQ
  clear HQ
  obtain ⟨⟨p0, p1, p2, p3, p4, p5⟩, ⟨q0, q1, q2, q3, q4, q5⟩⟩ := pair_cells HP.out.1
  obtain ⟨⟨f0, f1, f2, f3, f4, f5⟩, ⟨g0, g1, g2, g3, g4, g5⟩⟩ := pair_free HP.out.1
  obtain ⟨⟨r0, r1, r2, r3, r4, r5⟩, ⟨t0, t1, t2, t3, t4, t5⟩⟩ := pair_cells HP.out.2.1
  obtain ⟨⟨k0, k1, k2, k3, k4, k5⟩, ⟨l0, l1, l2, l3, l4, l5⟩⟩ := pair_free HP.out.2.1
  go_wp2_with fail
  exact bodyPost_ret (v := .tuple #[pairV (⟨x.v, x.m, (maxU x.a (y.a + 1#64)), x.b, x.c, x.d⟩) (⟨y.v, y.m, y.a, (minU y.b (x.b - 1#64)), y.c, y.d⟩), .bool true]) (by unfold pairV pairC; simp [results, Try.results22, go_sem, r0, r1, r2, r3, r4, r5, t0, t1, t2, t3, t4, t5]) rfl ⟨rfl, below_ret HP.out.2.2 _ _ _ _ _ _ _ _ _ _ _ _⟩
set_option maxHeartbeats 4000000 in
theorem above_pair_yes (x y : K) (w : World) (h : u y.a = 18446744073709551615 ∨ u x.b = 0) : Calls Try.prog 22 #[pairV x y] w (Gives (.tuple #[pairV x y, .bool false]) w) := by
  have HH := Lib.hid h
  clear h
  have HP := Lib.hid (pb_new x y w)
  unfold Gives pairV pairC
  unfold pairC at HP
  obtain ⟨W0, hW0⟩ : ∃ W0, ((w.alloc (.cells #[.int .u64 (u x.v), .int .u64 (u x.m), .int .u64 (u x.a), .int .u64 (u x.b), .int .i64 (s x.c), .int .i64 (s x.d), .int .u64 (u y.v), .int .u64 (u y.m), .int .u64 (u y.a), .int .u64 (u y.b), .int .i64 (s y.c), .int .i64 (s y.d)] 38)).alloc (.cells #[.int .u64 0, .int .u64 0, .int .u64 0, .int .u64 0, .int .i64 0, .int .i64 0, .int .u64 0, .int .u64 0, .int .u64 0, .int .u64 0, .int .i64 0, .int .i64 0] 38)) = W0 := ⟨_, rfl⟩
  rw [hW0] at HP
  obtain ⟨⟨p0, p1, p2, p3, p4, p5⟩, ⟨q0, q1, q2, q3, q4, q5⟩⟩ := pair_cells HP.out.1
  obtain ⟨⟨f0, f1, f2, f3, f4, f5⟩, ⟨g0, g1, g2, g3, g4, g5⟩⟩ := pair_free HP.out.1
  obtain ⟨⟨r0, r1, r2, r3, r4, r5⟩, ⟨t0, t1, t2, t3, t4, t5⟩⟩ := pair_cells HP.out.2.1
  obtain ⟨⟨k0, k1, k2, k3, k4, k5⟩, ⟨l0, l1, l2, l3, l4, l5⟩⟩ := pair_free HP.out.2.1
  go_enter Try.func22, Try.ntmps22
  go_upto_region 2 with fail
  · rename u y.a = 18446744073709551615 => hh
    clear hh
    go_wp2_with fail
    exact bodyPost_ret (v := .tuple #[pairV (x) (y), .bool false]) (by unfold pairV pairC; simp [results, Try.results22, go_sem, r0, r1, r2, r3, r4, r5, t0, t1, t2, t3, t4, t5]) rfl ⟨rfl, below_ret HP.out.2.2 _ _ _ _ _ _ _ _ _ _ _ _⟩
  · rename (u y.a == 18446744073709551615) = true ∨ (u x.b == 0) = true => hh
    clear hh
    go_wp2_with fail
    exact bodyPost_ret (v := .tuple #[pairV (x) (y), .bool false]) (by unfold pairV pairC; simp [results, Try.results22, go_sem, r0, r1, r2, r3, r4, r5, t0, t1, t2, t3, t4, t5]) rfl ⟨rfl, below_ret HP.out.2.2 _ _ _ _ _ _ _ _ _ _ _ _⟩
  · exfalso
    have hh := HH.out
    simp_all
theorem above_pair (x y : K) (w : World) : Calls Try.prog 22 #[pairV x y] w (Gives (.tuple #[pairV (aboveT x y).x (aboveT x y).y, .bool (aboveT x y).ok]) w) := by
  by_cases h : u y.a = 18446744073709551615 ∨ u x.b = 0
  · have e : aboveT x y = ⟨false, x, y⟩ := by unfold aboveT; rw [if_pos h]
    rw [e]
    exact above_pair_yes x y w h
  · have e : aboveT x y = ⟨true, ⟨x.v, x.m, (maxU x.a (y.a + 1#64)), x.b, x.c, x.d⟩, ⟨y.v, y.m, y.a, (minU y.b (x.b - 1#64)), y.c, y.d⟩⟩ := by unfold aboveT; rw [if_neg h]; rfl
    rw [e]
    exact above_pair_no x y w (fun g => h (.inl g)) (fun g => h (.inr g))
set_option maxHeartbeats 4000000 in
theorem aboveS_pair_no (x y : K) (w : World) (h1 : ¬ s y.c = 9223372036854775807) (h2 : ¬ s x.d = -9223372036854775808) : Calls Try.prog 25 #[pairV x y] w (Gives (.tuple #[pairV (⟨x.v, x.m, x.a, x.b, (maxS x.c (y.c + 1#64)), x.d⟩) (⟨y.v, y.m, y.a, y.b, y.c, (minS y.d (x.d - 1#64))⟩), .bool true]) w) := by
  have d1 : (s y.c == 9223372036854775807) = false := by simpa using h1
  have d2 : (s x.d == -9223372036854775808) = false := by simpa using h2
  have HP := Lib.hid (pb_new x y w)
  unfold Gives pairV pairC
  unfold pairC at HP
  obtain ⟨W0, hW0⟩ : ∃ W0, ((w.alloc (.cells #[.int .u64 (u x.v), .int .u64 (u x.m), .int .u64 (u x.a), .int .u64 (u x.b), .int .i64 (s x.c), .int .i64 (s x.d), .int .u64 (u y.v), .int .u64 (u y.m), .int .u64 (u y.a), .int .u64 (u y.b), .int .i64 (s y.c), .int .i64 (s y.d)] 38)).alloc (.cells #[.int .u64 0, .int .u64 0, .int .u64 0, .int .u64 0, .int .i64 0, .int .i64 0, .int .u64 0, .int .u64 0, .int .u64 0, .int .u64 0, .int .i64 0, .int .i64 0] 38)) = W0 := ⟨_, rfl⟩
  rw [hW0] at HP
  obtain ⟨⟨p0, p1, p2, p3, p4, p5⟩, ⟨q0, q1, q2, q3, q4, q5⟩⟩ := pair_cells HP.out.1
  obtain ⟨⟨f0, f1, f2, f3, f4, f5⟩, ⟨g0, g1, g2, g3, g4, g5⟩⟩ := pair_free HP.out.1
  obtain ⟨⟨r0, r1, r2, r3, r4, r5⟩, ⟨t0, t1, t2, t3, t4, t5⟩⟩ := pair_cells HP.out.2.1
  obtain ⟨⟨k0, k1, k2, k3, k4, k5⟩, ⟨l0, l1, l2, l3, l4, l5⟩⟩ := pair_free HP.out.2.1
  go_enter Try.func25, Try.ntmps25
  go_upto_region 4 with fail
  clear hW0
  have HQ := Lib.hid (pb_put (pb_put HP.out 4 _ (pair_xc HP.out.1 (maxS x.c (y.c + 1#64)))) 11 _ (pair_yd (pair_xc HP.out.1 (maxS x.c (y.c + 1#64))) (minS y.d (x.d - 1#64))))
  clear p0 p1 p2 p3 p4 p5 q0 q1 q2 q3 q4 q5 f0 f1 f2 f3 f4 f5 g0 g1 g2 g3 g4 g5 r0 r1 r2 r3 r4 r5 t0 t1 t2 t3 t4 t5 k0 k1 k2 k3 k4 k5 l0 l1 l2 l3 l4 l5
  generalize World.setCell _ _ _ = W at HQ ⊢
  clear HP
  have HP := HQ
  clear HQ
  obtain ⟨⟨p0, p1, p2, p3, p4, p5⟩, ⟨q0, q1, q2, q3, q4, q5⟩⟩ := pair_cells HP.out.1
  obtain ⟨⟨f0, f1, f2, f3, f4, f5⟩, ⟨g0, g1, g2, g3, g4, g5⟩⟩ := pair_free HP.out.1
  obtain ⟨⟨r0, r1, r2, r3, r4, r5⟩, ⟨t0, t1, t2, t3, t4, t5⟩⟩ := pair_cells HP.out.2.1
  obtain ⟨⟨k0, k1, k2, k3, k4, k5⟩, ⟨l0, l1, l2, l3, l4, l5⟩⟩ := pair_free HP.out.2.1
  go_wp2_with fail
  exact bodyPost_ret (v := .tuple #[pairV (⟨x.v, x.m, x.a, x.b, (maxS x.c (y.c + 1#64)), x.d⟩) (⟨y.v, y.m, y.a, y.b, y.c, (minS y.d (x.d - 1#64))⟩), .bool true]) (by unfold pairV pairC; simp [results, Try.results25, go_sem, r0, r1, r2, r3, r4, r5, t0, t1, t2, t3, t4, t5]) rfl ⟨rfl, below_ret HP.out.2.2 _ _ _ _ _ _ _ _ _ _ _ _⟩
set_option maxHeartbeats 4000000 in
theorem aboveS_pair_yes (x y : K) (w : World) (h : s y.c = 9223372036854775807 ∨ s x.d = -9223372036854775808) : Calls Try.prog 25 #[pairV x y] w (Gives (.tuple #[pairV x y, .bool false]) w) := by
  have HH := Lib.hid h
  clear h
  have HP := Lib.hid (pb_new x y w)
  unfold Gives pairV pairC
  unfold pairC at HP
  obtain ⟨W0, hW0⟩ : ∃ W0, ((w.alloc (.cells #[.int .u64 (u x.v), .int .u64 (u x.m), .int .u64 (u x.a), .int .u64 (u x.b), .int .i64 (s x.c), .int .i64 (s x.d), .int .u64 (u y.v), .int .u64 (u y.m), .int .u64 (u y.a), .int .u64 (u y.b), .int .i64 (s y.c), .int .i64 (s y.d)] 38)).alloc (.cells #[.int .u64 0, .int .u64 0, .int .u64 0, .int .u64 0, .int .i64 0, .int .i64 0, .int .u64 0, .int .u64 0, .int .u64 0, .int .u64 0, .int .i64 0, .int .i64 0] 38)) = W0 := ⟨_, rfl⟩
  rw [hW0] at HP
  obtain ⟨⟨p0, p1, p2, p3, p4, p5⟩, ⟨q0, q1, q2, q3, q4, q5⟩⟩ := pair_cells HP.out.1
  obtain ⟨⟨f0, f1, f2, f3, f4, f5⟩, ⟨g0, g1, g2, g3, g4, g5⟩⟩ := pair_free HP.out.1
  obtain ⟨⟨r0, r1, r2, r3, r4, r5⟩, ⟨t0, t1, t2, t3, t4, t5⟩⟩ := pair_cells HP.out.2.1
  obtain ⟨⟨k0, k1, k2, k3, k4, k5⟩, ⟨l0, l1, l2, l3, l4, l5⟩⟩ := pair_free HP.out.2.1
  go_enter Try.func25, Try.ntmps25
  go_upto_region 2 with fail
  · rename s y.c = 9223372036854775807 => hh
    clear hh
    go_wp2_with fail
    exact bodyPost_ret (v := .tuple #[pairV (x) (y), .bool false]) (by unfold pairV pairC; simp [results, Try.results25, go_sem, r0, r1, r2, r3, r4, r5, t0, t1, t2, t3, t4, t5]) rfl ⟨rfl, below_ret HP.out.2.2 _ _ _ _ _ _ _ _ _ _ _ _⟩
  · rename (s y.c == 9223372036854775807) = true ∨ (s x.d == -9223372036854775808) = true => hh
    clear hh
    go_wp2_with fail
    exact bodyPost_ret (v := .tuple #[pairV (x) (y), .bool false]) (by unfold pairV pairC; simp [results, Try.results25, go_sem, r0, r1, r2, r3, r4, r5, t0, t1, t2, t3, t4, t5]) rfl ⟨rfl, below_ret HP.out.2.2 _ _ _ _ _ _ _ _ _ _ _ _⟩
  · exfalso
    have hh := HH.out
    simp_all
theorem aboveS_pair (x y : K) (w : World) : Calls Try.prog 25 #[pairV x y] w (Gives (.tuple #[pairV (aboveST x y).x (aboveST x y).y, .bool (aboveST x y).ok]) w) := by
  by_cases h : s y.c = 9223372036854775807 ∨ s x.d = -9223372036854775808
  · have e : aboveST x y = ⟨false, x, y⟩ := by unfold aboveST; rw [if_pos h]
    rw [e]
    exact aboveS_pair_yes x y w h
  · have e : aboveST x y = ⟨true, ⟨x.v, x.m, x.a, x.b, (maxS x.c (y.c + 1#64)), x.d⟩, ⟨y.v, y.m, y.a, y.b, y.c, (minS y.d (x.d - 1#64))⟩⟩ := by unfold aboveST; rw [if_neg h]; rfl
    rw [e]
    exact aboveS_pair_no x y w (fun g => h (.inl g)) (fun g => h (.inr g))
end Go.Proofs.Ytbljijbmjccalaa

/-
  Proved here: what same of package narrow returns. Conditions: none.
-/
namespace Go.Proofs.Ytbljijbmjccalaa
open Go.RowKit
attribute [local go_sem] u_and u_or u_xor u_andNot u_add u_sub s_conv u_conv max_u min_u max_s min_s u_inc u_less s_inc s_less s_inc64 s_less64
set_option linter.unusedSimpArgs false

set_option maxHeartbeats 2000000 in
theorem same_pair (x y : K) (w : World) : Calls Try.prog 20 #[pairV x y] w (Gives (.tuple #[pairV (sameT x y).x (sameT x y).y, .bool (sameT x y).ok]) w) := by
  unfold sameT
  show Calls Try.prog 20 #[pairV x y] w (Gives (.tuple #[pairV (x.both y) (x.both y), .bool (x.okM y)]) w)
  have hm := fun W => meet_both x y W
  generalize x.both y = z at hm ⊢
  generalize x.okM y = ok at hm ⊢
  unfold numV at hm
  have HP := Lib.hid (pb_new x y w)
  unfold Gives pairV pairC
  unfold pairC at HP
  obtain ⟨W0, hW0⟩ : ∃ W0, ((w.alloc (.cells #[.int .u64 (u x.v), .int .u64 (u x.m), .int .u64 (u x.a), .int .u64 (u x.b), .int .i64 (s x.c), .int .i64 (s x.d), .int .u64 (u y.v), .int .u64 (u y.m), .int .u64 (u y.a), .int .u64 (u y.b), .int .i64 (s y.c), .int .i64 (s y.d)] 38)).alloc (.cells #[.int .u64 0, .int .u64 0, .int .u64 0, .int .u64 0, .int .i64 0, .int .i64 0, .int .u64 0, .int .u64 0, .int .u64 0, .int .u64 0, .int .i64 0, .int .i64 0] 38)) = W0 := ⟨_, rfl⟩
  rw [hW0] at HP
  obtain ⟨⟨p0, p1, p2, p3, p4, p5⟩, ⟨q0, q1, q2, q3, q4, q5⟩⟩ := pair_cells HP.out.1
  obtain ⟨⟨f0, f1, f2, f3, f4, f5⟩, ⟨g0, g1, g2, g3, g4, g5⟩⟩ := pair_free HP.out.1
  obtain ⟨⟨r0, r1, r2, r3, r4, r5⟩, ⟨t0, t1, t2, t3, t4, t5⟩⟩ := pair_cells HP.out.2.1
  obtain ⟨⟨k0, k1, k2, k3, k4, k5⟩, ⟨l0, l1, l2, l3, l4, l5⟩⟩ := pair_free HP.out.2.1
  go_enter Try.func20, Try.ntmps20
  go_wp2_with (go_at_call 38; refine (hm _).mono ?_; rintro e w1 ⟨rfl, hb⟩; have HQ := Lib.hid (pg_of (pb_keep HP.out hb)); clear hb; clear p0 p1 p2 p3 p4 p5 q0 q1 q2 q3 q4 q5 f0 f1 f2 f3 f4 f5 g0 g1 g2 g3 g4 g5 r0 r1 r2 r3 r4 r5 t0 t1 t2 t3 t4 t5 k0 k1 k2 k3 k4 k5 l0 l1 l2 l3 l4 l5; obtain ⟨⟨p0, p1, p2, p3, p4, p5⟩, ⟨q0, q1, q2, q3, q4, q5⟩⟩ := pair_cells HQ.out.1; obtain ⟨⟨f0, f1, f2, f3, f4, f5⟩, ⟨g0, g1, g2, g3, g4, g5⟩⟩ := pair_free HQ.out.1; obtain ⟨⟨r0, r1, r2, r3, r4, r5⟩, ⟨t0, t1, t2, t3, t4, t5⟩⟩ := pair_cells HQ.out.2.1; obtain ⟨⟨k0, k1, k2, k3, k4, k5⟩, ⟨l0, l1, l2, l3, l4, l5⟩⟩ := pair_free HQ.out.2.1; have hl := pair_lt HQ.out.2.1)
  clear r0 r1 r2 r3 r4 r5 t0 t1 t2 t3 t4 t5
  have HF := Lib.hid (pg_alloc (pg_ret HQ.out z z) (.cells #[.int .u64 (u z.v), .int .u64 (u z.m), .int .u64 (u z.a), .int .u64 (u z.b), .int .i64 (s z.c), .int .i64 (s z.d)] 26))
  generalize World.alloc _ _ = Wf at HF ⊢
  obtain ⟨⟨r0, r1, r2, r3, r4, r5⟩, ⟨t0, t1, t2, t3, t4, t5⟩⟩ := pair_cells HF.out.2.1
  exact bodyPost_ret (v := .tuple #[pairV z z, .bool ok]) (by unfold pairV pairC; simp [results, Try.results20, go_sem, r0, r1, r2, r3, r4, r5, t0, t1, t2, t3, t4, t5]) rfl ⟨rfl, HF.out.2.2.2⟩
end Go.Proofs.Ytbljijbmjccalaa

/-
  Proved here: what meet of package narrow returns. Conditions: none.
-/
namespace Go.Proofs.Ytbljijbmjccalaa
open Go.RowKit
attribute [local go_sem] u_and u_or u_xor u_andNot u_add u_sub s_conv u_conv max_u min_u max_s min_s u_inc u_less s_inc s_less s_inc64 s_less64
set_option linter.unusedSimpArgs false

set_option maxHeartbeats 2000000 in
theorem met_pair (x y : K) (v m : B64) (w : World) : Calls Try.prog 43 #[pairV x y, tnV v m] w (Gives (.tuple #[pairV (metT x y v m).x (metT x y v m).y, .bool (metT x y v m).ok]) w) := by
  unfold metT
  show Calls Try.prog 43 #[pairV x y, tnV v m] w (Gives (.tuple #[pairV ⟨mV x.v x.m v m, mM x.v x.m v m, x.a, x.b, x.c, x.d⟩ y, .bool (mtOk x.v x.m v m)]) w)
  have hm := fun W => meet_any x.v x.m v m W
  generalize mV x.v x.m v m = a at hm ⊢
  generalize mM x.v x.m v m = b at hm ⊢
  generalize mtOk x.v x.m v m = ok at hm ⊢
  unfold tnV at hm
  have HP := Lib.hid (pg_new x y (.cells #[.int .u64 (u v), .int .u64 (u m)] 24) w)
  unfold Gives pairV pairC tnV
  unfold pairC at HP
  obtain ⟨W0, hW0⟩ : ∃ W0, (((w.alloc (.cells #[.int .u64 (u x.v), .int .u64 (u x.m), .int .u64 (u x.a), .int .u64 (u x.b), .int .i64 (s x.c), .int .i64 (s x.d), .int .u64 (u y.v), .int .u64 (u y.m), .int .u64 (u y.a), .int .u64 (u y.b), .int .i64 (s y.c), .int .i64 (s y.d)] 38)).alloc (.cells #[.int .u64 (u v), .int .u64 (u m)] 24)).alloc (.cells #[.int .u64 0, .int .u64 0, .int .u64 0, .int .u64 0, .int .i64 0, .int .i64 0, .int .u64 0, .int .u64 0, .int .u64 0, .int .u64 0, .int .i64 0, .int .i64 0] 38)) = W0 := ⟨_, rfl⟩
  rw [hW0] at HP
  obtain ⟨⟨p0, p1, p2, p3, p4, p5⟩, ⟨q0, q1, q2, q3, q4, q5⟩⟩ := pair_cells HP.out.1
  obtain ⟨⟨f0, f1, f2, f3, f4, f5⟩, ⟨g0, g1, g2, g3, g4, g5⟩⟩ := pair_free HP.out.1
  obtain ⟨⟨r0, r1, r2, r3, r4, r5⟩, ⟨t0, t1, t2, t3, t4, t5⟩⟩ := pair_cells HP.out.2.1
  obtain ⟨⟨k0, k1, k2, k3, k4, k5⟩, ⟨l0, l1, l2, l3, l4, l5⟩⟩ := pair_free HP.out.2.1
  have hc0 : W0.cell? ⟨w.heap.size + 1, 0, none⟩ = some (.int .u64 (u v)) := by
    rw [← hW0, World.cell?_alloc_past _ _ _ (by simp), World.cell?_alloc_at _ _ _ _ (by simp)]
    rfl
  have hc1 : W0.cell? ⟨w.heap.size + 1, 1, none⟩ = some (.int .u64 (u m)) := by
    rw [← hW0, World.cell?_alloc_past _ _ _ (by simp), World.cell?_alloc_at _ _ _ _ (by simp)]
    rfl
  go_enter Try.func43, Try.ntmps43
  go_upto_region 3 with (go_at_call 54; refine (hm _).mono ?_; rintro e w1 ⟨rfl, hb⟩; have HQ := Lib.hid (pg_keep HP.out hb); clear hb; clear p0 p1 p2 p3 p4 p5 q0 q1 q2 q3 q4 q5 f0 f1 f2 f3 f4 f5 g0 g1 g2 g3 g4 g5 r0 r1 r2 r3 r4 r5 t0 t1 t2 t3 t4 t5 k0 k1 k2 k3 k4 k5 l0 l1 l2 l3 l4 l5; clear hc0 hc1; obtain ⟨⟨p0, p1, p2, p3, p4, p5⟩, ⟨q0, q1, q2, q3, q4, q5⟩⟩ := pair_cells HQ.out.1; obtain ⟨⟨f0, f1, f2, f3, f4, f5⟩, ⟨g0, g1, g2, g3, g4, g5⟩⟩ := pair_free HQ.out.1; obtain ⟨⟨r0, r1, r2, r3, r4, r5⟩, ⟨t0, t1, t2, t3, t4, t5⟩⟩ := pair_cells HQ.out.2.1; obtain ⟨⟨k0, k1, k2, k3, k4, k5⟩, ⟨l0, l1, l2, l3, l4, l5⟩⟩ := pair_free HQ.out.2.1; have hl := pair_lt HQ.out.2.1)
  clear hW0 HP
  have HP := Lib.hid (pg_put (pg_put HQ.out 0 _ (pair_xv HQ.out.1 a)) 1 _ (pair_xm (pair_xv HQ.out.1 a) b))
  clear HQ
  clear p0 p1 p2 p3 p4 p5 q0 q1 q2 q3 q4 q5 f0 f1 f2 f3 f4 f5 g0 g1 g2 g3 g4 g5 r0 r1 r2 r3 r4 r5 t0 t1 t2 t3 t4 t5 k0 k1 k2 k3 k4 k5 l0 l1 l2 l3 l4 l5
  generalize World.setCell _ _ _ = W at HP ⊢
  obtain ⟨⟨p0, p1, p2, p3, p4, p5⟩, ⟨q0, q1, q2, q3, q4, q5⟩⟩ := pair_cells HP.out.1
  obtain ⟨⟨f0, f1, f2, f3, f4, f5⟩, ⟨g0, g1, g2, g3, g4, g5⟩⟩ := pair_free HP.out.1
  obtain ⟨⟨r0, r1, r2, r3, r4, r5⟩, ⟨t0, t1, t2, t3, t4, t5⟩⟩ := pair_cells HP.out.2.1
  obtain ⟨⟨k0, k1, k2, k3, k4, k5⟩, ⟨l0, l1, l2, l3, l4, l5⟩⟩ := pair_free HP.out.2.1
  go_wp2_with fail
  clear p0 p1 p2 p3 p4 p5 q0 q1 q2 q3 q4 q5 f0 f1 f2 f3 f4 f5 g0 g1 g2 g3 g4 g5 r0 r1 r2 r3 r4 r5 t0 t1 t2 t3 t4 t5 k0 k1 k2 k3 k4 k5 l0 l1 l2 l3 l4 l5
  have HF := Lib.hid (pg_ret HP.out ⟨a, b, x.a, x.b, x.c, x.d⟩ y)
  generalize World.setCell _ _ _ = Wf at HF ⊢
  obtain ⟨⟨r0, r1, r2, r3, r4, r5⟩, ⟨t0, t1, t2, t3, t4, t5⟩⟩ := pair_cells HF.out.2.1
  exact bodyPost_ret (v := .tuple #[pairV ⟨a, b, x.a, x.b, x.c, x.d⟩ y, .bool ok]) (by unfold pairV pairC; simp [results, Try.results43, go_sem, r0, r1, r2, r3, r4, r5, t0, t1, t2, t3, t4, t5]) rfl ⟨rfl, HF.out.2.2.2⟩
end Go.Proofs.Ytbljijbmjccalaa

/-
  Proved here: what common of package narrow returns. Conditions: none.
-/
namespace Go.Proofs.Ytbljijbmjccalaa
open Go.RowKit
theorem u_com (x : B64) : bits .xor .u64 (if IntKind.u64.signed = true then -1 else IntKind.u64.max) (u x) = u (~~~x) := by
  have e : (if IntKind.u64.signed = true then -1 else IntKind.u64.max : Int) = u (~~~0#64) := by decide
  rw [e, u_xor]
  congr 1
attribute [local go_sem] u_and u_or u_xor u_andNot u_add u_sub s_conv u_conv max_u min_u max_s min_s u_inc u_less s_inc s_less s_inc64 s_less64
set_option linter.unusedSimpArgs false

set_option maxHeartbeats 2000000 in
theorem common_many (x y : K) (w : World) (h : u y.m ≠ 0) : Calls Try.prog 27 #[pairV x y] w (Gives (.tuple #[pairV x y, .bool true]) w) := by
  have hi := fun W => isConst_no y W h
  clear h
  unfold numV at hi
  have HP := Lib.hid (pb_new x y w)
  unfold Gives pairV pairC
  unfold pairC at HP
  obtain ⟨W0, hW0⟩ : ∃ W0, ((w.alloc (.cells #[.int .u64 (u x.v), .int .u64 (u x.m), .int .u64 (u x.a), .int .u64 (u x.b), .int .i64 (s x.c), .int .i64 (s x.d), .int .u64 (u y.v), .int .u64 (u y.m), .int .u64 (u y.a), .int .u64 (u y.b), .int .i64 (s y.c), .int .i64 (s y.d)] 38)).alloc (.cells #[.int .u64 0, .int .u64 0, .int .u64 0, .int .u64 0, .int .i64 0, .int .i64 0, .int .u64 0, .int .u64 0, .int .u64 0, .int .u64 0, .int .i64 0, .int .i64 0] 38)) = W0 := ⟨_, rfl⟩
  rw [hW0] at HP
  obtain ⟨⟨p0, p1, p2, p3, p4, p5⟩, ⟨q0, q1, q2, q3, q4, q5⟩⟩ := pair_cells HP.out.1
  obtain ⟨⟨f0, f1, f2, f3, f4, f5⟩, ⟨g0, g1, g2, g3, g4, g5⟩⟩ := pair_free HP.out.1
  obtain ⟨⟨r0, r1, r2, r3, r4, r5⟩, ⟨t0, t1, t2, t3, t4, t5⟩⟩ := pair_cells HP.out.2.1
  obtain ⟨⟨k0, k1, k2, k3, k4, k5⟩, ⟨l0, l1, l2, l3, l4, l5⟩⟩ := pair_free HP.out.2.1
  go_enter Try.func27, Try.ntmps27
  go_wp2_with (go_at_call 39; refine (hi _).mono ?_; rintro e w1 ⟨rfl, hb⟩; have HQ := Lib.hid (pg_of (pb_keep HP.out hb)); clear hb; clear p0 p1 p2 p3 p4 p5 q0 q1 q2 q3 q4 q5 f0 f1 f2 f3 f4 f5 g0 g1 g2 g3 g4 g5 r0 r1 r2 r3 r4 r5 t0 t1 t2 t3 t4 t5 k0 k1 k2 k3 k4 k5 l0 l1 l2 l3 l4 l5; obtain ⟨⟨p0, p1, p2, p3, p4, p5⟩, ⟨q0, q1, q2, q3, q4, q5⟩⟩ := pair_cells HQ.out.1; obtain ⟨⟨f0, f1, f2, f3, f4, f5⟩, ⟨g0, g1, g2, g3, g4, g5⟩⟩ := pair_free HQ.out.1; obtain ⟨⟨r0, r1, r2, r3, r4, r5⟩, ⟨t0, t1, t2, t3, t4, t5⟩⟩ := pair_cells HQ.out.2.1; obtain ⟨⟨k0, k1, k2, k3, k4, k5⟩, ⟨l0, l1, l2, l3, l4, l5⟩⟩ := pair_free HQ.out.2.1; have hl := pair_lt HQ.out.2.1)
  clear p0 p1 p2 p3 p4 p5 q0 q1 q2 q3 q4 q5 f0 f1 f2 f3 f4 f5 g0 g1 g2 g3 g4 g5 r0 r1 r2 r3 r4 r5 t0 t1 t2 t3 t4 t5 k0 k1 k2 k3 k4 k5 l0 l1 l2 l3 l4 l5
  have HF := Lib.hid (pg_ret HQ.out x y)
  generalize World.setCell _ _ _ = Wf at HF ⊢
  obtain ⟨⟨r0, r1, r2, r3, r4, r5⟩, ⟨t0, t1, t2, t3, t4, t5⟩⟩ := pair_cells HF.out.2.1
  exact bodyPost_ret (v := .tuple #[pairV x y, .bool true]) (by unfold pairV pairC; simp [results, Try.results27, go_sem, r0, r1, r2, r3, r4, r5, t0, t1, t2, t3, t4, t5]) rfl ⟨rfl, HF.out.2.2.2⟩
set_option maxHeartbeats 2000000 in
theorem common_bits (x y : K) (w : World) (h : u y.m = 0) (h1 : ones y.v.toNat ≠ 1) : Calls Try.prog 27 #[pairV x y] w (Gives (.tuple #[pairV x y, .bool true]) w) := by
  have hi := fun W => isConst_yes y W h
  have ho := fun W => ones_call y.v W
  have hn : ¬ (ones y.v.toNat : Int) = 1 := by omega
  generalize (ones y.v.toNat : Int) = n at ho hn
  clear h h1
  unfold numV at hi
  have HP := Lib.hid (pb_new x y w)
  unfold Gives pairV pairC
  unfold pairC at HP
  obtain ⟨W0, hW0⟩ : ∃ W0, ((w.alloc (.cells #[.int .u64 (u x.v), .int .u64 (u x.m), .int .u64 (u x.a), .int .u64 (u x.b), .int .i64 (s x.c), .int .i64 (s x.d), .int .u64 (u y.v), .int .u64 (u y.m), .int .u64 (u y.a), .int .u64 (u y.b), .int .i64 (s y.c), .int .i64 (s y.d)] 38)).alloc (.cells #[.int .u64 0, .int .u64 0, .int .u64 0, .int .u64 0, .int .i64 0, .int .i64 0, .int .u64 0, .int .u64 0, .int .u64 0, .int .u64 0, .int .i64 0, .int .i64 0] 38)) = W0 := ⟨_, rfl⟩
  rw [hW0] at HP
  obtain ⟨⟨p0, p1, p2, p3, p4, p5⟩, ⟨q0, q1, q2, q3, q4, q5⟩⟩ := pair_cells HP.out.1
  obtain ⟨⟨f0, f1, f2, f3, f4, f5⟩, ⟨g0, g1, g2, g3, g4, g5⟩⟩ := pair_free HP.out.1
  obtain ⟨⟨r0, r1, r2, r3, r4, r5⟩, ⟨t0, t1, t2, t3, t4, t5⟩⟩ := pair_cells HP.out.2.1
  obtain ⟨⟨k0, k1, k2, k3, k4, k5⟩, ⟨l0, l1, l2, l3, l4, l5⟩⟩ := pair_free HP.out.2.1
  go_enter Try.func27, Try.ntmps27
  go_wp2_with (first
    | (go_at_call 39; refine (hi _).mono ?_; rintro e w1 ⟨rfl, hb⟩; have HQ := Lib.hid (pg_of (pb_keep HP.out hb)); clear hb; clear p0 p1 p2 p3 p4 p5 q0 q1 q2 q3 q4 q5 f0 f1 f2 f3 f4 f5 g0 g1 g2 g3 g4 g5 r0 r1 r2 r3 r4 r5 t0 t1 t2 t3 t4 t5 k0 k1 k2 k3 k4 k5 l0 l1 l2 l3 l4 l5; obtain ⟨⟨p0, p1, p2, p3, p4, p5⟩, ⟨q0, q1, q2, q3, q4, q5⟩⟩ := pair_cells HQ.out.1; obtain ⟨⟨f0, f1, f2, f3, f4, f5⟩, ⟨g0, g1, g2, g3, g4, g5⟩⟩ := pair_free HQ.out.1; obtain ⟨⟨r0, r1, r2, r3, r4, r5⟩, ⟨t0, t1, t2, t3, t4, t5⟩⟩ := pair_cells HQ.out.2.1; obtain ⟨⟨k0, k1, k2, k3, k4, k5⟩, ⟨l0, l1, l2, l3, l4, l5⟩⟩ := pair_free HQ.out.2.1; have hl := pair_lt HQ.out.2.1)
    | (go_at_call 42; refine (ho _).mono ?_; rintro e w2 ⟨rfl, rfl⟩))
  clear p0 p1 p2 p3 p4 p5 q0 q1 q2 q3 q4 q5 f0 f1 f2 f3 f4 f5 g0 g1 g2 g3 g4 g5 r0 r1 r2 r3 r4 r5 t0 t1 t2 t3 t4 t5 k0 k1 k2 k3 k4 k5 l0 l1 l2 l3 l4 l5
  have HF := Lib.hid (pg_ret HQ.out x y)
  generalize World.setCell _ _ _ = Wf at HF ⊢
  obtain ⟨⟨r0, r1, r2, r3, r4, r5⟩, ⟨t0, t1, t2, t3, t4, t5⟩⟩ := pair_cells HF.out.2.1
  exact bodyPost_ret (v := .tuple #[pairV x y, .bool true]) (by unfold pairV pairC; simp [results, Try.results27, go_sem, r0, r1, r2, r3, r4, r5, t0, t1, t2, t3, t4, t5]) rfl ⟨rfl, HF.out.2.2.2⟩
set_option maxHeartbeats 2000000 in
theorem common_one (x y : K) (w : World) (h : u y.m = 0) (h1 : ones y.v.toNat = 1) : Calls Try.prog 27 #[pairV x y] w (Gives (.tuple #[pairV (metT x y y.v (~~~y.v)).x (metT x y y.v (~~~y.v)).y, .bool (metT x y y.v (~~~y.v)).ok]) w) := by
  have hi := fun W => isConst_yes y W h
  have ho := fun W => ones_call y.v W
  have hn : (ones y.v.toNat : Int) = 1 := by omega
  rw [hn] at ho
  clear hn h1
  have hmt := fun W => met_pair x y y.v (~~~y.v) W
  clear h
  generalize metT x y y.v (~~~y.v) = t at hmt ⊢
  unfold numV at hi
  unfold pairV pairC tnV at hmt
  have HP := Lib.hid (pb_new x y w)
  unfold Gives pairV pairC
  unfold pairC at HP
  obtain ⟨W0, hW0⟩ : ∃ W0, ((w.alloc (.cells #[.int .u64 (u x.v), .int .u64 (u x.m), .int .u64 (u x.a), .int .u64 (u x.b), .int .i64 (s x.c), .int .i64 (s x.d), .int .u64 (u y.v), .int .u64 (u y.m), .int .u64 (u y.a), .int .u64 (u y.b), .int .i64 (s y.c), .int .i64 (s y.d)] 38)).alloc (.cells #[.int .u64 0, .int .u64 0, .int .u64 0, .int .u64 0, .int .i64 0, .int .i64 0, .int .u64 0, .int .u64 0, .int .u64 0, .int .u64 0, .int .i64 0, .int .i64 0] 38)) = W0 := ⟨_, rfl⟩
  rw [hW0] at HP
  obtain ⟨⟨p0, p1, p2, p3, p4, p5⟩, ⟨q0, q1, q2, q3, q4, q5⟩⟩ := pair_cells HP.out.1
  obtain ⟨⟨f0, f1, f2, f3, f4, f5⟩, ⟨g0, g1, g2, g3, g4, g5⟩⟩ := pair_free HP.out.1
  obtain ⟨⟨r0, r1, r2, r3, r4, r5⟩, ⟨t0, t1, t2, t3, t4, t5⟩⟩ := pair_cells HP.out.2.1
  obtain ⟨⟨k0, k1, k2, k3, k4, k5⟩, ⟨l0, l1, l2, l3, l4, l5⟩⟩ := pair_free HP.out.2.1
  go_enter Try.func27, Try.ntmps27
  go_wp2_with (first
    | (go_at_call 39; refine (hi _).mono ?_; rintro e w1 ⟨rfl, hb⟩; have HQ := Lib.hid (pg_of (pb_keep HP.out hb)); clear hb; clear p0 p1 p2 p3 p4 p5 q0 q1 q2 q3 q4 q5 f0 f1 f2 f3 f4 f5 g0 g1 g2 g3 g4 g5 r0 r1 r2 r3 r4 r5 t0 t1 t2 t3 t4 t5 k0 k1 k2 k3 k4 k5 l0 l1 l2 l3 l4 l5; obtain ⟨⟨p0, p1, p2, p3, p4, p5⟩, ⟨q0, q1, q2, q3, q4, q5⟩⟩ := pair_cells HQ.out.1; obtain ⟨⟨f0, f1, f2, f3, f4, f5⟩, ⟨g0, g1, g2, g3, g4, g5⟩⟩ := pair_free HQ.out.1; obtain ⟨⟨r0, r1, r2, r3, r4, r5⟩, ⟨t0, t1, t2, t3, t4, t5⟩⟩ := pair_cells HQ.out.2.1; obtain ⟨⟨k0, k1, k2, k3, k4, k5⟩, ⟨l0, l1, l2, l3, l4, l5⟩⟩ := pair_free HQ.out.2.1; have hl := pair_lt HQ.out.2.1)
    | (go_at_call 42; refine (ho _).mono ?_; rintro e w2 ⟨rfl, rfl⟩)
    | (go_at_call 43; rw [u_com]; refine (hmt _).mono ?_; rintro e w3 ⟨rfl, hb⟩; have HR := Lib.hid (pg_keep HQ.out hb); clear hb; clear p0 p1 p2 p3 p4 p5 q0 q1 q2 q3 q4 q5 f0 f1 f2 f3 f4 f5 g0 g1 g2 g3 g4 g5 r0 r1 r2 r3 r4 r5 t0 t1 t2 t3 t4 t5 k0 k1 k2 k3 k4 k5 l0 l1 l2 l3 l4 l5; obtain ⟨⟨p0, p1, p2, p3, p4, p5⟩, ⟨q0, q1, q2, q3, q4, q5⟩⟩ := pair_cells HR.out.1; obtain ⟨⟨f0, f1, f2, f3, f4, f5⟩, ⟨g0, g1, g2, g3, g4, g5⟩⟩ := pair_free HR.out.1; obtain ⟨⟨r0, r1, r2, r3, r4, r5⟩, ⟨t0, t1, t2, t3, t4, t5⟩⟩ := pair_cells HR.out.2.1; obtain ⟨⟨k0, k1, k2, k3, k4, k5⟩, ⟨l0, l1, l2, l3, l4, l5⟩⟩ := pair_free HR.out.2.1))
  clear p0 p1 p2 p3 p4 p5 q0 q1 q2 q3 q4 q5 f0 f1 f2 f3 f4 f5 g0 g1 g2 g3 g4 g5 r0 r1 r2 r3 r4 r5 t0 t1 t2 t3 t4 t5 k0 k1 k2 k3 k4 k5 l0 l1 l2 l3 l4 l5
  have HF := Lib.hid (pg_ret HR.out t.x t.y)
  generalize World.setCell _ _ _ = Wf at HF ⊢
  obtain ⟨⟨r0, r1, r2, r3, r4, r5⟩, ⟨t0, t1, t2, t3, t4, t5⟩⟩ := pair_cells HF.out.2.1
  exact bodyPost_ret (v := .tuple #[pairV t.x t.y, .bool t.ok]) (by unfold pairV pairC; simp [results, Try.results27, go_sem, r0, r1, r2, r3, r4, r5, t0, t1, t2, t3, t4, t5]) rfl ⟨rfl, HF.out.2.2.2⟩
theorem common_pair (x y : K) (w : World) : Calls Try.prog 27 #[pairV x y] w (Gives (.tuple #[pairV (commonT x y).x (commonT x y).y, .bool (commonT x y).ok]) w) := by
  unfold commonT
  by_cases h : u y.m = 0
  · by_cases h1 : ones y.v.toNat = 1
    · rw [if_pos ⟨h, h1⟩]
      exact common_one x y w h h1
    · rw [if_neg (fun g => h1 g.2)]
      exact common_bits x y w h h1
  · rw [if_neg (fun g => h g.1)]
    exact common_many x y w h
end Go.Proofs.Ytbljijbmjccalaa

/-
  Proved here: what apart of package narrow returns. Conditions: none.
-/
namespace Go.Proofs.Ytbljijbmjccalaa
open Go.RowKit
attribute [local go_sem] u_and u_or u_xor u_andNot u_add u_sub s_conv u_conv max_u min_u max_s min_s u_inc u_less s_inc s_less s_inc64 s_less64
set_option linter.unusedSimpArgs false

set_option maxHeartbeats 2000000 in
theorem apart_many (x y : K) (w : World) (h : u y.m ≠ 0) : Calls Try.prog 28 #[pairV x y] w (Gives (.tuple #[pairV x y, .bool true]) w) := by
  have hi := fun W => isConst_no y W h
  clear h
  unfold numV at hi
  have HP := Lib.hid (pb_new x y w)
  unfold Gives pairV pairC
  unfold pairC at HP
  obtain ⟨W0, hW0⟩ : ∃ W0, ((w.alloc (.cells #[.int .u64 (u x.v), .int .u64 (u x.m), .int .u64 (u x.a), .int .u64 (u x.b), .int .i64 (s x.c), .int .i64 (s x.d), .int .u64 (u y.v), .int .u64 (u y.m), .int .u64 (u y.a), .int .u64 (u y.b), .int .i64 (s y.c), .int .i64 (s y.d)] 38)).alloc (.cells #[.int .u64 0, .int .u64 0, .int .u64 0, .int .u64 0, .int .i64 0, .int .i64 0, .int .u64 0, .int .u64 0, .int .u64 0, .int .u64 0, .int .i64 0, .int .i64 0] 38)) = W0 := ⟨_, rfl⟩
  rw [hW0] at HP
  obtain ⟨⟨p0, p1, p2, p3, p4, p5⟩, ⟨q0, q1, q2, q3, q4, q5⟩⟩ := pair_cells HP.out.1
  obtain ⟨⟨f0, f1, f2, f3, f4, f5⟩, ⟨g0, g1, g2, g3, g4, g5⟩⟩ := pair_free HP.out.1
  obtain ⟨⟨r0, r1, r2, r3, r4, r5⟩, ⟨t0, t1, t2, t3, t4, t5⟩⟩ := pair_cells HP.out.2.1
  obtain ⟨⟨k0, k1, k2, k3, k4, k5⟩, ⟨l0, l1, l2, l3, l4, l5⟩⟩ := pair_free HP.out.2.1
  go_enter Try.func28, Try.ntmps28
  go_wp2_with (go_at_call 39; refine (hi _).mono ?_; rintro e w1 ⟨rfl, hb⟩; have HQ := Lib.hid (pg_of (pb_keep HP.out hb)); clear hb; clear p0 p1 p2 p3 p4 p5 q0 q1 q2 q3 q4 q5 f0 f1 f2 f3 f4 f5 g0 g1 g2 g3 g4 g5 r0 r1 r2 r3 r4 r5 t0 t1 t2 t3 t4 t5 k0 k1 k2 k3 k4 k5 l0 l1 l2 l3 l4 l5; obtain ⟨⟨p0, p1, p2, p3, p4, p5⟩, ⟨q0, q1, q2, q3, q4, q5⟩⟩ := pair_cells HQ.out.1; obtain ⟨⟨f0, f1, f2, f3, f4, f5⟩, ⟨g0, g1, g2, g3, g4, g5⟩⟩ := pair_free HQ.out.1; obtain ⟨⟨r0, r1, r2, r3, r4, r5⟩, ⟨t0, t1, t2, t3, t4, t5⟩⟩ := pair_cells HQ.out.2.1; obtain ⟨⟨k0, k1, k2, k3, k4, k5⟩, ⟨l0, l1, l2, l3, l4, l5⟩⟩ := pair_free HQ.out.2.1; have hl := pair_lt HQ.out.2.1)
  clear p0 p1 p2 p3 p4 p5 q0 q1 q2 q3 q4 q5 f0 f1 f2 f3 f4 f5 g0 g1 g2 g3 g4 g5 r0 r1 r2 r3 r4 r5 t0 t1 t2 t3 t4 t5 k0 k1 k2 k3 k4 k5 l0 l1 l2 l3 l4 l5
  have HF := Lib.hid (pg_ret HQ.out x y)
  generalize World.setCell _ _ _ = Wf at HF ⊢
  obtain ⟨⟨r0, r1, r2, r3, r4, r5⟩, ⟨t0, t1, t2, t3, t4, t5⟩⟩ := pair_cells HF.out.2.1
  exact bodyPost_ret (v := .tuple #[pairV x y, .bool true]) (by unfold pairV pairC; simp [results, Try.results28, go_sem, r0, r1, r2, r3, r4, r5, t0, t1, t2, t3, t4, t5]) rfl ⟨rfl, HF.out.2.2.2⟩
set_option maxHeartbeats 2000000 in
theorem apart_one (x y : K) (w : World) (h : u y.m = 0) : Calls Try.prog 28 #[pairV x y] w (Gives (.tuple #[pairV (metT x y 0#64 (~~~y.v)).x (metT x y 0#64 (~~~y.v)).y, .bool (metT x y 0#64 (~~~y.v)).ok]) w) := by
  have hi := fun W => isConst_yes y W h
  have hmt := fun W => met_pair x y 0#64 (~~~y.v) W
  clear h
  generalize metT x y 0#64 (~~~y.v) = t at hmt ⊢
  unfold numV at hi
  unfold pairV pairC tnV at hmt
  rw [u_0] at hmt
  have HP := Lib.hid (pb_new x y w)
  unfold Gives pairV pairC
  unfold pairC at HP
  obtain ⟨W0, hW0⟩ : ∃ W0, ((w.alloc (.cells #[.int .u64 (u x.v), .int .u64 (u x.m), .int .u64 (u x.a), .int .u64 (u x.b), .int .i64 (s x.c), .int .i64 (s x.d), .int .u64 (u y.v), .int .u64 (u y.m), .int .u64 (u y.a), .int .u64 (u y.b), .int .i64 (s y.c), .int .i64 (s y.d)] 38)).alloc (.cells #[.int .u64 0, .int .u64 0, .int .u64 0, .int .u64 0, .int .i64 0, .int .i64 0, .int .u64 0, .int .u64 0, .int .u64 0, .int .u64 0, .int .i64 0, .int .i64 0] 38)) = W0 := ⟨_, rfl⟩
  rw [hW0] at HP
  obtain ⟨⟨p0, p1, p2, p3, p4, p5⟩, ⟨q0, q1, q2, q3, q4, q5⟩⟩ := pair_cells HP.out.1
  obtain ⟨⟨f0, f1, f2, f3, f4, f5⟩, ⟨g0, g1, g2, g3, g4, g5⟩⟩ := pair_free HP.out.1
  obtain ⟨⟨r0, r1, r2, r3, r4, r5⟩, ⟨t0, t1, t2, t3, t4, t5⟩⟩ := pair_cells HP.out.2.1
  obtain ⟨⟨k0, k1, k2, k3, k4, k5⟩, ⟨l0, l1, l2, l3, l4, l5⟩⟩ := pair_free HP.out.2.1
  go_enter Try.func28, Try.ntmps28
  go_wp2_with (first
    | (go_at_call 39; refine (hi _).mono ?_; rintro e w1 ⟨rfl, hb⟩; have HQ := Lib.hid (pg_of (pb_keep HP.out hb)); clear hb; clear p0 p1 p2 p3 p4 p5 q0 q1 q2 q3 q4 q5 f0 f1 f2 f3 f4 f5 g0 g1 g2 g3 g4 g5 r0 r1 r2 r3 r4 r5 t0 t1 t2 t3 t4 t5 k0 k1 k2 k3 k4 k5 l0 l1 l2 l3 l4 l5; obtain ⟨⟨p0, p1, p2, p3, p4, p5⟩, ⟨q0, q1, q2, q3, q4, q5⟩⟩ := pair_cells HQ.out.1; obtain ⟨⟨f0, f1, f2, f3, f4, f5⟩, ⟨g0, g1, g2, g3, g4, g5⟩⟩ := pair_free HQ.out.1; obtain ⟨⟨r0, r1, r2, r3, r4, r5⟩, ⟨t0, t1, t2, t3, t4, t5⟩⟩ := pair_cells HQ.out.2.1; obtain ⟨⟨k0, k1, k2, k3, k4, k5⟩, ⟨l0, l1, l2, l3, l4, l5⟩⟩ := pair_free HQ.out.2.1; have hl := pair_lt HQ.out.2.1)
    | (go_at_call 43; rw [u_com]; refine (hmt _).mono ?_; rintro e w3 ⟨rfl, hb⟩; have HR := Lib.hid (pg_keep HQ.out hb); clear hb; clear p0 p1 p2 p3 p4 p5 q0 q1 q2 q3 q4 q5 f0 f1 f2 f3 f4 f5 g0 g1 g2 g3 g4 g5 r0 r1 r2 r3 r4 r5 t0 t1 t2 t3 t4 t5 k0 k1 k2 k3 k4 k5 l0 l1 l2 l3 l4 l5; obtain ⟨⟨p0, p1, p2, p3, p4, p5⟩, ⟨q0, q1, q2, q3, q4, q5⟩⟩ := pair_cells HR.out.1; obtain ⟨⟨f0, f1, f2, f3, f4, f5⟩, ⟨g0, g1, g2, g3, g4, g5⟩⟩ := pair_free HR.out.1; obtain ⟨⟨r0, r1, r2, r3, r4, r5⟩, ⟨t0, t1, t2, t3, t4, t5⟩⟩ := pair_cells HR.out.2.1; obtain ⟨⟨k0, k1, k2, k3, k4, k5⟩, ⟨l0, l1, l2, l3, l4, l5⟩⟩ := pair_free HR.out.2.1))
  clear p0 p1 p2 p3 p4 p5 q0 q1 q2 q3 q4 q5 f0 f1 f2 f3 f4 f5 g0 g1 g2 g3 g4 g5 r0 r1 r2 r3 r4 r5 t0 t1 t2 t3 t4 t5 k0 k1 k2 k3 k4 k5 l0 l1 l2 l3 l4 l5
  have HF := Lib.hid (pg_ret HR.out t.x t.y)
  generalize World.setCell _ _ _ = Wf at HF ⊢
  obtain ⟨⟨r0, r1, r2, r3, r4, r5⟩, ⟨t0, t1, t2, t3, t4, t5⟩⟩ := pair_cells HF.out.2.1
  exact bodyPost_ret (v := .tuple #[pairV t.x t.y, .bool t.ok]) (by unfold pairV pairC; simp [results, Try.results28, go_sem, r0, r1, r2, r3, r4, r5, t0, t1, t2, t3, t4, t5]) rfl ⟨rfl, HF.out.2.2.2⟩
theorem apart_pair (x y : K) (w : World) : Calls Try.prog 28 #[pairV x y] w (Gives (.tuple #[pairV (apartT x y).x (apartT x y).y, .bool (apartT x y).ok]) w) := by
  unfold apartT
  by_cases h : u y.m = 0
  · rw [if_pos h]
    exact apart_one x y w h
  · rw [if_neg h]
    exact apart_many x y w h
end Go.Proofs.Ytbljijbmjccalaa
