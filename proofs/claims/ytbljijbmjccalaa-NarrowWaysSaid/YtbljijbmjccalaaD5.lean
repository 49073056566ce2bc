/-
  Proved here: what the document's Way of layer 9 returns, where nothing is told. Conditions: none.
-/
import Derived.Test.YtbljijbmjccalaaD4
import Derived.Test.YtbljijbmjccalaaD2
import Derived.Test.YtbljijbmjccalaaHRefHo5
import Derived.Test.YtbljijbmjccalaaD0
namespace Go.Proofs.Ytbljijbmjccalaa
open Go.RowKit Go.MapKept
attribute [local go_sem] u_and u_or u_xor u_andNot u_add u_sub s_conv u_conv max_u min_u max_s min_s u_inc u_less s_inc s_less s_inc64 s_less64
set_option linter.unusedSimpArgs false

set_option maxRecDepth 100000 in
set_option maxHeartbeats 8000000 in
theorem wyn0 (op : Int) (wide hs : Bool) (x y : K) (w : World) (c : Int) (e1 : op.tdiv 16 = c) (e2 : IntKind.u8.wrap c = c) (g1 : 0 < op.tmod 16) : Calls Try.prog 7 #[.int .u8 op, .bool wide, numV x, numV y, .bool hs] w (Gives (.tuple #[numV x, numV y, .bool true]) w) := by
  have HW := Lib.hid (h4_new x y w)
  unfold Gives numV
  obtain ⟨W0, hW0⟩ : ∃ W0, ((((w.alloc (.cells #[.int .u64 (u x.v), .int .u64 (u x.m), .int .u64 (u x.a), .int .u64 (u x.b), .int .i64 (s x.c), .int .i64 (s x.d)] 26)).alloc (.cells #[.int .u64 (u y.v), .int .u64 (u y.m), .int .u64 (u y.a), .int .u64 (u y.b), .int .i64 (s y.c), .int .i64 (s y.d)] 26)).alloc (.cells #[.int .u64 0, .int .u64 0, .int .u64 0, .int .u64 0, .int .i64 0, .int .i64 0] 26)).alloc (.cells #[.int .u64 0, .int .u64 0, .int .u64 0, .int .u64 0, .int .i64 0, .int .i64 0] 26)) = W0 := ⟨_, rfl⟩
  rw [hW0] at HW
  obtain ⟨a0, a1, a2, a3, a4, a5⟩ := num_cells HW.out.1.1
  obtain ⟨b0, b1, b2, b3, b4, b5⟩ := num_cells HW.out.1.2
  obtain ⟨r0, r1, r2, r3, r4, r5⟩ := num_cells HW.out.2.1.1
  obtain ⟨t0, t1, t2, t3, t4, t5⟩ := num_cells HW.out.2.1.2
  obtain ⟨k0, k1, k2, k3, k4, k5⟩ := num_free HW.out.2.1.1
  obtain ⟨l0, l1, l2, l3, l4, l5⟩ := num_free HW.out.2.1.2
  go_enter Try.func7, Try.ntmps7
  go_wp2_with fail
  go_region
  all_goals
    first
      | (have HF := Lib.hid (h4_told (HW.out) (x) (y)); generalize World.setCell _ _ _ = Wf at HF ⊢; obtain ⟨Wg, hWg⟩ : ∃ Wg, Wf = Wg := ⟨_, rfl⟩; rw [hWg] at HF ⊢; clear hWg; obtain ⟨z0, z1, z2, z3, z4, z5⟩ := num_cells HF.out.1; obtain ⟨e0, e1, e2, e3, e4, e5⟩ := num_cells HF.out.2.1; go_wp2_with fail; exact bodyPost_ret (v := .tuple #[numV (x), numV (y), .bool true]) (by unfold numV; simp [results, Try.results7, go_sem, z0, z1, z2, z3, z4, z5, e0, e1, e2, e3, e4, e5]) rfl ⟨rfl, HF.out.2.2.drew⟩)
      | (have HF := Lib.hid (h4_told2 (HW.out) (x) (y)); generalize World.setCell _ _ _ = Wf at HF ⊢; obtain ⟨Wg, hWg⟩ : ∃ Wg, Wf = Wg := ⟨_, rfl⟩; rw [hWg] at HF ⊢; clear hWg; obtain ⟨z0, z1, z2, z3, z4, z5⟩ := num_cells HF.out.1; obtain ⟨e0, e1, e2, e3, e4, e5⟩ := num_cells HF.out.2.1; go_wp2_with fail; exact bodyPost_ret (v := .tuple #[numV (x), numV (y), .bool true]) (by unfold numV; simp [results, Try.results7, go_sem, z0, z1, z2, z3, z4, z5, e0, e1, e2, e3, e4, e5]) rfl ⟨rfl, HF.out.2.2.drew⟩)
set_option maxRecDepth 100000 in
set_option maxHeartbeats 8000000 in
theorem wyn1 (op : Int) (wide hs : Bool) (x y : K) (w : World) (c : Int) (e1 : op.tdiv 16 = c) (e2 : IntKind.u8.wrap c = c) (g1 : ¬ 0 < op.tmod 16) (g2 : c < 1) : Calls Try.prog 7 #[.int .u8 op, .bool wide, numV x, numV y, .bool hs] w (Gives (.tuple #[numV x, numV y, .bool true]) w) := by
  have HW := Lib.hid (h4_new x y w)
  unfold Gives numV
  obtain ⟨W0, hW0⟩ : ∃ W0, ((((w.alloc (.cells #[.int .u64 (u x.v), .int .u64 (u x.m), .int .u64 (u x.a), .int .u64 (u x.b), .int .i64 (s x.c), .int .i64 (s x.d)] 26)).alloc (.cells #[.int .u64 (u y.v), .int .u64 (u y.m), .int .u64 (u y.a), .int .u64 (u y.b), .int .i64 (s y.c), .int .i64 (s y.d)] 26)).alloc (.cells #[.int .u64 0, .int .u64 0, .int .u64 0, .int .u64 0, .int .i64 0, .int .i64 0] 26)).alloc (.cells #[.int .u64 0, .int .u64 0, .int .u64 0, .int .u64 0, .int .i64 0, .int .i64 0] 26)) = W0 := ⟨_, rfl⟩
  rw [hW0] at HW
  obtain ⟨a0, a1, a2, a3, a4, a5⟩ := num_cells HW.out.1.1
  obtain ⟨b0, b1, b2, b3, b4, b5⟩ := num_cells HW.out.1.2
  obtain ⟨r0, r1, r2, r3, r4, r5⟩ := num_cells HW.out.2.1.1
  obtain ⟨t0, t1, t2, t3, t4, t5⟩ := num_cells HW.out.2.1.2
  obtain ⟨k0, k1, k2, k3, k4, k5⟩ := num_free HW.out.2.1.1
  obtain ⟨l0, l1, l2, l3, l4, l5⟩ := num_free HW.out.2.1.2
  go_enter Try.func7, Try.ntmps7
  go_wp2_with fail
  go_region
  all_goals
    first
      | (have HF := Lib.hid (h4_told (HW.out) (x) (y)); generalize World.setCell _ _ _ = Wf at HF ⊢; obtain ⟨Wg, hWg⟩ : ∃ Wg, Wf = Wg := ⟨_, rfl⟩; rw [hWg] at HF ⊢; clear hWg; obtain ⟨z0, z1, z2, z3, z4, z5⟩ := num_cells HF.out.1; obtain ⟨e0, e1, e2, e3, e4, e5⟩ := num_cells HF.out.2.1; go_wp2_with fail; exact bodyPost_ret (v := .tuple #[numV (x), numV (y), .bool true]) (by unfold numV; simp [results, Try.results7, go_sem, z0, z1, z2, z3, z4, z5, e0, e1, e2, e3, e4, e5]) rfl ⟨rfl, HF.out.2.2.drew⟩)
      | (have HF := Lib.hid (h4_told2 (HW.out) (x) (y)); generalize World.setCell _ _ _ = Wf at HF ⊢; obtain ⟨Wg, hWg⟩ : ∃ Wg, Wf = Wg := ⟨_, rfl⟩; rw [hWg] at HF ⊢; clear hWg; obtain ⟨z0, z1, z2, z3, z4, z5⟩ := num_cells HF.out.1; obtain ⟨e0, e1, e2, e3, e4, e5⟩ := num_cells HF.out.2.1; go_wp2_with fail; exact bodyPost_ret (v := .tuple #[numV (x), numV (y), .bool true]) (by unfold numV; simp [results, Try.results7, go_sem, z0, z1, z2, z3, z4, z5, e0, e1, e2, e3, e4, e5]) rfl ⟨rfl, HF.out.2.2.drew⟩)
set_option maxRecDepth 100000 in
set_option maxHeartbeats 8000000 in
theorem wyn2 (op : Int) (wide hs : Bool) (x y : K) (w : World) (c : Int) (e1 : op.tdiv 16 = c) (e2 : IntKind.u8.wrap c = c) (g1 : ¬ 0 < op.tmod 16) (g2 : ¬ c < 1) (g3 : 13 < c) : Calls Try.prog 7 #[.int .u8 op, .bool wide, numV x, numV y, .bool hs] w (Gives (.tuple #[numV x, numV y, .bool true]) w) := by
  have HW := Lib.hid (h4_new x y w)
  unfold Gives numV
  obtain ⟨W0, hW0⟩ : ∃ W0, ((((w.alloc (.cells #[.int .u64 (u x.v), .int .u64 (u x.m), .int .u64 (u x.a), .int .u64 (u x.b), .int .i64 (s x.c), .int .i64 (s x.d)] 26)).alloc (.cells #[.int .u64 (u y.v), .int .u64 (u y.m), .int .u64 (u y.a), .int .u64 (u y.b), .int .i64 (s y.c), .int .i64 (s y.d)] 26)).alloc (.cells #[.int .u64 0, .int .u64 0, .int .u64 0, .int .u64 0, .int .i64 0, .int .i64 0] 26)).alloc (.cells #[.int .u64 0, .int .u64 0, .int .u64 0, .int .u64 0, .int .i64 0, .int .i64 0] 26)) = W0 := ⟨_, rfl⟩
  rw [hW0] at HW
  obtain ⟨a0, a1, a2, a3, a4, a5⟩ := num_cells HW.out.1.1
  obtain ⟨b0, b1, b2, b3, b4, b5⟩ := num_cells HW.out.1.2
  obtain ⟨r0, r1, r2, r3, r4, r5⟩ := num_cells HW.out.2.1.1
  obtain ⟨t0, t1, t2, t3, t4, t5⟩ := num_cells HW.out.2.1.2
  obtain ⟨k0, k1, k2, k3, k4, k5⟩ := num_free HW.out.2.1.1
  obtain ⟨l0, l1, l2, l3, l4, l5⟩ := num_free HW.out.2.1.2
  go_enter Try.func7, Try.ntmps7
  go_wp2_with fail
  go_region
  all_goals
    first
      | (have HF := Lib.hid (h4_told (HW.out) (x) (y)); generalize World.setCell _ _ _ = Wf at HF ⊢; obtain ⟨Wg, hWg⟩ : ∃ Wg, Wf = Wg := ⟨_, rfl⟩; rw [hWg] at HF ⊢; clear hWg; obtain ⟨z0, z1, z2, z3, z4, z5⟩ := num_cells HF.out.1; obtain ⟨e0, e1, e2, e3, e4, e5⟩ := num_cells HF.out.2.1; go_wp2_with fail; exact bodyPost_ret (v := .tuple #[numV (x), numV (y), .bool true]) (by unfold numV; simp [results, Try.results7, go_sem, z0, z1, z2, z3, z4, z5, e0, e1, e2, e3, e4, e5]) rfl ⟨rfl, HF.out.2.2.drew⟩)
      | (have HF := Lib.hid (h4_told2 (HW.out) (x) (y)); generalize World.setCell _ _ _ = Wf at HF ⊢; obtain ⟨Wg, hWg⟩ : ∃ Wg, Wf = Wg := ⟨_, rfl⟩; rw [hWg] at HF ⊢; clear hWg; obtain ⟨z0, z1, z2, z3, z4, z5⟩ := num_cells HF.out.1; obtain ⟨e0, e1, e2, e3, e4, e5⟩ := num_cells HF.out.2.1; go_wp2_with fail; exact bodyPost_ret (v := .tuple #[numV (x), numV (y), .bool true]) (by unfold numV; simp [results, Try.results7, go_sem, z0, z1, z2, z3, z4, z5, e0, e1, e2, e3, e4, e5]) rfl ⟨rfl, HF.out.2.2.drew⟩)
set_option maxRecDepth 100000 in
set_option maxHeartbeats 8000000 in
theorem wyn3 (op : Int) (wide hs : Bool) (x y : K) (w : World) (c : Int) (e1 : op.tdiv 16 = c) (e2 : IntKind.u8.wrap c = c) (g1 : ¬ 0 < op.tmod 16) (g2 : ¬ c < 1) (g3 : ¬ 13 < c) (g4 : c = 8) : Calls Try.prog 7 #[.int .u8 op, .bool wide, numV x, numV y, .bool hs] w (Gives (.tuple #[numV x, numV y, .bool true]) w) := by
  subst g4
  have HW := Lib.hid (h4_new x y w)
  unfold Gives numV
  obtain ⟨W0, hW0⟩ : ∃ W0, ((((w.alloc (.cells #[.int .u64 (u x.v), .int .u64 (u x.m), .int .u64 (u x.a), .int .u64 (u x.b), .int .i64 (s x.c), .int .i64 (s x.d)] 26)).alloc (.cells #[.int .u64 (u y.v), .int .u64 (u y.m), .int .u64 (u y.a), .int .u64 (u y.b), .int .i64 (s y.c), .int .i64 (s y.d)] 26)).alloc (.cells #[.int .u64 0, .int .u64 0, .int .u64 0, .int .u64 0, .int .i64 0, .int .i64 0] 26)).alloc (.cells #[.int .u64 0, .int .u64 0, .int .u64 0, .int .u64 0, .int .i64 0, .int .i64 0] 26)) = W0 := ⟨_, rfl⟩
  rw [hW0] at HW
  obtain ⟨a0, a1, a2, a3, a4, a5⟩ := num_cells HW.out.1.1
  obtain ⟨b0, b1, b2, b3, b4, b5⟩ := num_cells HW.out.1.2
  obtain ⟨r0, r1, r2, r3, r4, r5⟩ := num_cells HW.out.2.1.1
  obtain ⟨t0, t1, t2, t3, t4, t5⟩ := num_cells HW.out.2.1.2
  obtain ⟨k0, k1, k2, k3, k4, k5⟩ := num_free HW.out.2.1.1
  obtain ⟨l0, l1, l2, l3, l4, l5⟩ := num_free HW.out.2.1.2
  go_enter Try.func7, Try.ntmps7
  go_wp2_with fail
  go_region
  all_goals
    first
      | (have HF := Lib.hid (h4_told (HW.out) (x) (y)); generalize World.setCell _ _ _ = Wf at HF ⊢; obtain ⟨Wg, hWg⟩ : ∃ Wg, Wf = Wg := ⟨_, rfl⟩; rw [hWg] at HF ⊢; clear hWg; obtain ⟨z0, z1, z2, z3, z4, z5⟩ := num_cells HF.out.1; obtain ⟨e0, e1, e2, e3, e4, e5⟩ := num_cells HF.out.2.1; go_wp2_with fail; exact bodyPost_ret (v := .tuple #[numV (x), numV (y), .bool true]) (by unfold numV; simp [results, Try.results7, go_sem, z0, z1, z2, z3, z4, z5, e0, e1, e2, e3, e4, e5]) rfl ⟨rfl, HF.out.2.2.drew⟩)
      | (have HF := Lib.hid (h4_told2 (HW.out) (x) (y)); generalize World.setCell _ _ _ = Wf at HF ⊢; obtain ⟨Wg, hWg⟩ : ∃ Wg, Wf = Wg := ⟨_, rfl⟩; rw [hWg] at HF ⊢; clear hWg; obtain ⟨z0, z1, z2, z3, z4, z5⟩ := num_cells HF.out.1; obtain ⟨e0, e1, e2, e3, e4, e5⟩ := num_cells HF.out.2.1; go_wp2_with fail; exact bodyPost_ret (v := .tuple #[numV (x), numV (y), .bool true]) (by unfold numV; simp [results, Try.results7, go_sem, z0, z1, z2, z3, z4, z5, e0, e1, e2, e3, e4, e5]) rfl ⟨rfl, HF.out.2.2.drew⟩)
set_option maxRecDepth 100000 in
set_option maxHeartbeats 8000000 in
theorem wyn4 (op : Int) (wide hs : Bool) (x y : K) (w : World) (c : Int) (e1 : op.tdiv 16 = c) (e2 : IntKind.u8.wrap c = c) (g1 : ¬ 0 < op.tmod 16) (g2 : ¬ c < 1) (g3 : ¬ 13 < c) (g4 : ¬ c = 8) (g5 : c = 9) : Calls Try.prog 7 #[.int .u8 op, .bool wide, numV x, numV y, .bool hs] w (Gives (.tuple #[numV x, numV y, .bool true]) w) := by
  subst g5
  have HW := Lib.hid (h4_new x y w)
  unfold Gives numV
  obtain ⟨W0, hW0⟩ : ∃ W0, ((((w.alloc (.cells #[.int .u64 (u x.v), .int .u64 (u x.m), .int .u64 (u x.a), .int .u64 (u x.b), .int .i64 (s x.c), .int .i64 (s x.d)] 26)).alloc (.cells #[.int .u64 (u y.v), .int .u64 (u y.m), .int .u64 (u y.a), .int .u64 (u y.b), .int .i64 (s y.c), .int .i64 (s y.d)] 26)).alloc (.cells #[.int .u64 0, .int .u64 0, .int .u64 0, .int .u64 0, .int .i64 0, .int .i64 0] 26)).alloc (.cells #[.int .u64 0, .int .u64 0, .int .u64 0, .int .u64 0, .int .i64 0, .int .i64 0] 26)) = W0 := ⟨_, rfl⟩
  rw [hW0] at HW
  obtain ⟨a0, a1, a2, a3, a4, a5⟩ := num_cells HW.out.1.1
  obtain ⟨b0, b1, b2, b3, b4, b5⟩ := num_cells HW.out.1.2
  obtain ⟨r0, r1, r2, r3, r4, r5⟩ := num_cells HW.out.2.1.1
  obtain ⟨t0, t1, t2, t3, t4, t5⟩ := num_cells HW.out.2.1.2
  obtain ⟨k0, k1, k2, k3, k4, k5⟩ := num_free HW.out.2.1.1
  obtain ⟨l0, l1, l2, l3, l4, l5⟩ := num_free HW.out.2.1.2
  go_enter Try.func7, Try.ntmps7
  go_wp2_with fail
  go_region
  all_goals
    first
      | (have HF := Lib.hid (h4_told (HW.out) (x) (y)); generalize World.setCell _ _ _ = Wf at HF ⊢; obtain ⟨Wg, hWg⟩ : ∃ Wg, Wf = Wg := ⟨_, rfl⟩; rw [hWg] at HF ⊢; clear hWg; obtain ⟨z0, z1, z2, z3, z4, z5⟩ := num_cells HF.out.1; obtain ⟨e0, e1, e2, e3, e4, e5⟩ := num_cells HF.out.2.1; go_wp2_with fail; exact bodyPost_ret (v := .tuple #[numV (x), numV (y), .bool true]) (by unfold numV; simp [results, Try.results7, go_sem, z0, z1, z2, z3, z4, z5, e0, e1, e2, e3, e4, e5]) rfl ⟨rfl, HF.out.2.2.drew⟩)
      | (have HF := Lib.hid (h4_told2 (HW.out) (x) (y)); generalize World.setCell _ _ _ = Wf at HF ⊢; obtain ⟨Wg, hWg⟩ : ∃ Wg, Wf = Wg := ⟨_, rfl⟩; rw [hWg] at HF ⊢; clear hWg; obtain ⟨z0, z1, z2, z3, z4, z5⟩ := num_cells HF.out.1; obtain ⟨e0, e1, e2, e3, e4, e5⟩ := num_cells HF.out.2.1; go_wp2_with fail; exact bodyPost_ret (v := .tuple #[numV (x), numV (y), .bool true]) (by unfold numV; simp [results, Try.results7, go_sem, z0, z1, z2, z3, z4, z5, e0, e1, e2, e3, e4, e5]) rfl ⟨rfl, HF.out.2.2.drew⟩)
theorem wy_none (op : Int) (wide hs : Bool) (x y : K) (w : World) (h0 : 0 ≤ op) (h1 : op ≤ 255) (h : isCond op = false) : Calls Try.prog 7 #[.int .u8 op, .bool wide, numV x, numV y, .bool hs] w (Gives (.tuple #[numV x, numV y, .bool true]) w) := by
  obtain ⟨c, e1⟩ : ∃ c, op.tdiv 16 = c := ⟨_, rfl⟩
  obtain ⟨m, em⟩ : ∃ m, op.tmod 16 = m := ⟨_, rfl⟩
  have hd : op.tdiv 16 = op / 16 := Int.tdiv_eq_ediv_of_nonneg h0
  have hm : op.tmod 16 = op % 16 := Int.tmod_eq_emod_of_nonneg h0
  have e2 : IntKind.u8.wrap c = c := by simp [IntKind.wrap, IntKind.bits, IntKind.signed]; omega
  by_cases g1 : 0 < op.tmod 16
  · exact wyn0 op wide hs x y w c e1 e2 g1
  by_cases g2 : c < 1
  · exact wyn1 op wide hs x y w c e1 e2 g1 g2
  by_cases g3 : 13 < c
  · exact wyn2 op wide hs x y w c e1 e2 g1 g2 g3
  by_cases g4 : c = 8
  · exact wyn3 op wide hs x y w c e1 e2 g1 g2 g3 g4
  by_cases g5 : c = 9
  · exact wyn4 op wide hs x y w c e1 e2 g1 g2 g3 g4 g5
  exfalso
  unfold isCond at h
  simp only [Bool.or_eq_false_iff, beq_eq_false_iff_ne] at h
  omega
set_option maxRecDepth 100000 in
set_option maxHeartbeats 8000000 in
theorem wy16_hi1 (hs : Bool) (x y : K) (w : World) (h1 : decide (4294967295 < u x.b) = true) : Calls Try.prog 7 #[.int .u8 16, .bool false, numV x, numV y, .bool hs] w (Gives (.tuple #[numV x, numV y, .bool true]) w) := by
  have HW := Lib.hid (h4_new x y w)
  unfold Gives numV
  obtain ⟨W0, hW0⟩ : ∃ W0, ((((w.alloc (.cells #[.int .u64 (u x.v), .int .u64 (u x.m), .int .u64 (u x.a), .int .u64 (u x.b), .int .i64 (s x.c), .int .i64 (s x.d)] 26)).alloc (.cells #[.int .u64 (u y.v), .int .u64 (u y.m), .int .u64 (u y.a), .int .u64 (u y.b), .int .i64 (s y.c), .int .i64 (s y.d)] 26)).alloc (.cells #[.int .u64 0, .int .u64 0, .int .u64 0, .int .u64 0, .int .i64 0, .int .i64 0] 26)).alloc (.cells #[.int .u64 0, .int .u64 0, .int .u64 0, .int .u64 0, .int .i64 0, .int .i64 0] 26)) = W0 := ⟨_, rfl⟩
  rw [hW0] at HW
  obtain ⟨a0, a1, a2, a3, a4, a5⟩ := num_cells HW.out.1.1
  obtain ⟨b0, b1, b2, b3, b4, b5⟩ := num_cells HW.out.1.2
  obtain ⟨r0, r1, r2, r3, r4, r5⟩ := num_cells HW.out.2.1.1
  obtain ⟨t0, t1, t2, t3, t4, t5⟩ := num_cells HW.out.2.1.2
  obtain ⟨k0, k1, k2, k3, k4, k5⟩ := num_free HW.out.2.1.1
  obtain ⟨l0, l1, l2, l3, l4, l5⟩ := num_free HW.out.2.1.2
  go_enter Try.func7, Try.ntmps7
  go_wp2_with fail
  go_region
  all_goals
    first
      | (have HF := Lib.hid (h4_told (HW.out) (x) (y)); generalize World.setCell _ _ _ = Wf at HF ⊢; obtain ⟨Wg, hWg⟩ : ∃ Wg, Wf = Wg := ⟨_, rfl⟩; rw [hWg] at HF ⊢; clear hWg; obtain ⟨z0, z1, z2, z3, z4, z5⟩ := num_cells HF.out.1; obtain ⟨e0, e1, e2, e3, e4, e5⟩ := num_cells HF.out.2.1; go_wp2_with fail; exact bodyPost_ret (v := .tuple #[numV (x), numV (y), .bool true]) (by unfold numV; simp [results, Try.results7, go_sem, z0, z1, z2, z3, z4, z5, e0, e1, e2, e3, e4, e5]) rfl ⟨rfl, HF.out.2.2.drew⟩)
      | (have HF := Lib.hid (h4_told2 (HW.out) (x) (y)); generalize World.setCell _ _ _ = Wf at HF ⊢; obtain ⟨Wg, hWg⟩ : ∃ Wg, Wf = Wg := ⟨_, rfl⟩; rw [hWg] at HF ⊢; clear hWg; obtain ⟨z0, z1, z2, z3, z4, z5⟩ := num_cells HF.out.1; obtain ⟨e0, e1, e2, e3, e4, e5⟩ := num_cells HF.out.2.1; go_wp2_with fail; exact bodyPost_ret (v := .tuple #[numV (x), numV (y), .bool true]) (by unfold numV; simp [results, Try.results7, go_sem, z0, z1, z2, z3, z4, z5, e0, e1, e2, e3, e4, e5]) rfl ⟨rfl, HF.out.2.2.drew⟩)
set_option maxRecDepth 100000 in
set_option maxHeartbeats 8000000 in
theorem wy16_hi2 (hs : Bool) (x y : K) (w : World) (h1 : decide (4294967295 < u x.b) = false) (h2 : decide (4294967295 < u y.b) = true) : Calls Try.prog 7 #[.int .u8 16, .bool false, numV x, numV y, .bool hs] w (Gives (.tuple #[numV x, numV y, .bool true]) w) := by
  have HW := Lib.hid (h4_new x y w)
  unfold Gives numV
  obtain ⟨W0, hW0⟩ : ∃ W0, ((((w.alloc (.cells #[.int .u64 (u x.v), .int .u64 (u x.m), .int .u64 (u x.a), .int .u64 (u x.b), .int .i64 (s x.c), .int .i64 (s x.d)] 26)).alloc (.cells #[.int .u64 (u y.v), .int .u64 (u y.m), .int .u64 (u y.a), .int .u64 (u y.b), .int .i64 (s y.c), .int .i64 (s y.d)] 26)).alloc (.cells #[.int .u64 0, .int .u64 0, .int .u64 0, .int .u64 0, .int .i64 0, .int .i64 0] 26)).alloc (.cells #[.int .u64 0, .int .u64 0, .int .u64 0, .int .u64 0, .int .i64 0, .int .i64 0] 26)) = W0 := ⟨_, rfl⟩
  rw [hW0] at HW
  obtain ⟨a0, a1, a2, a3, a4, a5⟩ := num_cells HW.out.1.1
  obtain ⟨b0, b1, b2, b3, b4, b5⟩ := num_cells HW.out.1.2
  obtain ⟨r0, r1, r2, r3, r4, r5⟩ := num_cells HW.out.2.1.1
  obtain ⟨t0, t1, t2, t3, t4, t5⟩ := num_cells HW.out.2.1.2
  obtain ⟨k0, k1, k2, k3, k4, k5⟩ := num_free HW.out.2.1.1
  obtain ⟨l0, l1, l2, l3, l4, l5⟩ := num_free HW.out.2.1.2
  go_enter Try.func7, Try.ntmps7
  go_wp2_with fail
  go_region
  all_goals
    first
      | (have HF := Lib.hid (h4_told (HW.out) (x) (y)); generalize World.setCell _ _ _ = Wf at HF ⊢; obtain ⟨Wg, hWg⟩ : ∃ Wg, Wf = Wg := ⟨_, rfl⟩; rw [hWg] at HF ⊢; clear hWg; obtain ⟨z0, z1, z2, z3, z4, z5⟩ := num_cells HF.out.1; obtain ⟨e0, e1, e2, e3, e4, e5⟩ := num_cells HF.out.2.1; go_wp2_with fail; exact bodyPost_ret (v := .tuple #[numV (x), numV (y), .bool true]) (by unfold numV; simp [results, Try.results7, go_sem, z0, z1, z2, z3, z4, z5, e0, e1, e2, e3, e4, e5]) rfl ⟨rfl, HF.out.2.2.drew⟩)
      | (have HF := Lib.hid (h4_told2 (HW.out) (x) (y)); generalize World.setCell _ _ _ = Wf at HF ⊢; obtain ⟨Wg, hWg⟩ : ∃ Wg, Wf = Wg := ⟨_, rfl⟩; rw [hWg] at HF ⊢; clear hWg; obtain ⟨z0, z1, z2, z3, z4, z5⟩ := num_cells HF.out.1; obtain ⟨e0, e1, e2, e3, e4, e5⟩ := num_cells HF.out.2.1; go_wp2_with fail; exact bodyPost_ret (v := .tuple #[numV (x), numV (y), .bool true]) (by unfold numV; simp [results, Try.results7, go_sem, z0, z1, z2, z3, z4, z5, e0, e1, e2, e3, e4, e5]) rfl ⟨rfl, HF.out.2.2.drew⟩)
set_option maxRecDepth 100000 in
set_option maxHeartbeats 8000000 in
theorem wy80_hi1 (hs : Bool) (x y : K) (w : World) (h1 : decide (4294967295 < u x.b) = true) : Calls Try.prog 7 #[.int .u8 80, .bool false, numV x, numV y, .bool hs] w (Gives (.tuple #[numV x, numV y, .bool true]) w) := by
  have HW := Lib.hid (h4_new x y w)
  unfold Gives numV
  obtain ⟨W0, hW0⟩ : ∃ W0, ((((w.alloc (.cells #[.int .u64 (u x.v), .int .u64 (u x.m), .int .u64 (u x.a), .int .u64 (u x.b), .int .i64 (s x.c), .int .i64 (s x.d)] 26)).alloc (.cells #[.int .u64 (u y.v), .int .u64 (u y.m), .int .u64 (u y.a), .int .u64 (u y.b), .int .i64 (s y.c), .int .i64 (s y.d)] 26)).alloc (.cells #[.int .u64 0, .int .u64 0, .int .u64 0, .int .u64 0, .int .i64 0, .int .i64 0] 26)).alloc (.cells #[.int .u64 0, .int .u64 0, .int .u64 0, .int .u64 0, .int .i64 0, .int .i64 0] 26)) = W0 := ⟨_, rfl⟩
  rw [hW0] at HW
  obtain ⟨a0, a1, a2, a3, a4, a5⟩ := num_cells HW.out.1.1
  obtain ⟨b0, b1, b2, b3, b4, b5⟩ := num_cells HW.out.1.2
  obtain ⟨r0, r1, r2, r3, r4, r5⟩ := num_cells HW.out.2.1.1
  obtain ⟨t0, t1, t2, t3, t4, t5⟩ := num_cells HW.out.2.1.2
  obtain ⟨k0, k1, k2, k3, k4, k5⟩ := num_free HW.out.2.1.1
  obtain ⟨l0, l1, l2, l3, l4, l5⟩ := num_free HW.out.2.1.2
  go_enter Try.func7, Try.ntmps7
  go_wp2_with fail
  go_region
  all_goals
    first
      | (have HF := Lib.hid (h4_told (HW.out) (x) (y)); generalize World.setCell _ _ _ = Wf at HF ⊢; obtain ⟨Wg, hWg⟩ : ∃ Wg, Wf = Wg := ⟨_, rfl⟩; rw [hWg] at HF ⊢; clear hWg; obtain ⟨z0, z1, z2, z3, z4, z5⟩ := num_cells HF.out.1; obtain ⟨e0, e1, e2, e3, e4, e5⟩ := num_cells HF.out.2.1; go_wp2_with fail; exact bodyPost_ret (v := .tuple #[numV (x), numV (y), .bool true]) (by unfold numV; simp [results, Try.results7, go_sem, z0, z1, z2, z3, z4, z5, e0, e1, e2, e3, e4, e5]) rfl ⟨rfl, HF.out.2.2.drew⟩)
      | (have HF := Lib.hid (h4_told2 (HW.out) (x) (y)); generalize World.setCell _ _ _ = Wf at HF ⊢; obtain ⟨Wg, hWg⟩ : ∃ Wg, Wf = Wg := ⟨_, rfl⟩; rw [hWg] at HF ⊢; clear hWg; obtain ⟨z0, z1, z2, z3, z4, z5⟩ := num_cells HF.out.1; obtain ⟨e0, e1, e2, e3, e4, e5⟩ := num_cells HF.out.2.1; go_wp2_with fail; exact bodyPost_ret (v := .tuple #[numV (x), numV (y), .bool true]) (by unfold numV; simp [results, Try.results7, go_sem, z0, z1, z2, z3, z4, z5, e0, e1, e2, e3, e4, e5]) rfl ⟨rfl, HF.out.2.2.drew⟩)
set_option maxRecDepth 100000 in
set_option maxHeartbeats 8000000 in
theorem wy80_hi2 (hs : Bool) (x y : K) (w : World) (h1 : decide (4294967295 < u x.b) = false) (h2 : decide (4294967295 < u y.b) = true) : Calls Try.prog 7 #[.int .u8 80, .bool false, numV x, numV y, .bool hs] w (Gives (.tuple #[numV x, numV y, .bool true]) w) := by
  have HW := Lib.hid (h4_new x y w)
  unfold Gives numV
  obtain ⟨W0, hW0⟩ : ∃ W0, ((((w.alloc (.cells #[.int .u64 (u x.v), .int .u64 (u x.m), .int .u64 (u x.a), .int .u64 (u x.b), .int .i64 (s x.c), .int .i64 (s x.d)] 26)).alloc (.cells #[.int .u64 (u y.v), .int .u64 (u y.m), .int .u64 (u y.a), .int .u64 (u y.b), .int .i64 (s y.c), .int .i64 (s y.d)] 26)).alloc (.cells #[.int .u64 0, .int .u64 0, .int .u64 0, .int .u64 0, .int .i64 0, .int .i64 0] 26)).alloc (.cells #[.int .u64 0, .int .u64 0, .int .u64 0, .int .u64 0, .int .i64 0, .int .i64 0] 26)) = W0 := ⟨_, rfl⟩
  rw [hW0] at HW
  obtain ⟨a0, a1, a2, a3, a4, a5⟩ := num_cells HW.out.1.1
  obtain ⟨b0, b1, b2, b3, b4, b5⟩ := num_cells HW.out.1.2
  obtain ⟨r0, r1, r2, r3, r4, r5⟩ := num_cells HW.out.2.1.1
  obtain ⟨t0, t1, t2, t3, t4, t5⟩ := num_cells HW.out.2.1.2
  obtain ⟨k0, k1, k2, k3, k4, k5⟩ := num_free HW.out.2.1.1
  obtain ⟨l0, l1, l2, l3, l4, l5⟩ := num_free HW.out.2.1.2
  go_enter Try.func7, Try.ntmps7
  go_wp2_with fail
  go_region
  all_goals
    first
      | (have HF := Lib.hid (h4_told (HW.out) (x) (y)); generalize World.setCell _ _ _ = Wf at HF ⊢; obtain ⟨Wg, hWg⟩ : ∃ Wg, Wf = Wg := ⟨_, rfl⟩; rw [hWg] at HF ⊢; clear hWg; obtain ⟨z0, z1, z2, z3, z4, z5⟩ := num_cells HF.out.1; obtain ⟨e0, e1, e2, e3, e4, e5⟩ := num_cells HF.out.2.1; go_wp2_with fail; exact bodyPost_ret (v := .tuple #[numV (x), numV (y), .bool true]) (by unfold numV; simp [results, Try.results7, go_sem, z0, z1, z2, z3, z4, z5, e0, e1, e2, e3, e4, e5]) rfl ⟨rfl, HF.out.2.2.drew⟩)
      | (have HF := Lib.hid (h4_told2 (HW.out) (x) (y)); generalize World.setCell _ _ _ = Wf at HF ⊢; obtain ⟨Wg, hWg⟩ : ∃ Wg, Wf = Wg := ⟨_, rfl⟩; rw [hWg] at HF ⊢; clear hWg; obtain ⟨z0, z1, z2, z3, z4, z5⟩ := num_cells HF.out.1; obtain ⟨e0, e1, e2, e3, e4, e5⟩ := num_cells HF.out.2.1; go_wp2_with fail; exact bodyPost_ret (v := .tuple #[numV (x), numV (y), .bool true]) (by unfold numV; simp [results, Try.results7, go_sem, z0, z1, z2, z3, z4, z5, e0, e1, e2, e3, e4, e5]) rfl ⟨rfl, HF.out.2.2.drew⟩)
set_option maxRecDepth 100000 in
set_option maxHeartbeats 8000000 in
theorem wy32_hi1 (hs : Bool) (x y : K) (w : World) (h1 : decide (4294967295 < u x.b) = true) : Calls Try.prog 7 #[.int .u8 32, .bool false, numV x, numV y, .bool hs] w (Gives (.tuple #[numV x, numV y, .bool true]) w) := by
  have HW := Lib.hid (h4_new x y w)
  unfold Gives numV
  obtain ⟨W0, hW0⟩ : ∃ W0, ((((w.alloc (.cells #[.int .u64 (u x.v), .int .u64 (u x.m), .int .u64 (u x.a), .int .u64 (u x.b), .int .i64 (s x.c), .int .i64 (s x.d)] 26)).alloc (.cells #[.int .u64 (u y.v), .int .u64 (u y.m), .int .u64 (u y.a), .int .u64 (u y.b), .int .i64 (s y.c), .int .i64 (s y.d)] 26)).alloc (.cells #[.int .u64 0, .int .u64 0, .int .u64 0, .int .u64 0, .int .i64 0, .int .i64 0] 26)).alloc (.cells #[.int .u64 0, .int .u64 0, .int .u64 0, .int .u64 0, .int .i64 0, .int .i64 0] 26)) = W0 := ⟨_, rfl⟩
  rw [hW0] at HW
  obtain ⟨a0, a1, a2, a3, a4, a5⟩ := num_cells HW.out.1.1
  obtain ⟨b0, b1, b2, b3, b4, b5⟩ := num_cells HW.out.1.2
  obtain ⟨r0, r1, r2, r3, r4, r5⟩ := num_cells HW.out.2.1.1
  obtain ⟨t0, t1, t2, t3, t4, t5⟩ := num_cells HW.out.2.1.2
  obtain ⟨k0, k1, k2, k3, k4, k5⟩ := num_free HW.out.2.1.1
  obtain ⟨l0, l1, l2, l3, l4, l5⟩ := num_free HW.out.2.1.2
  go_enter Try.func7, Try.ntmps7
  go_wp2_with fail
  go_region
  all_goals
    first
      | (have HF := Lib.hid (h4_told (HW.out) (x) (y)); generalize World.setCell _ _ _ = Wf at HF ⊢; obtain ⟨Wg, hWg⟩ : ∃ Wg, Wf = Wg := ⟨_, rfl⟩; rw [hWg] at HF ⊢; clear hWg; obtain ⟨z0, z1, z2, z3, z4, z5⟩ := num_cells HF.out.1; obtain ⟨e0, e1, e2, e3, e4, e5⟩ := num_cells HF.out.2.1; go_wp2_with fail; exact bodyPost_ret (v := .tuple #[numV (x), numV (y), .bool true]) (by unfold numV; simp [results, Try.results7, go_sem, z0, z1, z2, z3, z4, z5, e0, e1, e2, e3, e4, e5]) rfl ⟨rfl, HF.out.2.2.drew⟩)
      | (have HF := Lib.hid (h4_told2 (HW.out) (x) (y)); generalize World.setCell _ _ _ = Wf at HF ⊢; obtain ⟨Wg, hWg⟩ : ∃ Wg, Wf = Wg := ⟨_, rfl⟩; rw [hWg] at HF ⊢; clear hWg; obtain ⟨z0, z1, z2, z3, z4, z5⟩ := num_cells HF.out.1; obtain ⟨e0, e1, e2, e3, e4, e5⟩ := num_cells HF.out.2.1; go_wp2_with fail; exact bodyPost_ret (v := .tuple #[numV (x), numV (y), .bool true]) (by unfold numV; simp [results, Try.results7, go_sem, z0, z1, z2, z3, z4, z5, e0, e1, e2, e3, e4, e5]) rfl ⟨rfl, HF.out.2.2.drew⟩)
set_option maxRecDepth 100000 in
set_option maxHeartbeats 8000000 in
theorem wy32_hi2 (hs : Bool) (x y : K) (w : World) (h1 : decide (4294967295 < u x.b) = false) (h2 : decide (4294967295 < u y.b) = true) : Calls Try.prog 7 #[.int .u8 32, .bool false, numV x, numV y, .bool hs] w (Gives (.tuple #[numV x, numV y, .bool true]) w) := by
  have HW := Lib.hid (h4_new x y w)
  unfold Gives numV
  obtain ⟨W0, hW0⟩ : ∃ W0, ((((w.alloc (.cells #[.int .u64 (u x.v), .int .u64 (u x.m), .int .u64 (u x.a), .int .u64 (u x.b), .int .i64 (s x.c), .int .i64 (s x.d)] 26)).alloc (.cells #[.int .u64 (u y.v), .int .u64 (u y.m), .int .u64 (u y.a), .int .u64 (u y.b), .int .i64 (s y.c), .int .i64 (s y.d)] 26)).alloc (.cells #[.int .u64 0, .int .u64 0, .int .u64 0, .int .u64 0, .int .i64 0, .int .i64 0] 26)).alloc (.cells #[.int .u64 0, .int .u64 0, .int .u64 0, .int .u64 0, .int .i64 0, .int .i64 0] 26)) = W0 := ⟨_, rfl⟩
  rw [hW0] at HW
  obtain ⟨a0, a1, a2, a3, a4, a5⟩ := num_cells HW.out.1.1
  obtain ⟨b0, b1, b2, b3, b4, b5⟩ := num_cells HW.out.1.2
  obtain ⟨r0, r1, r2, r3, r4, r5⟩ := num_cells HW.out.2.1.1
  obtain ⟨t0, t1, t2, t3, t4, t5⟩ := num_cells HW.out.2.1.2
  obtain ⟨k0, k1, k2, k3, k4, k5⟩ := num_free HW.out.2.1.1
  obtain ⟨l0, l1, l2, l3, l4, l5⟩ := num_free HW.out.2.1.2
  go_enter Try.func7, Try.ntmps7
  go_wp2_with fail
  go_region
  all_goals
    first
      | (have HF := Lib.hid (h4_told (HW.out) (x) (y)); generalize World.setCell _ _ _ = Wf at HF ⊢; obtain ⟨Wg, hWg⟩ : ∃ Wg, Wf = Wg := ⟨_, rfl⟩; rw [hWg] at HF ⊢; clear hWg; obtain ⟨z0, z1, z2, z3, z4, z5⟩ := num_cells HF.out.1; obtain ⟨e0, e1, e2, e3, e4, e5⟩ := num_cells HF.out.2.1; go_wp2_with fail; exact bodyPost_ret (v := .tuple #[numV (x), numV (y), .bool true]) (by unfold numV; simp [results, Try.results7, go_sem, z0, z1, z2, z3, z4, z5, e0, e1, e2, e3, e4, e5]) rfl ⟨rfl, HF.out.2.2.drew⟩)
      | (have HF := Lib.hid (h4_told2 (HW.out) (x) (y)); generalize World.setCell _ _ _ = Wf at HF ⊢; obtain ⟨Wg, hWg⟩ : ∃ Wg, Wf = Wg := ⟨_, rfl⟩; rw [hWg] at HF ⊢; clear hWg; obtain ⟨z0, z1, z2, z3, z4, z5⟩ := num_cells HF.out.1; obtain ⟨e0, e1, e2, e3, e4, e5⟩ := num_cells HF.out.2.1; go_wp2_with fail; exact bodyPost_ret (v := .tuple #[numV (x), numV (y), .bool true]) (by unfold numV; simp [results, Try.results7, go_sem, z0, z1, z2, z3, z4, z5, e0, e1, e2, e3, e4, e5]) rfl ⟨rfl, HF.out.2.2.drew⟩)
set_option maxRecDepth 100000 in
set_option maxHeartbeats 8000000 in
theorem wy48_hi1 (hs : Bool) (x y : K) (w : World) (h1 : decide (4294967295 < u x.b) = true) : Calls Try.prog 7 #[.int .u8 48, .bool false, numV x, numV y, .bool hs] w (Gives (.tuple #[numV x, numV y, .bool true]) w) := by
  have HW := Lib.hid (h4_new x y w)
  unfold Gives numV
  obtain ⟨W0, hW0⟩ : ∃ W0, ((((w.alloc (.cells #[.int .u64 (u x.v), .int .u64 (u x.m), .int .u64 (u x.a), .int .u64 (u x.b), .int .i64 (s x.c), .int .i64 (s x.d)] 26)).alloc (.cells #[.int .u64 (u y.v), .int .u64 (u y.m), .int .u64 (u y.a), .int .u64 (u y.b), .int .i64 (s y.c), .int .i64 (s y.d)] 26)).alloc (.cells #[.int .u64 0, .int .u64 0, .int .u64 0, .int .u64 0, .int .i64 0, .int .i64 0] 26)).alloc (.cells #[.int .u64 0, .int .u64 0, .int .u64 0, .int .u64 0, .int .i64 0, .int .i64 0] 26)) = W0 := ⟨_, rfl⟩
  rw [hW0] at HW
  obtain ⟨a0, a1, a2, a3, a4, a5⟩ := num_cells HW.out.1.1
  obtain ⟨b0, b1, b2, b3, b4, b5⟩ := num_cells HW.out.1.2
  obtain ⟨r0, r1, r2, r3, r4, r5⟩ := num_cells HW.out.2.1.1
  obtain ⟨t0, t1, t2, t3, t4, t5⟩ := num_cells HW.out.2.1.2
  obtain ⟨k0, k1, k2, k3, k4, k5⟩ := num_free HW.out.2.1.1
  obtain ⟨l0, l1, l2, l3, l4, l5⟩ := num_free HW.out.2.1.2
  go_enter Try.func7, Try.ntmps7
  go_wp2_with fail
  go_region
  all_goals
    first
      | (have HF := Lib.hid (h4_told (HW.out) (x) (y)); generalize World.setCell _ _ _ = Wf at HF ⊢; obtain ⟨Wg, hWg⟩ : ∃ Wg, Wf = Wg := ⟨_, rfl⟩; rw [hWg] at HF ⊢; clear hWg; obtain ⟨z0, z1, z2, z3, z4, z5⟩ := num_cells HF.out.1; obtain ⟨e0, e1, e2, e3, e4, e5⟩ := num_cells HF.out.2.1; go_wp2_with fail; exact bodyPost_ret (v := .tuple #[numV (x), numV (y), .bool true]) (by unfold numV; simp [results, Try.results7, go_sem, z0, z1, z2, z3, z4, z5, e0, e1, e2, e3, e4, e5]) rfl ⟨rfl, HF.out.2.2.drew⟩)
      | (have HF := Lib.hid (h4_told2 (HW.out) (x) (y)); generalize World.setCell _ _ _ = Wf at HF ⊢; obtain ⟨Wg, hWg⟩ : ∃ Wg, Wf = Wg := ⟨_, rfl⟩; rw [hWg] at HF ⊢; clear hWg; obtain ⟨z0, z1, z2, z3, z4, z5⟩ := num_cells HF.out.1; obtain ⟨e0, e1, e2, e3, e4, e5⟩ := num_cells HF.out.2.1; go_wp2_with fail; exact bodyPost_ret (v := .tuple #[numV (x), numV (y), .bool true]) (by unfold numV; simp [results, Try.results7, go_sem, z0, z1, z2, z3, z4, z5, e0, e1, e2, e3, e4, e5]) rfl ⟨rfl, HF.out.2.2.drew⟩)
set_option maxRecDepth 100000 in
set_option maxHeartbeats 8000000 in
theorem wy48_hi2 (hs : Bool) (x y : K) (w : World) (h1 : decide (4294967295 < u x.b) = false) (h2 : decide (4294967295 < u y.b) = true) : Calls Try.prog 7 #[.int .u8 48, .bool false, numV x, numV y, .bool hs] w (Gives (.tuple #[numV x, numV y, .bool true]) w) := by
  have HW := Lib.hid (h4_new x y w)
  unfold Gives numV
  obtain ⟨W0, hW0⟩ : ∃ W0, ((((w.alloc (.cells #[.int .u64 (u x.v), .int .u64 (u x.m), .int .u64 (u x.a), .int .u64 (u x.b), .int .i64 (s x.c), .int .i64 (s x.d)] 26)).alloc (.cells #[.int .u64 (u y.v), .int .u64 (u y.m), .int .u64 (u y.a), .int .u64 (u y.b), .int .i64 (s y.c), .int .i64 (s y.d)] 26)).alloc (.cells #[.int .u64 0, .int .u64 0, .int .u64 0, .int .u64 0, .int .i64 0, .int .i64 0] 26)).alloc (.cells #[.int .u64 0, .int .u64 0, .int .u64 0, .int .u64 0, .int .i64 0, .int .i64 0] 26)) = W0 := ⟨_, rfl⟩
  rw [hW0] at HW
  obtain ⟨a0, a1, a2, a3, a4, a5⟩ := num_cells HW.out.1.1
  obtain ⟨b0, b1, b2, b3, b4, b5⟩ := num_cells HW.out.1.2
  obtain ⟨r0, r1, r2, r3, r4, r5⟩ := num_cells HW.out.2.1.1
  obtain ⟨t0, t1, t2, t3, t4, t5⟩ := num_cells HW.out.2.1.2
  obtain ⟨k0, k1, k2, k3, k4, k5⟩ := num_free HW.out.2.1.1
  obtain ⟨l0, l1, l2, l3, l4, l5⟩ := num_free HW.out.2.1.2
  go_enter Try.func7, Try.ntmps7
  go_wp2_with fail
  go_region
  all_goals
    first
      | (have HF := Lib.hid (h4_told (HW.out) (x) (y)); generalize World.setCell _ _ _ = Wf at HF ⊢; obtain ⟨Wg, hWg⟩ : ∃ Wg, Wf = Wg := ⟨_, rfl⟩; rw [hWg] at HF ⊢; clear hWg; obtain ⟨z0, z1, z2, z3, z4, z5⟩ := num_cells HF.out.1; obtain ⟨e0, e1, e2, e3, e4, e5⟩ := num_cells HF.out.2.1; go_wp2_with fail; exact bodyPost_ret (v := .tuple #[numV (x), numV (y), .bool true]) (by unfold numV; simp [results, Try.results7, go_sem, z0, z1, z2, z3, z4, z5, e0, e1, e2, e3, e4, e5]) rfl ⟨rfl, HF.out.2.2.drew⟩)
      | (have HF := Lib.hid (h4_told2 (HW.out) (x) (y)); generalize World.setCell _ _ _ = Wf at HF ⊢; obtain ⟨Wg, hWg⟩ : ∃ Wg, Wf = Wg := ⟨_, rfl⟩; rw [hWg] at HF ⊢; clear hWg; obtain ⟨z0, z1, z2, z3, z4, z5⟩ := num_cells HF.out.1; obtain ⟨e0, e1, e2, e3, e4, e5⟩ := num_cells HF.out.2.1; go_wp2_with fail; exact bodyPost_ret (v := .tuple #[numV (x), numV (y), .bool true]) (by unfold numV; simp [results, Try.results7, go_sem, z0, z1, z2, z3, z4, z5, e0, e1, e2, e3, e4, e5]) rfl ⟨rfl, HF.out.2.2.drew⟩)
set_option maxRecDepth 100000 in
set_option maxHeartbeats 8000000 in
theorem wy160_hi1 (hs : Bool) (x y : K) (w : World) (h1 : decide (4294967295 < u x.b) = true) : Calls Try.prog 7 #[.int .u8 160, .bool false, numV x, numV y, .bool hs] w (Gives (.tuple #[numV x, numV y, .bool true]) w) := by
  have HW := Lib.hid (h4_new x y w)
  unfold Gives numV
  obtain ⟨W0, hW0⟩ : ∃ W0, ((((w.alloc (.cells #[.int .u64 (u x.v), .int .u64 (u x.m), .int .u64 (u x.a), .int .u64 (u x.b), .int .i64 (s x.c), .int .i64 (s x.d)] 26)).alloc (.cells #[.int .u64 (u y.v), .int .u64 (u y.m), .int .u64 (u y.a), .int .u64 (u y.b), .int .i64 (s y.c), .int .i64 (s y.d)] 26)).alloc (.cells #[.int .u64 0, .int .u64 0, .int .u64 0, .int .u64 0, .int .i64 0, .int .i64 0] 26)).alloc (.cells #[.int .u64 0, .int .u64 0, .int .u64 0, .int .u64 0, .int .i64 0, .int .i64 0] 26)) = W0 := ⟨_, rfl⟩
  rw [hW0] at HW
  obtain ⟨a0, a1, a2, a3, a4, a5⟩ := num_cells HW.out.1.1
  obtain ⟨b0, b1, b2, b3, b4, b5⟩ := num_cells HW.out.1.2
  obtain ⟨r0, r1, r2, r3, r4, r5⟩ := num_cells HW.out.2.1.1
  obtain ⟨t0, t1, t2, t3, t4, t5⟩ := num_cells HW.out.2.1.2
  obtain ⟨k0, k1, k2, k3, k4, k5⟩ := num_free HW.out.2.1.1
  obtain ⟨l0, l1, l2, l3, l4, l5⟩ := num_free HW.out.2.1.2
  go_enter Try.func7, Try.ntmps7
  go_wp2_with fail
  go_region
  all_goals
    first
      | (have HF := Lib.hid (h4_told (HW.out) (x) (y)); generalize World.setCell _ _ _ = Wf at HF ⊢; obtain ⟨Wg, hWg⟩ : ∃ Wg, Wf = Wg := ⟨_, rfl⟩; rw [hWg] at HF ⊢; clear hWg; obtain ⟨z0, z1, z2, z3, z4, z5⟩ := num_cells HF.out.1; obtain ⟨e0, e1, e2, e3, e4, e5⟩ := num_cells HF.out.2.1; go_wp2_with fail; exact bodyPost_ret (v := .tuple #[numV (x), numV (y), .bool true]) (by unfold numV; simp [results, Try.results7, go_sem, z0, z1, z2, z3, z4, z5, e0, e1, e2, e3, e4, e5]) rfl ⟨rfl, HF.out.2.2.drew⟩)
      | (have HF := Lib.hid (h4_told2 (HW.out) (x) (y)); generalize World.setCell _ _ _ = Wf at HF ⊢; obtain ⟨Wg, hWg⟩ : ∃ Wg, Wf = Wg := ⟨_, rfl⟩; rw [hWg] at HF ⊢; clear hWg; obtain ⟨z0, z1, z2, z3, z4, z5⟩ := num_cells HF.out.1; obtain ⟨e0, e1, e2, e3, e4, e5⟩ := num_cells HF.out.2.1; go_wp2_with fail; exact bodyPost_ret (v := .tuple #[numV (x), numV (y), .bool true]) (by unfold numV; simp [results, Try.results7, go_sem, z0, z1, z2, z3, z4, z5, e0, e1, e2, e3, e4, e5]) rfl ⟨rfl, HF.out.2.2.drew⟩)
set_option maxRecDepth 100000 in
set_option maxHeartbeats 8000000 in
theorem wy160_hi2 (hs : Bool) (x y : K) (w : World) (h1 : decide (4294967295 < u x.b) = false) (h2 : decide (4294967295 < u y.b) = true) : Calls Try.prog 7 #[.int .u8 160, .bool false, numV x, numV y, .bool hs] w (Gives (.tuple #[numV x, numV y, .bool true]) w) := by
  have HW := Lib.hid (h4_new x y w)
  unfold Gives numV
  obtain ⟨W0, hW0⟩ : ∃ W0, ((((w.alloc (.cells #[.int .u64 (u x.v), .int .u64 (u x.m), .int .u64 (u x.a), .int .u64 (u x.b), .int .i64 (s x.c), .int .i64 (s x.d)] 26)).alloc (.cells #[.int .u64 (u y.v), .int .u64 (u y.m), .int .u64 (u y.a), .int .u64 (u y.b), .int .i64 (s y.c), .int .i64 (s y.d)] 26)).alloc (.cells #[.int .u64 0, .int .u64 0, .int .u64 0, .int .u64 0, .int .i64 0, .int .i64 0] 26)).alloc (.cells #[.int .u64 0, .int .u64 0, .int .u64 0, .int .u64 0, .int .i64 0, .int .i64 0] 26)) = W0 := ⟨_, rfl⟩
  rw [hW0] at HW
  obtain ⟨a0, a1, a2, a3, a4, a5⟩ := num_cells HW.out.1.1
  obtain ⟨b0, b1, b2, b3, b4, b5⟩ := num_cells HW.out.1.2
  obtain ⟨r0, r1, r2, r3, r4, r5⟩ := num_cells HW.out.2.1.1
  obtain ⟨t0, t1, t2, t3, t4, t5⟩ := num_cells HW.out.2.1.2
  obtain ⟨k0, k1, k2, k3, k4, k5⟩ := num_free HW.out.2.1.1
  obtain ⟨l0, l1, l2, l3, l4, l5⟩ := num_free HW.out.2.1.2
  go_enter Try.func7, Try.ntmps7
  go_wp2_with fail
  go_region
  all_goals
    first
      | (have HF := Lib.hid (h4_told (HW.out) (x) (y)); generalize World.setCell _ _ _ = Wf at HF ⊢; obtain ⟨Wg, hWg⟩ : ∃ Wg, Wf = Wg := ⟨_, rfl⟩; rw [hWg] at HF ⊢; clear hWg; obtain ⟨z0, z1, z2, z3, z4, z5⟩ := num_cells HF.out.1; obtain ⟨e0, e1, e2, e3, e4, e5⟩ := num_cells HF.out.2.1; go_wp2_with fail; exact bodyPost_ret (v := .tuple #[numV (x), numV (y), .bool true]) (by unfold numV; simp [results, Try.results7, go_sem, z0, z1, z2, z3, z4, z5, e0, e1, e2, e3, e4, e5]) rfl ⟨rfl, HF.out.2.2.drew⟩)
      | (have HF := Lib.hid (h4_told2 (HW.out) (x) (y)); generalize World.setCell _ _ _ = Wf at HF ⊢; obtain ⟨Wg, hWg⟩ : ∃ Wg, Wf = Wg := ⟨_, rfl⟩; rw [hWg] at HF ⊢; clear hWg; obtain ⟨z0, z1, z2, z3, z4, z5⟩ := num_cells HF.out.1; obtain ⟨e0, e1, e2, e3, e4, e5⟩ := num_cells HF.out.2.1; go_wp2_with fail; exact bodyPost_ret (v := .tuple #[numV (x), numV (y), .bool true]) (by unfold numV; simp [results, Try.results7, go_sem, z0, z1, z2, z3, z4, z5, e0, e1, e2, e3, e4, e5]) rfl ⟨rfl, HF.out.2.2.drew⟩)
set_option maxRecDepth 100000 in
set_option maxHeartbeats 8000000 in
theorem wy176_hi1 (hs : Bool) (x y : K) (w : World) (h1 : decide (4294967295 < u x.b) = true) : Calls Try.prog 7 #[.int .u8 176, .bool false, numV x, numV y, .bool hs] w (Gives (.tuple #[numV x, numV y, .bool true]) w) := by
  have HW := Lib.hid (h4_new x y w)
  unfold Gives numV
  obtain ⟨W0, hW0⟩ : ∃ W0, ((((w.alloc (.cells #[.int .u64 (u x.v), .int .u64 (u x.m), .int .u64 (u x.a), .int .u64 (u x.b), .int .i64 (s x.c), .int .i64 (s x.d)] 26)).alloc (.cells #[.int .u64 (u y.v), .int .u64 (u y.m), .int .u64 (u y.a), .int .u64 (u y.b), .int .i64 (s y.c), .int .i64 (s y.d)] 26)).alloc (.cells #[.int .u64 0, .int .u64 0, .int .u64 0, .int .u64 0, .int .i64 0, .int .i64 0] 26)).alloc (.cells #[.int .u64 0, .int .u64 0, .int .u64 0, .int .u64 0, .int .i64 0, .int .i64 0] 26)) = W0 := ⟨_, rfl⟩
  rw [hW0] at HW
  obtain ⟨a0, a1, a2, a3, a4, a5⟩ := num_cells HW.out.1.1
  obtain ⟨b0, b1, b2, b3, b4, b5⟩ := num_cells HW.out.1.2
  obtain ⟨r0, r1, r2, r3, r4, r5⟩ := num_cells HW.out.2.1.1
  obtain ⟨t0, t1, t2, t3, t4, t5⟩ := num_cells HW.out.2.1.2
  obtain ⟨k0, k1, k2, k3, k4, k5⟩ := num_free HW.out.2.1.1
  obtain ⟨l0, l1, l2, l3, l4, l5⟩ := num_free HW.out.2.1.2
  go_enter Try.func7, Try.ntmps7
  go_wp2_with fail
  go_region
  all_goals
    first
      | (have HF := Lib.hid (h4_told (HW.out) (x) (y)); generalize World.setCell _ _ _ = Wf at HF ⊢; obtain ⟨Wg, hWg⟩ : ∃ Wg, Wf = Wg := ⟨_, rfl⟩; rw [hWg] at HF ⊢; clear hWg; obtain ⟨z0, z1, z2, z3, z4, z5⟩ := num_cells HF.out.1; obtain ⟨e0, e1, e2, e3, e4, e5⟩ := num_cells HF.out.2.1; go_wp2_with fail; exact bodyPost_ret (v := .tuple #[numV (x), numV (y), .bool true]) (by unfold numV; simp [results, Try.results7, go_sem, z0, z1, z2, z3, z4, z5, e0, e1, e2, e3, e4, e5]) rfl ⟨rfl, HF.out.2.2.drew⟩)
      | (have HF := Lib.hid (h4_told2 (HW.out) (x) (y)); generalize World.setCell _ _ _ = Wf at HF ⊢; obtain ⟨Wg, hWg⟩ : ∃ Wg, Wf = Wg := ⟨_, rfl⟩; rw [hWg] at HF ⊢; clear hWg; obtain ⟨z0, z1, z2, z3, z4, z5⟩ := num_cells HF.out.1; obtain ⟨e0, e1, e2, e3, e4, e5⟩ := num_cells HF.out.2.1; go_wp2_with fail; exact bodyPost_ret (v := .tuple #[numV (x), numV (y), .bool true]) (by unfold numV; simp [results, Try.results7, go_sem, z0, z1, z2, z3, z4, z5, e0, e1, e2, e3, e4, e5]) rfl ⟨rfl, HF.out.2.2.drew⟩)
set_option maxRecDepth 100000 in
set_option maxHeartbeats 8000000 in
theorem wy176_hi2 (hs : Bool) (x y : K) (w : World) (h1 : decide (4294967295 < u x.b) = false) (h2 : decide (4294967295 < u y.b) = true) : Calls Try.prog 7 #[.int .u8 176, .bool false, numV x, numV y, .bool hs] w (Gives (.tuple #[numV x, numV y, .bool true]) w) := by
  have HW := Lib.hid (h4_new x y w)
  unfold Gives numV
  obtain ⟨W0, hW0⟩ : ∃ W0, ((((w.alloc (.cells #[.int .u64 (u x.v), .int .u64 (u x.m), .int .u64 (u x.a), .int .u64 (u x.b), .int .i64 (s x.c), .int .i64 (s x.d)] 26)).alloc (.cells #[.int .u64 (u y.v), .int .u64 (u y.m), .int .u64 (u y.a), .int .u64 (u y.b), .int .i64 (s y.c), .int .i64 (s y.d)] 26)).alloc (.cells #[.int .u64 0, .int .u64 0, .int .u64 0, .int .u64 0, .int .i64 0, .int .i64 0] 26)).alloc (.cells #[.int .u64 0, .int .u64 0, .int .u64 0, .int .u64 0, .int .i64 0, .int .i64 0] 26)) = W0 := ⟨_, rfl⟩
  rw [hW0] at HW
  obtain ⟨a0, a1, a2, a3, a4, a5⟩ := num_cells HW.out.1.1
  obtain ⟨b0, b1, b2, b3, b4, b5⟩ := num_cells HW.out.1.2
  obtain ⟨r0, r1, r2, r3, r4, r5⟩ := num_cells HW.out.2.1.1
  obtain ⟨t0, t1, t2, t3, t4, t5⟩ := num_cells HW.out.2.1.2
  obtain ⟨k0, k1, k2, k3, k4, k5⟩ := num_free HW.out.2.1.1
  obtain ⟨l0, l1, l2, l3, l4, l5⟩ := num_free HW.out.2.1.2
  go_enter Try.func7, Try.ntmps7
  go_wp2_with fail
  go_region
  all_goals
    first
      | (have HF := Lib.hid (h4_told (HW.out) (x) (y)); generalize World.setCell _ _ _ = Wf at HF ⊢; obtain ⟨Wg, hWg⟩ : ∃ Wg, Wf = Wg := ⟨_, rfl⟩; rw [hWg] at HF ⊢; clear hWg; obtain ⟨z0, z1, z2, z3, z4, z5⟩ := num_cells HF.out.1; obtain ⟨e0, e1, e2, e3, e4, e5⟩ := num_cells HF.out.2.1; go_wp2_with fail; exact bodyPost_ret (v := .tuple #[numV (x), numV (y), .bool true]) (by unfold numV; simp [results, Try.results7, go_sem, z0, z1, z2, z3, z4, z5, e0, e1, e2, e3, e4, e5]) rfl ⟨rfl, HF.out.2.2.drew⟩)
      | (have HF := Lib.hid (h4_told2 (HW.out) (x) (y)); generalize World.setCell _ _ _ = Wf at HF ⊢; obtain ⟨Wg, hWg⟩ : ∃ Wg, Wf = Wg := ⟨_, rfl⟩; rw [hWg] at HF ⊢; clear hWg; obtain ⟨z0, z1, z2, z3, z4, z5⟩ := num_cells HF.out.1; obtain ⟨e0, e1, e2, e3, e4, e5⟩ := num_cells HF.out.2.1; go_wp2_with fail; exact bodyPost_ret (v := .tuple #[numV (x), numV (y), .bool true]) (by unfold numV; simp [results, Try.results7, go_sem, z0, z1, z2, z3, z4, z5, e0, e1, e2, e3, e4, e5]) rfl ⟨rfl, HF.out.2.2.drew⟩)
set_option maxRecDepth 100000 in
set_option maxHeartbeats 8000000 in
theorem wy64_hi1 (hs : Bool) (x y : K) (w : World) (h1 : decide (4294967295 < u x.b) = true) : Calls Try.prog 7 #[.int .u8 64, .bool false, numV x, numV y, .bool hs] w (Gives (.tuple #[numV x, numV y, .bool true]) w) := by
  have HW := Lib.hid (h4_new x y w)
  unfold Gives numV
  obtain ⟨W0, hW0⟩ : ∃ W0, ((((w.alloc (.cells #[.int .u64 (u x.v), .int .u64 (u x.m), .int .u64 (u x.a), .int .u64 (u x.b), .int .i64 (s x.c), .int .i64 (s x.d)] 26)).alloc (.cells #[.int .u64 (u y.v), .int .u64 (u y.m), .int .u64 (u y.a), .int .u64 (u y.b), .int .i64 (s y.c), .int .i64 (s y.d)] 26)).alloc (.cells #[.int .u64 0, .int .u64 0, .int .u64 0, .int .u64 0, .int .i64 0, .int .i64 0] 26)).alloc (.cells #[.int .u64 0, .int .u64 0, .int .u64 0, .int .u64 0, .int .i64 0, .int .i64 0] 26)) = W0 := ⟨_, rfl⟩
  rw [hW0] at HW
  obtain ⟨a0, a1, a2, a3, a4, a5⟩ := num_cells HW.out.1.1
  obtain ⟨b0, b1, b2, b3, b4, b5⟩ := num_cells HW.out.1.2
  obtain ⟨r0, r1, r2, r3, r4, r5⟩ := num_cells HW.out.2.1.1
  obtain ⟨t0, t1, t2, t3, t4, t5⟩ := num_cells HW.out.2.1.2
  obtain ⟨k0, k1, k2, k3, k4, k5⟩ := num_free HW.out.2.1.1
  obtain ⟨l0, l1, l2, l3, l4, l5⟩ := num_free HW.out.2.1.2
  go_enter Try.func7, Try.ntmps7
  go_wp2_with fail
  go_region
  all_goals
    first
      | (have HF := Lib.hid (h4_told (HW.out) (x) (y)); generalize World.setCell _ _ _ = Wf at HF ⊢; obtain ⟨Wg, hWg⟩ : ∃ Wg, Wf = Wg := ⟨_, rfl⟩; rw [hWg] at HF ⊢; clear hWg; obtain ⟨z0, z1, z2, z3, z4, z5⟩ := num_cells HF.out.1; obtain ⟨e0, e1, e2, e3, e4, e5⟩ := num_cells HF.out.2.1; go_wp2_with fail; exact bodyPost_ret (v := .tuple #[numV (x), numV (y), .bool true]) (by unfold numV; simp [results, Try.results7, go_sem, z0, z1, z2, z3, z4, z5, e0, e1, e2, e3, e4, e5]) rfl ⟨rfl, HF.out.2.2.drew⟩)
      | (have HF := Lib.hid (h4_told2 (HW.out) (x) (y)); generalize World.setCell _ _ _ = Wf at HF ⊢; obtain ⟨Wg, hWg⟩ : ∃ Wg, Wf = Wg := ⟨_, rfl⟩; rw [hWg] at HF ⊢; clear hWg; obtain ⟨z0, z1, z2, z3, z4, z5⟩ := num_cells HF.out.1; obtain ⟨e0, e1, e2, e3, e4, e5⟩ := num_cells HF.out.2.1; go_wp2_with fail; exact bodyPost_ret (v := .tuple #[numV (x), numV (y), .bool true]) (by unfold numV; simp [results, Try.results7, go_sem, z0, z1, z2, z3, z4, z5, e0, e1, e2, e3, e4, e5]) rfl ⟨rfl, HF.out.2.2.drew⟩)
set_option maxRecDepth 100000 in
set_option maxHeartbeats 8000000 in
theorem wy64_hi2 (hs : Bool) (x y : K) (w : World) (h1 : decide (4294967295 < u x.b) = false) (h2 : decide (4294967295 < u y.b) = true) : Calls Try.prog 7 #[.int .u8 64, .bool false, numV x, numV y, .bool hs] w (Gives (.tuple #[numV x, numV y, .bool true]) w) := by
  have HW := Lib.hid (h4_new x y w)
  unfold Gives numV
  obtain ⟨W0, hW0⟩ : ∃ W0, ((((w.alloc (.cells #[.int .u64 (u x.v), .int .u64 (u x.m), .int .u64 (u x.a), .int .u64 (u x.b), .int .i64 (s x.c), .int .i64 (s x.d)] 26)).alloc (.cells #[.int .u64 (u y.v), .int .u64 (u y.m), .int .u64 (u y.a), .int .u64 (u y.b), .int .i64 (s y.c), .int .i64 (s y.d)] 26)).alloc (.cells #[.int .u64 0, .int .u64 0, .int .u64 0, .int .u64 0, .int .i64 0, .int .i64 0] 26)).alloc (.cells #[.int .u64 0, .int .u64 0, .int .u64 0, .int .u64 0, .int .i64 0, .int .i64 0] 26)) = W0 := ⟨_, rfl⟩
  rw [hW0] at HW
  obtain ⟨a0, a1, a2, a3, a4, a5⟩ := num_cells HW.out.1.1
  obtain ⟨b0, b1, b2, b3, b4, b5⟩ := num_cells HW.out.1.2
  obtain ⟨r0, r1, r2, r3, r4, r5⟩ := num_cells HW.out.2.1.1
  obtain ⟨t0, t1, t2, t3, t4, t5⟩ := num_cells HW.out.2.1.2
  obtain ⟨k0, k1, k2, k3, k4, k5⟩ := num_free HW.out.2.1.1
  obtain ⟨l0, l1, l2, l3, l4, l5⟩ := num_free HW.out.2.1.2
  go_enter Try.func7, Try.ntmps7
  go_wp2_with fail
  go_region
  all_goals
    first
      | (have HF := Lib.hid (h4_told (HW.out) (x) (y)); generalize World.setCell _ _ _ = Wf at HF ⊢; obtain ⟨Wg, hWg⟩ : ∃ Wg, Wf = Wg := ⟨_, rfl⟩; rw [hWg] at HF ⊢; clear hWg; obtain ⟨z0, z1, z2, z3, z4, z5⟩ := num_cells HF.out.1; obtain ⟨e0, e1, e2, e3, e4, e5⟩ := num_cells HF.out.2.1; go_wp2_with fail; exact bodyPost_ret (v := .tuple #[numV (x), numV (y), .bool true]) (by unfold numV; simp [results, Try.results7, go_sem, z0, z1, z2, z3, z4, z5, e0, e1, e2, e3, e4, e5]) rfl ⟨rfl, HF.out.2.2.drew⟩)
      | (have HF := Lib.hid (h4_told2 (HW.out) (x) (y)); generalize World.setCell _ _ _ = Wf at HF ⊢; obtain ⟨Wg, hWg⟩ : ∃ Wg, Wf = Wg := ⟨_, rfl⟩; rw [hWg] at HF ⊢; clear hWg; obtain ⟨z0, z1, z2, z3, z4, z5⟩ := num_cells HF.out.1; obtain ⟨e0, e1, e2, e3, e4, e5⟩ := num_cells HF.out.2.1; go_wp2_with fail; exact bodyPost_ret (v := .tuple #[numV (x), numV (y), .bool true]) (by unfold numV; simp [results, Try.results7, go_sem, z0, z1, z2, z3, z4, z5, e0, e1, e2, e3, e4, e5]) rfl ⟨rfl, HF.out.2.2.drew⟩)
set_option maxRecDepth 100000 in
set_option maxHeartbeats 8000000 in
theorem wy96_low (hs : Bool) (x y : K) (w : World) : Calls Try.prog 7 #[.int .u8 96, .bool false, numV x, numV y, .bool hs] w (Gives (.tuple #[numV x, numV y, .bool true]) w) := by
  have HW := Lib.hid (h4_new x y w)
  unfold Gives numV
  obtain ⟨W0, hW0⟩ : ∃ W0, ((((w.alloc (.cells #[.int .u64 (u x.v), .int .u64 (u x.m), .int .u64 (u x.a), .int .u64 (u x.b), .int .i64 (s x.c), .int .i64 (s x.d)] 26)).alloc (.cells #[.int .u64 (u y.v), .int .u64 (u y.m), .int .u64 (u y.a), .int .u64 (u y.b), .int .i64 (s y.c), .int .i64 (s y.d)] 26)).alloc (.cells #[.int .u64 0, .int .u64 0, .int .u64 0, .int .u64 0, .int .i64 0, .int .i64 0] 26)).alloc (.cells #[.int .u64 0, .int .u64 0, .int .u64 0, .int .u64 0, .int .i64 0, .int .i64 0] 26)) = W0 := ⟨_, rfl⟩
  rw [hW0] at HW
  obtain ⟨a0, a1, a2, a3, a4, a5⟩ := num_cells HW.out.1.1
  obtain ⟨b0, b1, b2, b3, b4, b5⟩ := num_cells HW.out.1.2
  obtain ⟨r0, r1, r2, r3, r4, r5⟩ := num_cells HW.out.2.1.1
  obtain ⟨t0, t1, t2, t3, t4, t5⟩ := num_cells HW.out.2.1.2
  obtain ⟨k0, k1, k2, k3, k4, k5⟩ := num_free HW.out.2.1.1
  obtain ⟨l0, l1, l2, l3, l4, l5⟩ := num_free HW.out.2.1.2
  go_enter Try.func7, Try.ntmps7
  go_wp2_with fail
  go_region
  all_goals
    first
      | (have HF := Lib.hid (h4_told (HW.out) (x) (y)); generalize World.setCell _ _ _ = Wf at HF ⊢; obtain ⟨Wg, hWg⟩ : ∃ Wg, Wf = Wg := ⟨_, rfl⟩; rw [hWg] at HF ⊢; clear hWg; obtain ⟨z0, z1, z2, z3, z4, z5⟩ := num_cells HF.out.1; obtain ⟨e0, e1, e2, e3, e4, e5⟩ := num_cells HF.out.2.1; go_wp2_with fail; exact bodyPost_ret (v := .tuple #[numV (x), numV (y), .bool true]) (by unfold numV; simp [results, Try.results7, go_sem, z0, z1, z2, z3, z4, z5, e0, e1, e2, e3, e4, e5]) rfl ⟨rfl, HF.out.2.2.drew⟩)
      | (have HF := Lib.hid (h4_told2 (HW.out) (x) (y)); generalize World.setCell _ _ _ = Wf at HF ⊢; obtain ⟨Wg, hWg⟩ : ∃ Wg, Wf = Wg := ⟨_, rfl⟩; rw [hWg] at HF ⊢; clear hWg; obtain ⟨z0, z1, z2, z3, z4, z5⟩ := num_cells HF.out.1; obtain ⟨e0, e1, e2, e3, e4, e5⟩ := num_cells HF.out.2.1; go_wp2_with fail; exact bodyPost_ret (v := .tuple #[numV (x), numV (y), .bool true]) (by unfold numV; simp [results, Try.results7, go_sem, z0, z1, z2, z3, z4, z5, e0, e1, e2, e3, e4, e5]) rfl ⟨rfl, HF.out.2.2.drew⟩)
set_option maxRecDepth 100000 in
set_option maxHeartbeats 8000000 in
theorem wy112_low (hs : Bool) (x y : K) (w : World) : Calls Try.prog 7 #[.int .u8 112, .bool false, numV x, numV y, .bool hs] w (Gives (.tuple #[numV x, numV y, .bool true]) w) := by
  have HW := Lib.hid (h4_new x y w)
  unfold Gives numV
  obtain ⟨W0, hW0⟩ : ∃ W0, ((((w.alloc (.cells #[.int .u64 (u x.v), .int .u64 (u x.m), .int .u64 (u x.a), .int .u64 (u x.b), .int .i64 (s x.c), .int .i64 (s x.d)] 26)).alloc (.cells #[.int .u64 (u y.v), .int .u64 (u y.m), .int .u64 (u y.a), .int .u64 (u y.b), .int .i64 (s y.c), .int .i64 (s y.d)] 26)).alloc (.cells #[.int .u64 0, .int .u64 0, .int .u64 0, .int .u64 0, .int .i64 0, .int .i64 0] 26)).alloc (.cells #[.int .u64 0, .int .u64 0, .int .u64 0, .int .u64 0, .int .i64 0, .int .i64 0] 26)) = W0 := ⟨_, rfl⟩
  rw [hW0] at HW
  obtain ⟨a0, a1, a2, a3, a4, a5⟩ := num_cells HW.out.1.1
  obtain ⟨b0, b1, b2, b3, b4, b5⟩ := num_cells HW.out.1.2
  obtain ⟨r0, r1, r2, r3, r4, r5⟩ := num_cells HW.out.2.1.1
  obtain ⟨t0, t1, t2, t3, t4, t5⟩ := num_cells HW.out.2.1.2
  obtain ⟨k0, k1, k2, k3, k4, k5⟩ := num_free HW.out.2.1.1
  obtain ⟨l0, l1, l2, l3, l4, l5⟩ := num_free HW.out.2.1.2
  go_enter Try.func7, Try.ntmps7
  go_wp2_with fail
  go_region
  all_goals
    first
      | (have HF := Lib.hid (h4_told (HW.out) (x) (y)); generalize World.setCell _ _ _ = Wf at HF ⊢; obtain ⟨Wg, hWg⟩ : ∃ Wg, Wf = Wg := ⟨_, rfl⟩; rw [hWg] at HF ⊢; clear hWg; obtain ⟨z0, z1, z2, z3, z4, z5⟩ := num_cells HF.out.1; obtain ⟨e0, e1, e2, e3, e4, e5⟩ := num_cells HF.out.2.1; go_wp2_with fail; exact bodyPost_ret (v := .tuple #[numV (x), numV (y), .bool true]) (by unfold numV; simp [results, Try.results7, go_sem, z0, z1, z2, z3, z4, z5, e0, e1, e2, e3, e4, e5]) rfl ⟨rfl, HF.out.2.2.drew⟩)
      | (have HF := Lib.hid (h4_told2 (HW.out) (x) (y)); generalize World.setCell _ _ _ = Wf at HF ⊢; obtain ⟨Wg, hWg⟩ : ∃ Wg, Wf = Wg := ⟨_, rfl⟩; rw [hWg] at HF ⊢; clear hWg; obtain ⟨z0, z1, z2, z3, z4, z5⟩ := num_cells HF.out.1; obtain ⟨e0, e1, e2, e3, e4, e5⟩ := num_cells HF.out.2.1; go_wp2_with fail; exact bodyPost_ret (v := .tuple #[numV (x), numV (y), .bool true]) (by unfold numV; simp [results, Try.results7, go_sem, z0, z1, z2, z3, z4, z5, e0, e1, e2, e3, e4, e5]) rfl ⟨rfl, HF.out.2.2.drew⟩)
set_option maxRecDepth 100000 in
set_option maxHeartbeats 8000000 in
theorem wy192_low (hs : Bool) (x y : K) (w : World) : Calls Try.prog 7 #[.int .u8 192, .bool false, numV x, numV y, .bool hs] w (Gives (.tuple #[numV x, numV y, .bool true]) w) := by
  have HW := Lib.hid (h4_new x y w)
  unfold Gives numV
  obtain ⟨W0, hW0⟩ : ∃ W0, ((((w.alloc (.cells #[.int .u64 (u x.v), .int .u64 (u x.m), .int .u64 (u x.a), .int .u64 (u x.b), .int .i64 (s x.c), .int .i64 (s x.d)] 26)).alloc (.cells #[.int .u64 (u y.v), .int .u64 (u y.m), .int .u64 (u y.a), .int .u64 (u y.b), .int .i64 (s y.c), .int .i64 (s y.d)] 26)).alloc (.cells #[.int .u64 0, .int .u64 0, .int .u64 0, .int .u64 0, .int .i64 0, .int .i64 0] 26)).alloc (.cells #[.int .u64 0, .int .u64 0, .int .u64 0, .int .u64 0, .int .i64 0, .int .i64 0] 26)) = W0 := ⟨_, rfl⟩
  rw [hW0] at HW
  obtain ⟨a0, a1, a2, a3, a4, a5⟩ := num_cells HW.out.1.1
  obtain ⟨b0, b1, b2, b3, b4, b5⟩ := num_cells HW.out.1.2
  obtain ⟨r0, r1, r2, r3, r4, r5⟩ := num_cells HW.out.2.1.1
  obtain ⟨t0, t1, t2, t3, t4, t5⟩ := num_cells HW.out.2.1.2
  obtain ⟨k0, k1, k2, k3, k4, k5⟩ := num_free HW.out.2.1.1
  obtain ⟨l0, l1, l2, l3, l4, l5⟩ := num_free HW.out.2.1.2
  go_enter Try.func7, Try.ntmps7
  go_wp2_with fail
  go_region
  all_goals
    first
      | (have HF := Lib.hid (h4_told (HW.out) (x) (y)); generalize World.setCell _ _ _ = Wf at HF ⊢; obtain ⟨Wg, hWg⟩ : ∃ Wg, Wf = Wg := ⟨_, rfl⟩; rw [hWg] at HF ⊢; clear hWg; obtain ⟨z0, z1, z2, z3, z4, z5⟩ := num_cells HF.out.1; obtain ⟨e0, e1, e2, e3, e4, e5⟩ := num_cells HF.out.2.1; go_wp2_with fail; exact bodyPost_ret (v := .tuple #[numV (x), numV (y), .bool true]) (by unfold numV; simp [results, Try.results7, go_sem, z0, z1, z2, z3, z4, z5, e0, e1, e2, e3, e4, e5]) rfl ⟨rfl, HF.out.2.2.drew⟩)
      | (have HF := Lib.hid (h4_told2 (HW.out) (x) (y)); generalize World.setCell _ _ _ = Wf at HF ⊢; obtain ⟨Wg, hWg⟩ : ∃ Wg, Wf = Wg := ⟨_, rfl⟩; rw [hWg] at HF ⊢; clear hWg; obtain ⟨z0, z1, z2, z3, z4, z5⟩ := num_cells HF.out.1; obtain ⟨e0, e1, e2, e3, e4, e5⟩ := num_cells HF.out.2.1; go_wp2_with fail; exact bodyPost_ret (v := .tuple #[numV (x), numV (y), .bool true]) (by unfold numV; simp [results, Try.results7, go_sem, z0, z1, z2, z3, z4, z5, e0, e1, e2, e3, e4, e5]) rfl ⟨rfl, HF.out.2.2.drew⟩)
set_option maxRecDepth 100000 in
set_option maxHeartbeats 8000000 in
theorem wy208_low (hs : Bool) (x y : K) (w : World) : Calls Try.prog 7 #[.int .u8 208, .bool false, numV x, numV y, .bool hs] w (Gives (.tuple #[numV x, numV y, .bool true]) w) := by
  have HW := Lib.hid (h4_new x y w)
  unfold Gives numV
  obtain ⟨W0, hW0⟩ : ∃ W0, ((((w.alloc (.cells #[.int .u64 (u x.v), .int .u64 (u x.m), .int .u64 (u x.a), .int .u64 (u x.b), .int .i64 (s x.c), .int .i64 (s x.d)] 26)).alloc (.cells #[.int .u64 (u y.v), .int .u64 (u y.m), .int .u64 (u y.a), .int .u64 (u y.b), .int .i64 (s y.c), .int .i64 (s y.d)] 26)).alloc (.cells #[.int .u64 0, .int .u64 0, .int .u64 0, .int .u64 0, .int .i64 0, .int .i64 0] 26)).alloc (.cells #[.int .u64 0, .int .u64 0, .int .u64 0, .int .u64 0, .int .i64 0, .int .i64 0] 26)) = W0 := ⟨_, rfl⟩
  rw [hW0] at HW
  obtain ⟨a0, a1, a2, a3, a4, a5⟩ := num_cells HW.out.1.1
  obtain ⟨b0, b1, b2, b3, b4, b5⟩ := num_cells HW.out.1.2
  obtain ⟨r0, r1, r2, r3, r4, r5⟩ := num_cells HW.out.2.1.1
  obtain ⟨t0, t1, t2, t3, t4, t5⟩ := num_cells HW.out.2.1.2
  obtain ⟨k0, k1, k2, k3, k4, k5⟩ := num_free HW.out.2.1.1
  obtain ⟨l0, l1, l2, l3, l4, l5⟩ := num_free HW.out.2.1.2
  go_enter Try.func7, Try.ntmps7
  go_wp2_with fail
  go_region
  all_goals
    first
      | (have HF := Lib.hid (h4_told (HW.out) (x) (y)); generalize World.setCell _ _ _ = Wf at HF ⊢; obtain ⟨Wg, hWg⟩ : ∃ Wg, Wf = Wg := ⟨_, rfl⟩; rw [hWg] at HF ⊢; clear hWg; obtain ⟨z0, z1, z2, z3, z4, z5⟩ := num_cells HF.out.1; obtain ⟨e0, e1, e2, e3, e4, e5⟩ := num_cells HF.out.2.1; go_wp2_with fail; exact bodyPost_ret (v := .tuple #[numV (x), numV (y), .bool true]) (by unfold numV; simp [results, Try.results7, go_sem, z0, z1, z2, z3, z4, z5, e0, e1, e2, e3, e4, e5]) rfl ⟨rfl, HF.out.2.2.drew⟩)
      | (have HF := Lib.hid (h4_told2 (HW.out) (x) (y)); generalize World.setCell _ _ _ = Wf at HF ⊢; obtain ⟨Wg, hWg⟩ : ∃ Wg, Wf = Wg := ⟨_, rfl⟩; rw [hWg] at HF ⊢; clear hWg; obtain ⟨z0, z1, z2, z3, z4, z5⟩ := num_cells HF.out.1; obtain ⟨e0, e1, e2, e3, e4, e5⟩ := num_cells HF.out.2.1; go_wp2_with fail; exact bodyPost_ret (v := .tuple #[numV (x), numV (y), .bool true]) (by unfold numV; simp [results, Try.results7, go_sem, z0, z1, z2, z3, z4, z5, e0, e1, e2, e3, e4, e5]) rfl ⟨rfl, HF.out.2.2.drew⟩)
end Go.Proofs.Ytbljijbmjccalaa

/-
  Proved here: what the document's Way of layer 9 returns. Conditions: none.
-/
namespace Go.Proofs.Ytbljijbmjccalaa
open Go.RowKit Go.MapKept
attribute [local go_sem] u_and u_or u_xor u_andNot u_add u_sub s_conv u_conv max_u min_u max_s min_s u_inc u_less s_inc s_less s_inc64 s_less64
set_option linter.unusedSimpArgs false

theorem back_form (x y : K) (t : Tw) : ∃ c d ok, backV x y t = .tuple #[numV c, numV d, .bool ok] ∧ backV x y t = if ok = true then .tuple #[numV c, numV d, .bool true] else .tuple #[numV x, numV y, .bool false] := by
  unfold backV
  by_cases h : t.good = true
  · rw [if_pos h]
    exact ⟨_, _, true, rfl, (if_pos rfl).symm⟩
  · rw [if_neg h]
    exact ⟨x, y, false, rfl, (if_neg Bool.false_ne_true).symm⟩
theorem low_no {k : K} (h : lowK k = false) : decide (4294967295 < u k.b) = true := by
  unfold lowK at h
  rw [decide_eq_false_iff_not] at h
  exact decide_eq_true (by omega)
theorem low_yes {k : K} (h : lowK k = true) : decide (4294967295 < u k.b) = false := by
  unfold lowK at h
  rw [decide_eq_true_eq] at h
  exact decide_eq_false (by omega)
theorem rw_16 (wide hs : Bool) (x y : K) (w : World) : Calls Try.prog 7 #[.int .u8 16, .bool wide, numV x, numV y, .bool hs] w (Gives (wayV 16 wide x y hs) w) := by
  unfold wayV
  cases wide
  · have ht : tells 16 false x y = (lowK x && lowK y) := by simp [tells, isSig, isCond]
    rw [ht]
    cases hx : lowK x
    · rw [if_neg (by simp)]
      exact wy16_hi1 hs x y w (low_no hx)
    · cases hy : lowK y
      · rw [if_neg (by simp)]
        exact wy16_hi2 hs x y w (low_yes hx) (low_no hy)
      · rw [if_pos (by simp)]
        cases hs
        · obtain ⟨c, d, ok, f1, f2⟩ := back_form x y (diffT x y)
          have hc : ∀ W, Calls Try.prog 16 #[.int .u8 80, .int .i64 0, numV x, numV y] W (Gives (backV x y (diffT x y)) W) := (by intro W; cases h1 : oA x y; exact ho_diff_no x y W (.inl h1); cases h2 : oA y x; exact ho_diff_no x y W (.inr h2); exact ho_diff_yes x y W h1 h2)
          rw [f1] at hc
          show Calls Try.prog 7 _ w (Gives (backV x y (diffT x y)) w)
          rw [f2]
          exact wy16_f_l x y c d ok w (low_yes hx) (low_yes hy) hc
        · obtain ⟨c, d, ok, f1, f2⟩ := back_form x y (sameT x y)
          have hc : ∀ W, Calls Try.prog 16 #[.int .u8 16, .int .i64 0, numV x, numV y] W (Gives (backV x y (sameT x y)) W) := (by intro W; cases h : x.okM y; exact ho_same_no x y W h; exact ho_same_yes x y W h)
          rw [f1] at hc
          show Calls Try.prog 7 _ w (Gives (backV x y (sameT x y)) w)
          rw [f2]
          exact wy16_t_l x y c d ok w (low_yes hx) (low_yes hy) hc
  · rw [if_pos (show tells 16 true x y = true by simp [tells, isCond])]
    cases hs
    · obtain ⟨c, d, ok, f1, f2⟩ := back_form x y (diffT x y)
      have hc : ∀ W, Calls Try.prog 16 #[.int .u8 80, .int .i64 0, numV x, numV y] W (Gives (backV x y (diffT x y)) W) := (by intro W; cases h1 : oA x y; exact ho_diff_no x y W (.inl h1); cases h2 : oA y x; exact ho_diff_no x y W (.inr h2); exact ho_diff_yes x y W h1 h2)
      rw [f1] at hc
      show Calls Try.prog 7 _ w (Gives (backV x y (diffT x y)) w)
      rw [f2]
      exact wy16_f_w x y c d ok w hc
    · obtain ⟨c, d, ok, f1, f2⟩ := back_form x y (sameT x y)
      have hc : ∀ W, Calls Try.prog 16 #[.int .u8 16, .int .i64 0, numV x, numV y] W (Gives (backV x y (sameT x y)) W) := (by intro W; cases h : x.okM y; exact ho_same_no x y W h; exact ho_same_yes x y W h)
      rw [f1] at hc
      show Calls Try.prog 7 _ w (Gives (backV x y (sameT x y)) w)
      rw [f2]
      exact wy16_t_w x y c d ok w hc
theorem rw_80 (wide hs : Bool) (x y : K) (w : World) : Calls Try.prog 7 #[.int .u8 80, .bool wide, numV x, numV y, .bool hs] w (Gives (wayV 80 wide x y hs) w) := by
  unfold wayV
  cases wide
  · have ht : tells 80 false x y = (lowK x && lowK y) := by simp [tells, isSig, isCond]
    rw [ht]
    cases hx : lowK x
    · rw [if_neg (by simp)]
      exact wy80_hi1 hs x y w (low_no hx)
    · cases hy : lowK y
      · rw [if_neg (by simp)]
        exact wy80_hi2 hs x y w (low_yes hx) (low_no hy)
      · rw [if_pos (by simp)]
        cases hs
        · obtain ⟨c, d, ok, f1, f2⟩ := back_form x y (sameT x y)
          have hc : ∀ W, Calls Try.prog 16 #[.int .u8 16, .int .i64 0, numV x, numV y] W (Gives (backV x y (sameT x y)) W) := (by intro W; cases h : x.okM y; exact ho_same_no x y W h; exact ho_same_yes x y W h)
          rw [f1] at hc
          show Calls Try.prog 7 _ w (Gives (backV x y (sameT x y)) w)
          rw [f2]
          exact wy80_f_l x y c d ok w (low_yes hx) (low_yes hy) hc
        · obtain ⟨c, d, ok, f1, f2⟩ := back_form x y (diffT x y)
          have hc : ∀ W, Calls Try.prog 16 #[.int .u8 80, .int .i64 0, numV x, numV y] W (Gives (backV x y (diffT x y)) W) := (by intro W; cases h1 : oA x y; exact ho_diff_no x y W (.inl h1); cases h2 : oA y x; exact ho_diff_no x y W (.inr h2); exact ho_diff_yes x y W h1 h2)
          rw [f1] at hc
          show Calls Try.prog 7 _ w (Gives (backV x y (diffT x y)) w)
          rw [f2]
          exact wy80_t_l x y c d ok w (low_yes hx) (low_yes hy) hc
  · rw [if_pos (show tells 80 true x y = true by simp [tells, isCond])]
    cases hs
    · obtain ⟨c, d, ok, f1, f2⟩ := back_form x y (sameT x y)
      have hc : ∀ W, Calls Try.prog 16 #[.int .u8 16, .int .i64 0, numV x, numV y] W (Gives (backV x y (sameT x y)) W) := (by intro W; cases h : x.okM y; exact ho_same_no x y W h; exact ho_same_yes x y W h)
      rw [f1] at hc
      show Calls Try.prog 7 _ w (Gives (backV x y (sameT x y)) w)
      rw [f2]
      exact wy80_f_w x y c d ok w hc
    · obtain ⟨c, d, ok, f1, f2⟩ := back_form x y (diffT x y)
      have hc : ∀ W, Calls Try.prog 16 #[.int .u8 80, .int .i64 0, numV x, numV y] W (Gives (backV x y (diffT x y)) W) := (by intro W; cases h1 : oA x y; exact ho_diff_no x y W (.inl h1); cases h2 : oA y x; exact ho_diff_no x y W (.inr h2); exact ho_diff_yes x y W h1 h2)
      rw [f1] at hc
      show Calls Try.prog 7 _ w (Gives (backV x y (diffT x y)) w)
      rw [f2]
      exact wy80_t_w x y c d ok w hc
theorem rw_32 (wide hs : Bool) (x y : K) (w : World) : Calls Try.prog 7 #[.int .u8 32, .bool wide, numV x, numV y, .bool hs] w (Gives (wayV 32 wide x y hs) w) := by
  unfold wayV
  cases wide
  · have ht : tells 32 false x y = (lowK x && lowK y) := by simp [tells, isSig, isCond]
    rw [ht]
    cases hx : lowK x
    · rw [if_neg (by simp)]
      exact wy32_hi1 hs x y w (low_no hx)
    · cases hy : lowK y
      · rw [if_neg (by simp)]
        exact wy32_hi2 hs x y w (low_yes hx) (low_no hy)
      · rw [if_pos (by simp)]
        cases hs
        · obtain ⟨c, d, ok, f1, f2⟩ := back_form x y (swapT (levelT y x))
          have hc : ∀ W, Calls Try.prog 16 #[.int .u8 176, .int .i64 0, numV x, numV y] W (Gives (backV x y (swapT (levelT y x))) W) := (ho_swap176 x y)
          rw [f1] at hc
          show Calls Try.prog 7 _ w (Gives (backV x y (swapT (levelT y x))) w)
          rw [f2]
          exact wy32_f_l x y c d ok w (low_yes hx) (low_yes hy) hc
        · obtain ⟨c, d, ok, f1, f2⟩ := back_form x y (aboveT x y)
          have hc : ∀ W, Calls Try.prog 16 #[.int .u8 32, .int .i64 0, numV x, numV y] W (Gives (backV x y (aboveT x y)) W) := (ho_above x y)
          rw [f1] at hc
          show Calls Try.prog 7 _ w (Gives (backV x y (aboveT x y)) w)
          rw [f2]
          exact wy32_t_l x y c d ok w (low_yes hx) (low_yes hy) hc
  · rw [if_pos (show tells 32 true x y = true by simp [tells, isCond])]
    cases hs
    · obtain ⟨c, d, ok, f1, f2⟩ := back_form x y (swapT (levelT y x))
      have hc : ∀ W, Calls Try.prog 16 #[.int .u8 176, .int .i64 0, numV x, numV y] W (Gives (backV x y (swapT (levelT y x))) W) := (ho_swap176 x y)
      rw [f1] at hc
      show Calls Try.prog 7 _ w (Gives (backV x y (swapT (levelT y x))) w)
      rw [f2]
      exact wy32_f_w x y c d ok w hc
    · obtain ⟨c, d, ok, f1, f2⟩ := back_form x y (aboveT x y)
      have hc : ∀ W, Calls Try.prog 16 #[.int .u8 32, .int .i64 0, numV x, numV y] W (Gives (backV x y (aboveT x y)) W) := (ho_above x y)
      rw [f1] at hc
      show Calls Try.prog 7 _ w (Gives (backV x y (aboveT x y)) w)
      rw [f2]
      exact wy32_t_w x y c d ok w hc
theorem rw_48 (wide hs : Bool) (x y : K) (w : World) : Calls Try.prog 7 #[.int .u8 48, .bool wide, numV x, numV y, .bool hs] w (Gives (wayV 48 wide x y hs) w) := by
  unfold wayV
  cases wide
  · have ht : tells 48 false x y = (lowK x && lowK y) := by simp [tells, isSig, isCond]
    rw [ht]
    cases hx : lowK x
    · rw [if_neg (by simp)]
      exact wy48_hi1 hs x y w (low_no hx)
    · cases hy : lowK y
      · rw [if_neg (by simp)]
        exact wy48_hi2 hs x y w (low_yes hx) (low_no hy)
      · rw [if_pos (by simp)]
        cases hs
        · obtain ⟨c, d, ok, f1, f2⟩ := back_form x y (swapT (aboveT y x))
          have hc : ∀ W, Calls Try.prog 16 #[.int .u8 160, .int .i64 0, numV x, numV y] W (Gives (backV x y (swapT (aboveT y x))) W) := (ho_swap160 x y)
          rw [f1] at hc
          show Calls Try.prog 7 _ w (Gives (backV x y (swapT (aboveT y x))) w)
          rw [f2]
          exact wy48_f_l x y c d ok w (low_yes hx) (low_yes hy) hc
        · obtain ⟨c, d, ok, f1, f2⟩ := back_form x y (levelT x y)
          have hc : ∀ W, Calls Try.prog 16 #[.int .u8 48, .int .i64 0, numV x, numV y] W (Gives (backV x y (levelT x y)) W) := (ho_level x y)
          rw [f1] at hc
          show Calls Try.prog 7 _ w (Gives (backV x y (levelT x y)) w)
          rw [f2]
          exact wy48_t_l x y c d ok w (low_yes hx) (low_yes hy) hc
  · rw [if_pos (show tells 48 true x y = true by simp [tells, isCond])]
    cases hs
    · obtain ⟨c, d, ok, f1, f2⟩ := back_form x y (swapT (aboveT y x))
      have hc : ∀ W, Calls Try.prog 16 #[.int .u8 160, .int .i64 0, numV x, numV y] W (Gives (backV x y (swapT (aboveT y x))) W) := (ho_swap160 x y)
      rw [f1] at hc
      show Calls Try.prog 7 _ w (Gives (backV x y (swapT (aboveT y x))) w)
      rw [f2]
      exact wy48_f_w x y c d ok w hc
    · obtain ⟨c, d, ok, f1, f2⟩ := back_form x y (levelT x y)
      have hc : ∀ W, Calls Try.prog 16 #[.int .u8 48, .int .i64 0, numV x, numV y] W (Gives (backV x y (levelT x y)) W) := (ho_level x y)
      rw [f1] at hc
      show Calls Try.prog 7 _ w (Gives (backV x y (levelT x y)) w)
      rw [f2]
      exact wy48_t_w x y c d ok w hc
theorem rw_160 (wide hs : Bool) (x y : K) (w : World) : Calls Try.prog 7 #[.int .u8 160, .bool wide, numV x, numV y, .bool hs] w (Gives (wayV 160 wide x y hs) w) := by
  unfold wayV
  cases wide
  · have ht : tells 160 false x y = (lowK x && lowK y) := by simp [tells, isSig, isCond]
    rw [ht]
    cases hx : lowK x
    · rw [if_neg (by simp)]
      exact wy160_hi1 hs x y w (low_no hx)
    · cases hy : lowK y
      · rw [if_neg (by simp)]
        exact wy160_hi2 hs x y w (low_yes hx) (low_no hy)
      · rw [if_pos (by simp)]
        cases hs
        · obtain ⟨c, d, ok, f1, f2⟩ := back_form x y (levelT x y)
          have hc : ∀ W, Calls Try.prog 16 #[.int .u8 48, .int .i64 0, numV x, numV y] W (Gives (backV x y (levelT x y)) W) := (ho_level x y)
          rw [f1] at hc
          show Calls Try.prog 7 _ w (Gives (backV x y (levelT x y)) w)
          rw [f2]
          exact wy160_f_l x y c d ok w (low_yes hx) (low_yes hy) hc
        · obtain ⟨c, d, ok, f1, f2⟩ := back_form x y (swapT (aboveT y x))
          have hc : ∀ W, Calls Try.prog 16 #[.int .u8 160, .int .i64 0, numV x, numV y] W (Gives (backV x y (swapT (aboveT y x))) W) := (ho_swap160 x y)
          rw [f1] at hc
          show Calls Try.prog 7 _ w (Gives (backV x y (swapT (aboveT y x))) w)
          rw [f2]
          exact wy160_t_l x y c d ok w (low_yes hx) (low_yes hy) hc
  · rw [if_pos (show tells 160 true x y = true by simp [tells, isCond])]
    cases hs
    · obtain ⟨c, d, ok, f1, f2⟩ := back_form x y (levelT x y)
      have hc : ∀ W, Calls Try.prog 16 #[.int .u8 48, .int .i64 0, numV x, numV y] W (Gives (backV x y (levelT x y)) W) := (ho_level x y)
      rw [f1] at hc
      show Calls Try.prog 7 _ w (Gives (backV x y (levelT x y)) w)
      rw [f2]
      exact wy160_f_w x y c d ok w hc
    · obtain ⟨c, d, ok, f1, f2⟩ := back_form x y (swapT (aboveT y x))
      have hc : ∀ W, Calls Try.prog 16 #[.int .u8 160, .int .i64 0, numV x, numV y] W (Gives (backV x y (swapT (aboveT y x))) W) := (ho_swap160 x y)
      rw [f1] at hc
      show Calls Try.prog 7 _ w (Gives (backV x y (swapT (aboveT y x))) w)
      rw [f2]
      exact wy160_t_w x y c d ok w hc
theorem rw_176 (wide hs : Bool) (x y : K) (w : World) : Calls Try.prog 7 #[.int .u8 176, .bool wide, numV x, numV y, .bool hs] w (Gives (wayV 176 wide x y hs) w) := by
  unfold wayV
  cases wide
  · have ht : tells 176 false x y = (lowK x && lowK y) := by simp [tells, isSig, isCond]
    rw [ht]
    cases hx : lowK x
    · rw [if_neg (by simp)]
      exact wy176_hi1 hs x y w (low_no hx)
    · cases hy : lowK y
      · rw [if_neg (by simp)]
        exact wy176_hi2 hs x y w (low_yes hx) (low_no hy)
      · rw [if_pos (by simp)]
        cases hs
        · obtain ⟨c, d, ok, f1, f2⟩ := back_form x y (aboveT x y)
          have hc : ∀ W, Calls Try.prog 16 #[.int .u8 32, .int .i64 0, numV x, numV y] W (Gives (backV x y (aboveT x y)) W) := (ho_above x y)
          rw [f1] at hc
          show Calls Try.prog 7 _ w (Gives (backV x y (aboveT x y)) w)
          rw [f2]
          exact wy176_f_l x y c d ok w (low_yes hx) (low_yes hy) hc
        · obtain ⟨c, d, ok, f1, f2⟩ := back_form x y (swapT (levelT y x))
          have hc : ∀ W, Calls Try.prog 16 #[.int .u8 176, .int .i64 0, numV x, numV y] W (Gives (backV x y (swapT (levelT y x))) W) := (ho_swap176 x y)
          rw [f1] at hc
          show Calls Try.prog 7 _ w (Gives (backV x y (swapT (levelT y x))) w)
          rw [f2]
          exact wy176_t_l x y c d ok w (low_yes hx) (low_yes hy) hc
  · rw [if_pos (show tells 176 true x y = true by simp [tells, isCond])]
    cases hs
    · obtain ⟨c, d, ok, f1, f2⟩ := back_form x y (aboveT x y)
      have hc : ∀ W, Calls Try.prog 16 #[.int .u8 32, .int .i64 0, numV x, numV y] W (Gives (backV x y (aboveT x y)) W) := (ho_above x y)
      rw [f1] at hc
      show Calls Try.prog 7 _ w (Gives (backV x y (aboveT x y)) w)
      rw [f2]
      exact wy176_f_w x y c d ok w hc
    · obtain ⟨c, d, ok, f1, f2⟩ := back_form x y (swapT (levelT y x))
      have hc : ∀ W, Calls Try.prog 16 #[.int .u8 176, .int .i64 0, numV x, numV y] W (Gives (backV x y (swapT (levelT y x))) W) := (ho_swap176 x y)
      rw [f1] at hc
      show Calls Try.prog 7 _ w (Gives (backV x y (swapT (levelT y x))) w)
      rw [f2]
      exact wy176_t_w x y c d ok w hc
theorem rw_64 (wide hs : Bool) (x y : K) (w : World) : Calls Try.prog 7 #[.int .u8 64, .bool wide, numV x, numV y, .bool hs] w (Gives (wayV 64 wide x y hs) w) := by
  unfold wayV
  cases wide
  · have ht : tells 64 false x y = (lowK x && lowK y) := by simp [tells, isSig, isCond]
    rw [ht]
    cases hx : lowK x
    · rw [if_neg (by simp)]
      exact wy64_hi1 hs x y w (low_no hx)
    · cases hy : lowK y
      · rw [if_neg (by simp)]
        exact wy64_hi2 hs x y w (low_yes hx) (low_no hy)
      · rw [if_pos (by simp)]
        cases hs
        · obtain ⟨c, d, ok, f1, f2⟩ := back_form x y (apartT x y)
          have hc : ∀ W, Calls Try.prog 16 #[.int .u8 64, .int .i64 2, numV x, numV y] W (Gives (backV x y (apartT x y)) W) := (by intro W; by_cases h0 : u y.m = 0; cases h2 : mtOk x.v x.m (0#64) (~~~y.v); exact ho_apart_no x y W h0 h2; exact ho_apart_yes x y W h0 h2; exact ho_apart_skip x y W h0)
          rw [f1] at hc
          show Calls Try.prog 7 _ w (Gives (backV x y (apartT x y)) w)
          rw [f2]
          exact wy64_f_l x y c d ok w (low_yes hx) (low_yes hy) hc
        · obtain ⟨c, d, ok, f1, f2⟩ := back_form x y (commonT x y)
          have hc : ∀ W, Calls Try.prog 16 #[.int .u8 64, .int .i64 1, numV x, numV y] W (Gives (backV x y (commonT x y)) W) := (by intro W; by_cases h0 : u y.m = 0; by_cases h1 : ones y.v.toNat = 1; cases h2 : mtOk x.v x.m y.v (~~~y.v); exact ho_common_no x y W ⟨h0, h1⟩ h2; exact ho_common_yes x y W ⟨h0, h1⟩ h2; exact ho_common_skipB x y W h0 h1; exact ho_common_skipA x y W h0)
          rw [f1] at hc
          show Calls Try.prog 7 _ w (Gives (backV x y (commonT x y)) w)
          rw [f2]
          exact wy64_t_l x y c d ok w (low_yes hx) (low_yes hy) hc
  · rw [if_pos (show tells 64 true x y = true by simp [tells, isCond])]
    cases hs
    · obtain ⟨c, d, ok, f1, f2⟩ := back_form x y (apartT x y)
      have hc : ∀ W, Calls Try.prog 16 #[.int .u8 64, .int .i64 2, numV x, numV y] W (Gives (backV x y (apartT x y)) W) := (by intro W; by_cases h0 : u y.m = 0; cases h2 : mtOk x.v x.m (0#64) (~~~y.v); exact ho_apart_no x y W h0 h2; exact ho_apart_yes x y W h0 h2; exact ho_apart_skip x y W h0)
      rw [f1] at hc
      show Calls Try.prog 7 _ w (Gives (backV x y (apartT x y)) w)
      rw [f2]
      exact wy64_f_w x y c d ok w hc
    · obtain ⟨c, d, ok, f1, f2⟩ := back_form x y (commonT x y)
      have hc : ∀ W, Calls Try.prog 16 #[.int .u8 64, .int .i64 1, numV x, numV y] W (Gives (backV x y (commonT x y)) W) := (by intro W; by_cases h0 : u y.m = 0; by_cases h1 : ones y.v.toNat = 1; cases h2 : mtOk x.v x.m y.v (~~~y.v); exact ho_common_no x y W ⟨h0, h1⟩ h2; exact ho_common_yes x y W ⟨h0, h1⟩ h2; exact ho_common_skipB x y W h0 h1; exact ho_common_skipA x y W h0)
      rw [f1] at hc
      show Calls Try.prog 7 _ w (Gives (backV x y (commonT x y)) w)
      rw [f2]
      exact wy64_t_w x y c d ok w hc
theorem rw_96 (wide hs : Bool) (x y : K) (w : World) : Calls Try.prog 7 #[.int .u8 96, .bool wide, numV x, numV y, .bool hs] w (Gives (wayV 96 wide x y hs) w) := by
  unfold wayV
  cases wide
  · rw [if_neg (show ¬ tells 96 false x y = true by simp [tells, isSig])]
    exact wy96_low hs x y w
  · rw [if_pos (show tells 96 true x y = true by simp [tells, isCond])]
    cases hs
    · obtain ⟨c, d, ok, f1, f2⟩ := back_form x y (swapT (levelST y x))
      have hc : ∀ W, Calls Try.prog 16 #[.int .u8 208, .int .i64 0, numV x, numV y] W (Gives (backV x y (swapT (levelST y x))) W) := (ho_swap208 x y)
      rw [f1] at hc
      show Calls Try.prog 7 _ w (Gives (backV x y (swapT (levelST y x))) w)
      rw [f2]
      exact wy96_f_w x y c d ok w hc
    · obtain ⟨c, d, ok, f1, f2⟩ := back_form x y (aboveST x y)
      have hc : ∀ W, Calls Try.prog 16 #[.int .u8 96, .int .i64 0, numV x, numV y] W (Gives (backV x y (aboveST x y)) W) := (ho_aboveS x y)
      rw [f1] at hc
      show Calls Try.prog 7 _ w (Gives (backV x y (aboveST x y)) w)
      rw [f2]
      exact wy96_t_w x y c d ok w hc
theorem rw_112 (wide hs : Bool) (x y : K) (w : World) : Calls Try.prog 7 #[.int .u8 112, .bool wide, numV x, numV y, .bool hs] w (Gives (wayV 112 wide x y hs) w) := by
  unfold wayV
  cases wide
  · rw [if_neg (show ¬ tells 112 false x y = true by simp [tells, isSig])]
    exact wy112_low hs x y w
  · rw [if_pos (show tells 112 true x y = true by simp [tells, isCond])]
    cases hs
    · obtain ⟨c, d, ok, f1, f2⟩ := back_form x y (swapT (aboveST y x))
      have hc : ∀ W, Calls Try.prog 16 #[.int .u8 192, .int .i64 0, numV x, numV y] W (Gives (backV x y (swapT (aboveST y x))) W) := (ho_swap192 x y)
      rw [f1] at hc
      show Calls Try.prog 7 _ w (Gives (backV x y (swapT (aboveST y x))) w)
      rw [f2]
      exact wy112_f_w x y c d ok w hc
    · obtain ⟨c, d, ok, f1, f2⟩ := back_form x y (levelST x y)
      have hc : ∀ W, Calls Try.prog 16 #[.int .u8 112, .int .i64 0, numV x, numV y] W (Gives (backV x y (levelST x y)) W) := (ho_levelS x y)
      rw [f1] at hc
      show Calls Try.prog 7 _ w (Gives (backV x y (levelST x y)) w)
      rw [f2]
      exact wy112_t_w x y c d ok w hc
theorem rw_192 (wide hs : Bool) (x y : K) (w : World) : Calls Try.prog 7 #[.int .u8 192, .bool wide, numV x, numV y, .bool hs] w (Gives (wayV 192 wide x y hs) w) := by
  unfold wayV
  cases wide
  · rw [if_neg (show ¬ tells 192 false x y = true by simp [tells, isSig])]
    exact wy192_low hs x y w
  · rw [if_pos (show tells 192 true x y = true by simp [tells, isCond])]
    cases hs
    · obtain ⟨c, d, ok, f1, f2⟩ := back_form x y (levelST x y)
      have hc : ∀ W, Calls Try.prog 16 #[.int .u8 112, .int .i64 0, numV x, numV y] W (Gives (backV x y (levelST x y)) W) := (ho_levelS x y)
      rw [f1] at hc
      show Calls Try.prog 7 _ w (Gives (backV x y (levelST x y)) w)
      rw [f2]
      exact wy192_f_w x y c d ok w hc
    · obtain ⟨c, d, ok, f1, f2⟩ := back_form x y (swapT (aboveST y x))
      have hc : ∀ W, Calls Try.prog 16 #[.int .u8 192, .int .i64 0, numV x, numV y] W (Gives (backV x y (swapT (aboveST y x))) W) := (ho_swap192 x y)
      rw [f1] at hc
      show Calls Try.prog 7 _ w (Gives (backV x y (swapT (aboveST y x))) w)
      rw [f2]
      exact wy192_t_w x y c d ok w hc
theorem rw_208 (wide hs : Bool) (x y : K) (w : World) : Calls Try.prog 7 #[.int .u8 208, .bool wide, numV x, numV y, .bool hs] w (Gives (wayV 208 wide x y hs) w) := by
  unfold wayV
  cases wide
  · rw [if_neg (show ¬ tells 208 false x y = true by simp [tells, isSig])]
    exact wy208_low hs x y w
  · rw [if_pos (show tells 208 true x y = true by simp [tells, isCond])]
    cases hs
    · obtain ⟨c, d, ok, f1, f2⟩ := back_form x y (aboveST x y)
      have hc : ∀ W, Calls Try.prog 16 #[.int .u8 96, .int .i64 0, numV x, numV y] W (Gives (backV x y (aboveST x y)) W) := (ho_aboveS x y)
      rw [f1] at hc
      show Calls Try.prog 7 _ w (Gives (backV x y (aboveST x y)) w)
      rw [f2]
      exact wy208_f_w x y c d ok w hc
    · obtain ⟨c, d, ok, f1, f2⟩ := back_form x y (swapT (levelST y x))
      have hc : ∀ W, Calls Try.prog 16 #[.int .u8 208, .int .i64 0, numV x, numV y] W (Gives (backV x y (swapT (levelST y x))) W) := (ho_swap208 x y)
      rw [f1] at hc
      show Calls Try.prog 7 _ w (Gives (backV x y (swapT (levelST y x))) w)
      rw [f2]
      exact wy208_t_w x y c d ok w hc
theorem ref_way (op : Int) (wide hs : Bool) (x y : K) (w : World) (h0 : 0 ≤ op) (h1 : op ≤ 255) : Calls Try.prog 7 #[.int .u8 op, .bool wide, numV x, numV y, .bool hs] w (Gives (wayV op wide x y hs) w) := by
  cases h : isCond op
  · unfold wayV
    rw [if_neg (show ¬ tells op wide x y = true by simp [tells, h])]
    exact wy_none op wide hs x y w h0 h1 h
  · unfold isCond at h
    simp only [Bool.or_eq_true, beq_iff_eq] at h
    rcases h with (((((((((h | h) | h) | h) | h) | h) | h) | h) | h) | h) | h
    all_goals subst h
    · exact rw_16 wide hs x y w
    · exact rw_80 wide hs x y w
    · exact rw_32 wide hs x y w
    · exact rw_48 wide hs x y w
    · exact rw_160 wide hs x y w
    · exact rw_176 wide hs x y w
    · exact rw_64 wide hs x y w
    · exact rw_96 wide hs x y w
    · exact rw_112 wide hs x y w
    · exact rw_192 wide hs x y w
    · exact rw_208 wide hs x y w
end Go.Proofs.Ytbljijbmjccalaa
