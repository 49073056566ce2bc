/-
  Proved here: what Way of package narrow returns where its map gives same, or different. Conditions: none.
-/
import Derived.Test.YtbljijbmjccalaaP4
import Derived.Test.YtbljijbmjccalaaW1
import Derived.Laws.EntriesVeiled
import Derived.RegionTactic
namespace Go.Proofs.Ytbljijbmjccalaa
open Go.RowKit
attribute [local go_sem] u_and u_or u_xor u_andNot u_add u_sub s_conv u_conv max_u min_u max_s min_s u_inc u_less s_inc s_less s_inc64 s_less64
set_option linter.unusedSimpArgs false

set_option maxRecDepth 100000 in
set_option maxHeartbeats 16000000 in
theorem way_20 (op : Int) (wide hs : Bool) (x y : K) (t : Tw) (j : Nat) (A1 A2 : Nat → Fn) (C1 C2 : Nat → Array Value) (w : World)
    (hf : ∀ W, Calls Try.prog 20 #[pairV x y] W (Gives (.tuple #[pairV t.x t.y, .bool t.ok]) W))
    (hS : ∀ B, (if hs = true then Value.func (A1 B) #[] (C1 B) else .func (A2 B) #[] (C2 B)) = fnV 20)
    (hn : ∀ B, Instr.findNow (.int .u8) (.int .u8 op) (conEnts B 11).toList 0 = some (some (j, .agg #[.func (A1 B) #[] (C1 B), .func (A2 B) #[] (C2 B)])))
    (hg : wide = true ∨ (isSig op = false ∧ lowK x = true ∧ lowK y = true)) :
    Calls Try.prog 6 #[.int .u8 op, .bool wide, numV x, numV y, .bool hs] w (Gives (backV x y t) w) := by
  have HG := Lib.hid hg
  clear hg
  obtain ⟨V, hV⟩ : ∃ V, backV x y t = V := ⟨_, rfl⟩
  rw [hV]
  have HVV := Lib.hid hV
  clear hV
  obtain ⟨ok, hok⟩ : ∃ b, t.ok = b := ⟨_, rfl⟩
  rw [hok] at hf
  have HOK := Lib.hid hok
  clear hok
  have HW := Lib.hid (wb_new x y w)
  unfold Gives numV
  obtain ⟨W0, hW0⟩ : ∃ W0, (((((w.alloc (.cells #[.int .u64 (u x.v), .int .u64 (u x.m), .int .u64 (u x.a), .int .u64 (u x.b), .int .i64 (s x.c), .int .i64 (s x.d)] 26)).alloc (.cells #[.int .u64 (u y.v), .int .u64 (u y.m), .int .u64 (u y.a), .int .u64 (u y.b), .int .i64 (s y.c), .int .i64 (s y.d)] 26)).alloc (.cells #[.int .u64 0, .int .u64 0, .int .u64 0, .int .u64 0, .int .i64 0, .int .i64 0] 26)).alloc (.cells #[.int .u64 0, .int .u64 0, .int .u64 0, .int .u64 0, .int .i64 0, .int .i64 0] 26)).alloc (.cells #[.int .u64 0, .int .u64 0, .int .u64 0, .int .u64 0, .int .i64 0, .int .i64 0, .int .u64 0, .int .u64 0, .int .u64 0, .int .u64 0, .int .i64 0, .int .i64 0] 38)) = W0 := ⟨_, rfl⟩
  rw [hW0] at HW
  obtain ⟨x0, x1, x2, x3, x4, x5⟩ := num_cells HW.out.1.1
  obtain ⟨y0, y1, y2, y3, y4, y5⟩ := num_cells HW.out.1.2
  obtain ⟨r0, r1, r2, r3, r4, r5⟩ := num_cells HW.out.2.1.1
  obtain ⟨t0, t1, t2, t3, t4, t5⟩ := num_cells HW.out.2.1.2
  obtain ⟨k0, k1, k2, k3, k4, k5⟩ := num_free HW.out.2.1.1
  obtain ⟨l0, l1, l2, l3, l4, l5⟩ := num_free HW.out.2.1.2
  obtain ⟨⟨p0, p1, p2, p3, p4, p5⟩, ⟨q0, q1, q2, q3, q4, q5⟩⟩ := pair_cells HW.out.2.2.1
  obtain ⟨⟨f0, f1, f2, f3, f4, f5⟩, ⟨g0, g1, g2, g3, g4, g5⟩⟩ := pair_free HW.out.2.2.1
  go_enter Try.func6, Try.ntmps6
  go_upto_region 2 with fail
  clear hW0
  have HV := Lib.hid (wb_pair HW.out x y)
  clear x0 x1 x2 x3 x4 x5 y0 y1 y2 y3 y4 y5 r0 r1 r2 r3 r4 r5 t0 t1 t2 t3 t4 t5 k0 k1 k2 k3 k4 k5 l0 l1 l2 l3 l4 l5 p0 p1 p2 p3 p4 p5 q0 q1 q2 q3 q4 q5 f0 f1 f2 f3 f4 f5 g0 g1 g2 g3 g4 g5
  generalize World.setCell _ _ _ = W1 at HV ⊢
  clear HW
  have HW := Lib.hid (wb_keep HV.out (conW_below W1 11 8))
  have hk := con_look _ _ j op _ (conW_map W1 11 8) (hn _)
  have hcc := conditions_call W1
  clear HV
  have hbw := conW_below W1 11 8
  generalize conW W1 11 8 = W2 at HW hk hcc hbw
  have hS1 := hS W1.heap.size
  obtain ⟨B, hB⟩ : ∃ B, W1.heap.size = B := ⟨_, rfl⟩
  rw [hB] at hk hcc hS1
  obtain ⟨a1, ha1⟩ : ∃ a, A1 B = a := ⟨_, rfl⟩
  obtain ⟨a2, ha2⟩ : ∃ a, A2 B = a := ⟨_, rfl⟩
  obtain ⟨c1, hc1⟩ : ∃ a, C1 B = a := ⟨_, rfl⟩
  obtain ⟨c2, hc2⟩ : ∃ a, C2 B = a := ⟨_, rfl⟩
  rw [ha1, ha2, hc1, hc2] at hk hS1
  clear hn hS hB ha1 ha2 hc1 hc2 hbw
  have HS := Lib.hid hS1
  clear hS1
  obtain ⟨x0, x1, x2, x3, x4, x5⟩ := num_cells HW.out.1.1
  obtain ⟨y0, y1, y2, y3, y4, y5⟩ := num_cells HW.out.1.2
  obtain ⟨r0, r1, r2, r3, r4, r5⟩ := num_cells HW.out.2.1.1
  obtain ⟨t0, t1, t2, t3, t4, t5⟩ := num_cells HW.out.2.1.2
  obtain ⟨k0, k1, k2, k3, k4, k5⟩ := num_free HW.out.2.1.1
  obtain ⟨l0, l1, l2, l3, l4, l5⟩ := num_free HW.out.2.1.2
  obtain ⟨⟨p0, p1, p2, p3, p4, p5⟩, ⟨q0, q1, q2, q3, q4, q5⟩⟩ := pair_cells HW.out.2.2.1
  obtain ⟨⟨f0, f1, f2, f3, f4, f5⟩, ⟨g0, g1, g2, g3, g4, g5⟩⟩ := pair_free HW.out.2.2.1
  go_upto_region 3 with (go_at_call 12; refine hcc.mono ?_; rintro e w1 ⟨rfl, rfl⟩)
  clear hk hcc
  clear x0 x1 x2 x3 x4 x5 y0 y1 y2 y3 y4 y5 r0 r1 r2 r3 r4 r5 t0 t1 t2 t3 t4 t5 k0 k1 k2 k3 k4 k5 l0 l1 l2 l3 l4 l5 p0 p1 p2 p3 p4 p5 q0 q1 q2 q3 q4 q5 f0 f1 f2 f3 f4 f5 g0 g1 g2 g3 g4 g5
  have HV := Lib.hid (wb_keep HW.out (con_below W2 (.func a1 #[] c1) (.func a2 #[] c2)))
  have HC := Lib.hid (con_new W2 (.func a1 #[] c1) (.func a2 #[] c2))
  clear HW
  obtain ⟨C, hC⟩ : ∃ C, W2.heap.size = C := ⟨_, rfl⟩
  rw [hC] at HC ⊢
  clear hC
  generalize World.alloc _ _ = W3 at HV HC ⊢
  obtain ⟨W4, hWd⟩ : ∃ Wd, W3 = Wd := ⟨_, rfl⟩
  rw [hWd] at HV HC ⊢
  clear hWd
  have HW := HV
  clear HV
  obtain ⟨x0, x1, x2, x3, x4, x5⟩ := num_cells HW.out.1.1
  obtain ⟨y0, y1, y2, y3, y4, y5⟩ := num_cells HW.out.1.2
  obtain ⟨r0, r1, r2, r3, r4, r5⟩ := num_cells HW.out.2.1.1
  obtain ⟨t0, t1, t2, t3, t4, t5⟩ := num_cells HW.out.2.1.2
  obtain ⟨k0, k1, k2, k3, k4, k5⟩ := num_free HW.out.2.1.1
  obtain ⟨l0, l1, l2, l3, l4, l5⟩ := num_free HW.out.2.1.2
  obtain ⟨⟨p0, p1, p2, p3, p4, p5⟩, ⟨q0, q1, q2, q3, q4, q5⟩⟩ := pair_cells HW.out.2.2.1
  obtain ⟨⟨f0, f1, f2, f3, f4, f5⟩, ⟨g0, g1, g2, g3, g4, g5⟩⟩ := pair_free HW.out.2.2.1
  obtain ⟨m0, m1⟩ := con_cells HC.out
  go_cut [37] (fun c wx => c = .bool false ∧ Below W4.heap.size W4 wx)
  case first =>
    have hg := HG.out
    cases wide
    · have hg1 := hg.resolve_left Bool.false_ne_true
      have h4 := fun W => four_yes op x y W hg1.1
      rw [hg1.2.1, hg1.2.2] at h4
      clear hg hg1
      unfold pairV pairC at h4
      go_wp2_with (go_at_call 13; refine (h4 _).mono ?_; rintro e w1 ⟨rfl, hb⟩; have HB := Lib.hid hb; clear hb)
      go_meet
      exact ⟨rfl, HB.out⟩
    · clear hg
      go_wp2_with fail
      go_meet
      exact ⟨rfl, Below.refl _ _⟩
  case rest =>
    obtain ⟨rfl, hb⟩ := hcut
    have HV := Lib.hid (wb_keep HW.out hb)
    have HD := Lib.hid (con_keep HC.out hb)
    clear x0 x1 x2 x3 x4 x5 y0 y1 y2 y3 y4 y5 r0 r1 r2 r3 r4 r5 t0 t1 t2 t3 t4 t5 k0 k1 k2 k3 k4 k5 l0 l1 l2 l3 l4 l5 p0 p1 p2 p3 p4 p5 q0 q1 q2 q3 q4 q5 f0 f1 f2 f3 f4 f5 g0 g1 g2 g3 g4 g5
    clear m0 m1 HW HC hb
    have HW := HV
    have HC := HD
    clear HV HD
    rename World => W5
    obtain ⟨x0, x1, x2, x3, x4, x5⟩ := num_cells HW.out.1.1
    obtain ⟨y0, y1, y2, y3, y4, y5⟩ := num_cells HW.out.1.2
    obtain ⟨r0, r1, r2, r3, r4, r5⟩ := num_cells HW.out.2.1.1
    obtain ⟨t0, t1, t2, t3, t4, t5⟩ := num_cells HW.out.2.1.2
    obtain ⟨k0, k1, k2, k3, k4, k5⟩ := num_free HW.out.2.1.1
    obtain ⟨l0, l1, l2, l3, l4, l5⟩ := num_free HW.out.2.1.2
    obtain ⟨⟨p0, p1, p2, p3, p4, p5⟩, ⟨q0, q1, q2, q3, q4, q5⟩⟩ := pair_cells HW.out.2.2.1
    obtain ⟨⟨f0, f1, f2, f3, f4, f5⟩, ⟨g0, g1, g2, g3, g4, g5⟩⟩ := pair_free HW.out.2.2.1
    obtain ⟨m0, m1⟩ := con_cells HC.out
    go_upto_region 5 with fail
    go_cut [16] (fun c wx => c = .func a2 #[] c2 ∧ wx = W5)
    case first =>
      go_wp2_with fail
      go_meet
      exact ⟨rfl, rfl⟩
    case rest =>
      obtain ⟨rfl, hw⟩ := hcut
      rw [hw]
      clear hw
      go_upto_if 42 with fail
      go_cut [16] (fun c wx => c = (.func (.func 20) #[] #[]) ∧ wx = W5)
      case first =>
        have hS1 := HS.out
        cases hs
        · go_wp2_with fail
          go_meet
          exact ⟨hS1, rfl⟩
        · go_wp2_with fail
          go_meet
          exact ⟨hS1, rfl⟩
      case rest =>
        obtain ⟨rfl, hw⟩ := hcut
        rw [hw]
        clear hw m0 m1 HC
        unfold pairV pairC at hf
        go_upto_region 9 with (go_at_call 20; refine (hf _).mono ?_; rintro e w1 ⟨rfl, hb⟩; have HV := Lib.hid (wb_keep HW.out hb); clear hb; clear x0 x1 x2 x3 x4 x5 y0 y1 y2 y3 y4 y5 r0 r1 r2 r3 r4 r5 t0 t1 t2 t3 t4 t5 k0 k1 k2 k3 k4 k5 l0 l1 l2 l3 l4 l5 p0 p1 p2 p3 p4 p5 q0 q1 q2 q3 q4 q5 f0 f1 f2 f3 f4 f5 g0 g1 g2 g3 g4 g5; clear HW; have HW := HV; clear HV; obtain ⟨x0, x1, x2, x3, x4, x5⟩ := num_cells HW.out.1.1; obtain ⟨y0, y1, y2, y3, y4, y5⟩ := num_cells HW.out.1.2; obtain ⟨r0, r1, r2, r3, r4, r5⟩ := num_cells HW.out.2.1.1; obtain ⟨t0, t1, t2, t3, t4, t5⟩ := num_cells HW.out.2.1.2; obtain ⟨k0, k1, k2, k3, k4, k5⟩ := num_free HW.out.2.1.1; obtain ⟨l0, l1, l2, l3, l4, l5⟩ := num_free HW.out.2.1.2; obtain ⟨⟨p0, p1, p2, p3, p4, p5⟩, ⟨q0, q1, q2, q3, q4, q5⟩⟩ := pair_cells HW.out.2.2.1; obtain ⟨⟨f0, f1, f2, f3, f4, f5⟩, ⟨g0, g1, g2, g3, g4, g5⟩⟩ := pair_free HW.out.2.2.1)
        clear hf
        have HV := Lib.hid (wb_pair HW.out t.x t.y)
        clear x0 x1 x2 x3 x4 x5 y0 y1 y2 y3 y4 y5 r0 r1 r2 r3 r4 r5 t0 t1 t2 t3 t4 t5 k0 k1 k2 k3 k4 k5 l0 l1 l2 l3 l4 l5 p0 p1 p2 p3 p4 p5 q0 q1 q2 q3 q4 q5 f0 f1 f2 f3 f4 f5 g0 g1 g2 g3 g4 g5
        generalize World.setCell _ _ _ = W6 at HV ⊢
        obtain ⟨W7, hWd⟩ : ∃ Wd, W6 = Wd := ⟨_, rfl⟩
        rw [hWd] at HV ⊢
        clear hWd
        clear HW
        have HW := HV
        clear HV
        have hv := HVV.out
        unfold backV Tw.good at hv
        rw [HOK.out] at hv
        clear HVV
        cases ok
        · rw [Bool.false_and, if_neg Bool.false_ne_true] at hv
          have HVV := Lib.hid hv
          clear hv
          obtain ⟨x0, x1, x2, x3, x4, x5⟩ := num_cells HW.out.1.1
          obtain ⟨y0, y1, y2, y3, y4, y5⟩ := num_cells HW.out.1.2
          obtain ⟨r0, r1, r2, r3, r4, r5⟩ := num_cells HW.out.2.1.1
          obtain ⟨t0, t1, t2, t3, t4, t5⟩ := num_cells HW.out.2.1.2
          obtain ⟨k0, k1, k2, k3, k4, k5⟩ := num_free HW.out.2.1.1
          obtain ⟨l0, l1, l2, l3, l4, l5⟩ := num_free HW.out.2.1.2
          obtain ⟨⟨p0, p1, p2, p3, p4, p5⟩, ⟨q0, q1, q2, q3, q4, q5⟩⟩ := pair_cells HW.out.2.2.1
          obtain ⟨⟨f0, f1, f2, f3, f4, f5⟩, ⟨g0, g1, g2, g3, g4, g5⟩⟩ := pair_free HW.out.2.2.1
          go_wp2_with fail
          clear p0 p1 p2 p3 p4 p5 q0 q1 q2 q3 q4 q5 f0 f1 f2 f3 f4 f5 g0 g1 g2 g3 g4 g5
          go_region
          all_goals
            first
              | (have HF := Lib.hid (wb_told HW.out (x) (y)); generalize World.setCell _ _ _ = Wf at HF ⊢; obtain ⟨Wg, hWg⟩ : ∃ Wg, Wf = Wg := ⟨_, rfl⟩; rw [hWg] at HF ⊢; clear hWg; obtain ⟨z0, z1, z2, z3, z4, z5⟩ := num_cells HF.out.1; obtain ⟨e0, e1, e2, e3, e4, e5⟩ := num_cells HF.out.2.1; go_wp2_with fail; exact bodyPost_ret (v := .tuple #[numV (x), numV (y), .bool false]) (by unfold numV; simp [results, Try.results6, go_sem, z0, z1, z2, z3, z4, z5, e0, e1, e2, e3, e4, e5]) rfl ⟨congrArg Ending.returned HVV.out, HF.out.2.2.drew⟩)
              | (have HF := Lib.hid (wb_told2 HW.out (x) (y)); generalize World.setCell _ _ _ = Wf at HF ⊢; obtain ⟨Wg, hWg⟩ : ∃ Wg, Wf = Wg := ⟨_, rfl⟩; rw [hWg] at HF ⊢; clear hWg; obtain ⟨z0, z1, z2, z3, z4, z5⟩ := num_cells HF.out.1; obtain ⟨e0, e1, e2, e3, e4, e5⟩ := num_cells HF.out.2.1; go_wp2_with fail; exact bodyPost_ret (v := .tuple #[numV (x), numV (y), .bool false]) (by unfold numV; simp [results, Try.results6, go_sem, z0, z1, z2, z3, z4, z5, e0, e1, e2, e3, e4, e5]) rfl ⟨congrArg Ending.returned HVV.out, HF.out.2.2.drew⟩)
        · rw [Bool.true_and] at hv
          have h14 := fun W => refined_pair t.x t.y W
          obtain ⟨P, hP⟩ : ∃ P, t.x.fine = P := ⟨_, rfl⟩
          obtain ⟨Q, hQ⟩ : ∃ Q, t.y.fine = Q := ⟨_, rfl⟩
          obtain ⟨q, hq⟩ : ∃ q, (t.x.okF && t.y.okF) = q := ⟨_, rfl⟩
          rw [hP, hQ, hq] at h14
          rw [hP, hQ, hq] at hv
          clear hP hQ hq
          have HVV := Lib.hid hv
          clear hv
          unfold pairV pairC at h14
          obtain ⟨x0, x1, x2, x3, x4, x5⟩ := num_cells HW.out.1.1
          obtain ⟨y0, y1, y2, y3, y4, y5⟩ := num_cells HW.out.1.2
          obtain ⟨r0, r1, r2, r3, r4, r5⟩ := num_cells HW.out.2.1.1
          obtain ⟨t0, t1, t2, t3, t4, t5⟩ := num_cells HW.out.2.1.2
          obtain ⟨k0, k1, k2, k3, k4, k5⟩ := num_free HW.out.2.1.1
          obtain ⟨l0, l1, l2, l3, l4, l5⟩ := num_free HW.out.2.1.2
          obtain ⟨⟨p0, p1, p2, p3, p4, p5⟩, ⟨q0, q1, q2, q3, q4, q5⟩⟩ := pair_cells HW.out.2.2.1
          obtain ⟨⟨f0, f1, f2, f3, f4, f5⟩, ⟨g0, g1, g2, g3, g4, g5⟩⟩ := pair_free HW.out.2.2.1
          go_upto_region 12 with (go_at_call 14; refine (h14 _).mono ?_; rintro e w2 ⟨rfl, hb⟩; have HV := Lib.hid (wb_keep HW.out hb); clear hb; clear x0 x1 x2 x3 x4 x5 y0 y1 y2 y3 y4 y5 r0 r1 r2 r3 r4 r5 t0 t1 t2 t3 t4 t5 k0 k1 k2 k3 k4 k5 l0 l1 l2 l3 l4 l5 p0 p1 p2 p3 p4 p5 q0 q1 q2 q3 q4 q5 f0 f1 f2 f3 f4 f5 g0 g1 g2 g3 g4 g5; clear HW; have HW := HV; clear HV; obtain ⟨x0, x1, x2, x3, x4, x5⟩ := num_cells HW.out.1.1; obtain ⟨y0, y1, y2, y3, y4, y5⟩ := num_cells HW.out.1.2; obtain ⟨r0, r1, r2, r3, r4, r5⟩ := num_cells HW.out.2.1.1; obtain ⟨t0, t1, t2, t3, t4, t5⟩ := num_cells HW.out.2.1.2; obtain ⟨k0, k1, k2, k3, k4, k5⟩ := num_free HW.out.2.1.1; obtain ⟨l0, l1, l2, l3, l4, l5⟩ := num_free HW.out.2.1.2; obtain ⟨⟨p0, p1, p2, p3, p4, p5⟩, ⟨q0, q1, q2, q3, q4, q5⟩⟩ := pair_cells HW.out.2.2.1; obtain ⟨⟨f0, f1, f2, f3, f4, f5⟩, ⟨g0, g1, g2, g3, g4, g5⟩⟩ := pair_free HW.out.2.2.1)
          clear h14
          have HV := Lib.hid (wb_pair HW.out P Q)
          clear x0 x1 x2 x3 x4 x5 y0 y1 y2 y3 y4 y5 r0 r1 r2 r3 r4 r5 t0 t1 t2 t3 t4 t5 k0 k1 k2 k3 k4 k5 l0 l1 l2 l3 l4 l5 p0 p1 p2 p3 p4 p5 q0 q1 q2 q3 q4 q5 f0 f1 f2 f3 f4 f5 g0 g1 g2 g3 g4 g5
          generalize World.setCell _ _ _ = W8 at HV ⊢
          obtain ⟨W9, hWd⟩ : ∃ Wd, W8 = Wd := ⟨_, rfl⟩
          rw [hWd] at HV ⊢
          clear hWd
          clear HW
          have HW := HV
          clear HV
          obtain ⟨x0, x1, x2, x3, x4, x5⟩ := num_cells HW.out.1.1
          obtain ⟨y0, y1, y2, y3, y4, y5⟩ := num_cells HW.out.1.2
          obtain ⟨r0, r1, r2, r3, r4, r5⟩ := num_cells HW.out.2.1.1
          obtain ⟨t0, t1, t2, t3, t4, t5⟩ := num_cells HW.out.2.1.2
          obtain ⟨k0, k1, k2, k3, k4, k5⟩ := num_free HW.out.2.1.1
          obtain ⟨l0, l1, l2, l3, l4, l5⟩ := num_free HW.out.2.1.2
          obtain ⟨⟨p0, p1, p2, p3, p4, p5⟩, ⟨q0, q1, q2, q3, q4, q5⟩⟩ := pair_cells HW.out.2.2.1
          obtain ⟨⟨f0, f1, f2, f3, f4, f5⟩, ⟨g0, g1, g2, g3, g4, g5⟩⟩ := pair_free HW.out.2.2.1
          have hv := HVV.out
          clear HVV
          cases q
          · rw [if_neg Bool.false_ne_true] at hv
            have HVV := Lib.hid hv
            clear hv
            go_wp2_with fail
            clear p0 p1 p2 p3 p4 p5 q0 q1 q2 q3 q4 q5 f0 f1 f2 f3 f4 f5 g0 g1 g2 g3 g4 g5
            go_region
            all_goals
              first
                | (have HF := Lib.hid (wb_told HW.out (x) (y)); generalize World.setCell _ _ _ = Wf at HF ⊢; obtain ⟨Wg, hWg⟩ : ∃ Wg, Wf = Wg := ⟨_, rfl⟩; rw [hWg] at HF ⊢; clear hWg; obtain ⟨z0, z1, z2, z3, z4, z5⟩ := num_cells HF.out.1; obtain ⟨e0, e1, e2, e3, e4, e5⟩ := num_cells HF.out.2.1; go_wp2_with fail; exact bodyPost_ret (v := .tuple #[numV (x), numV (y), .bool false]) (by unfold numV; simp [results, Try.results6, go_sem, z0, z1, z2, z3, z4, z5, e0, e1, e2, e3, e4, e5]) rfl ⟨congrArg Ending.returned HVV.out, HF.out.2.2.drew⟩)
                | (have HF := Lib.hid (wb_told2 HW.out (x) (y)); generalize World.setCell _ _ _ = Wf at HF ⊢; obtain ⟨Wg, hWg⟩ : ∃ Wg, Wf = Wg := ⟨_, rfl⟩; rw [hWg] at HF ⊢; clear hWg; obtain ⟨z0, z1, z2, z3, z4, z5⟩ := num_cells HF.out.1; obtain ⟨e0, e1, e2, e3, e4, e5⟩ := num_cells HF.out.2.1; go_wp2_with fail; exact bodyPost_ret (v := .tuple #[numV (x), numV (y), .bool false]) (by unfold numV; simp [results, Try.results6, go_sem, z0, z1, z2, z3, z4, z5, e0, e1, e2, e3, e4, e5]) rfl ⟨congrArg Ending.returned HVV.out, HF.out.2.2.drew⟩)
          · rw [if_pos rfl] at hv
            have HVV := Lib.hid hv
            clear hv
            go_wp2_with fail
            clear x0 x1 x2 x3 x4 x5 y0 y1 y2 y3 y4 y5 f0 f1 f2 f3 f4 f5 g0 g1 g2 g3 g4 g5
            go_region
            all_goals
              first
                | (have HF := Lib.hid (wb_told HW.out (P) (Q)); generalize World.setCell _ _ _ = Wf at HF ⊢; obtain ⟨Wg, hWg⟩ : ∃ Wg, Wf = Wg := ⟨_, rfl⟩; rw [hWg] at HF ⊢; clear hWg; obtain ⟨z0, z1, z2, z3, z4, z5⟩ := num_cells HF.out.1; obtain ⟨e0, e1, e2, e3, e4, e5⟩ := num_cells HF.out.2.1; go_wp2_with fail; exact bodyPost_ret (v := .tuple #[numV (P), numV (Q), .bool true]) (by unfold numV; simp [results, Try.results6, go_sem, z0, z1, z2, z3, z4, z5, e0, e1, e2, e3, e4, e5]) rfl ⟨congrArg Ending.returned HVV.out, HF.out.2.2.drew⟩)
                | (have HF := Lib.hid (wb_told2 HW.out (P) (Q)); generalize World.setCell _ _ _ = Wf at HF ⊢; obtain ⟨Wg, hWg⟩ : ∃ Wg, Wf = Wg := ⟨_, rfl⟩; rw [hWg] at HF ⊢; clear hWg; obtain ⟨z0, z1, z2, z3, z4, z5⟩ := num_cells HF.out.1; obtain ⟨e0, e1, e2, e3, e4, e5⟩ := num_cells HF.out.2.1; go_wp2_with fail; exact bodyPost_ret (v := .tuple #[numV (P), numV (Q), .bool true]) (by unfold numV; simp [results, Try.results6, go_sem, z0, z1, z2, z3, z4, z5, e0, e1, e2, e3, e4, e5]) rfl ⟨congrArg Ending.returned HVV.out, HF.out.2.2.drew⟩)
set_option maxRecDepth 100000 in
set_option maxHeartbeats 16000000 in
theorem way_21 (op : Int) (wide hs : Bool) (x y : K) (t : Tw) (j : Nat) (A1 A2 : Nat → Fn) (C1 C2 : Nat → Array Value) (w : World)
    (hf : ∀ W, Calls Try.prog 21 #[pairV x y] W (Gives (.tuple #[pairV t.x t.y, .bool t.ok]) W))
    (hS : ∀ B, (if hs = true then Value.func (A1 B) #[] (C1 B) else .func (A2 B) #[] (C2 B)) = fnV 21)
    (hn : ∀ B, Instr.findNow (.int .u8) (.int .u8 op) (conEnts B 11).toList 0 = some (some (j, .agg #[.func (A1 B) #[] (C1 B), .func (A2 B) #[] (C2 B)])))
    (hg : wide = true ∨ (isSig op = false ∧ lowK x = true ∧ lowK y = true)) :
    Calls Try.prog 6 #[.int .u8 op, .bool wide, numV x, numV y, .bool hs] w (Gives (backV x y t) w) := by
  have HG := Lib.hid hg
  clear hg
  obtain ⟨V, hV⟩ : ∃ V, backV x y t = V := ⟨_, rfl⟩
  rw [hV]
  have HVV := Lib.hid hV
  clear hV
  obtain ⟨ok, hok⟩ : ∃ b, t.ok = b := ⟨_, rfl⟩
  rw [hok] at hf
  have HOK := Lib.hid hok
  clear hok
  have HW := Lib.hid (wb_new x y w)
  unfold Gives numV
  obtain ⟨W0, hW0⟩ : ∃ W0, (((((w.alloc (.cells #[.int .u64 (u x.v), .int .u64 (u x.m), .int .u64 (u x.a), .int .u64 (u x.b), .int .i64 (s x.c), .int .i64 (s x.d)] 26)).alloc (.cells #[.int .u64 (u y.v), .int .u64 (u y.m), .int .u64 (u y.a), .int .u64 (u y.b), .int .i64 (s y.c), .int .i64 (s y.d)] 26)).alloc (.cells #[.int .u64 0, .int .u64 0, .int .u64 0, .int .u64 0, .int .i64 0, .int .i64 0] 26)).alloc (.cells #[.int .u64 0, .int .u64 0, .int .u64 0, .int .u64 0, .int .i64 0, .int .i64 0] 26)).alloc (.cells #[.int .u64 0, .int .u64 0, .int .u64 0, .int .u64 0, .int .i64 0, .int .i64 0, .int .u64 0, .int .u64 0, .int .u64 0, .int .u64 0, .int .i64 0, .int .i64 0] 38)) = W0 := ⟨_, rfl⟩
  rw [hW0] at HW
  obtain ⟨x0, x1, x2, x3, x4, x5⟩ := num_cells HW.out.1.1
  obtain ⟨y0, y1, y2, y3, y4, y5⟩ := num_cells HW.out.1.2
  obtain ⟨r0, r1, r2, r3, r4, r5⟩ := num_cells HW.out.2.1.1
  obtain ⟨t0, t1, t2, t3, t4, t5⟩ := num_cells HW.out.2.1.2
  obtain ⟨k0, k1, k2, k3, k4, k5⟩ := num_free HW.out.2.1.1
  obtain ⟨l0, l1, l2, l3, l4, l5⟩ := num_free HW.out.2.1.2
  obtain ⟨⟨p0, p1, p2, p3, p4, p5⟩, ⟨q0, q1, q2, q3, q4, q5⟩⟩ := pair_cells HW.out.2.2.1
  obtain ⟨⟨f0, f1, f2, f3, f4, f5⟩, ⟨g0, g1, g2, g3, g4, g5⟩⟩ := pair_free HW.out.2.2.1
  go_enter Try.func6, Try.ntmps6
  go_upto_region 2 with fail
  clear hW0
  have HV := Lib.hid (wb_pair HW.out x y)
  clear x0 x1 x2 x3 x4 x5 y0 y1 y2 y3 y4 y5 r0 r1 r2 r3 r4 r5 t0 t1 t2 t3 t4 t5 k0 k1 k2 k3 k4 k5 l0 l1 l2 l3 l4 l5 p0 p1 p2 p3 p4 p5 q0 q1 q2 q3 q4 q5 f0 f1 f2 f3 f4 f5 g0 g1 g2 g3 g4 g5
  generalize World.setCell _ _ _ = W1 at HV ⊢
  clear HW
  have HW := Lib.hid (wb_keep HV.out (conW_below W1 11 8))
  have hk := con_look _ _ j op _ (conW_map W1 11 8) (hn _)
  have hcc := conditions_call W1
  clear HV
  have hbw := conW_below W1 11 8
  generalize conW W1 11 8 = W2 at HW hk hcc hbw
  have hS1 := hS W1.heap.size
  obtain ⟨B, hB⟩ : ∃ B, W1.heap.size = B := ⟨_, rfl⟩
  rw [hB] at hk hcc hS1
  obtain ⟨a1, ha1⟩ : ∃ a, A1 B = a := ⟨_, rfl⟩
  obtain ⟨a2, ha2⟩ : ∃ a, A2 B = a := ⟨_, rfl⟩
  obtain ⟨c1, hc1⟩ : ∃ a, C1 B = a := ⟨_, rfl⟩
  obtain ⟨c2, hc2⟩ : ∃ a, C2 B = a := ⟨_, rfl⟩
  rw [ha1, ha2, hc1, hc2] at hk hS1
  clear hn hS hB ha1 ha2 hc1 hc2 hbw
  have HS := Lib.hid hS1
  clear hS1
  obtain ⟨x0, x1, x2, x3, x4, x5⟩ := num_cells HW.out.1.1
  obtain ⟨y0, y1, y2, y3, y4, y5⟩ := num_cells HW.out.1.2
  obtain ⟨r0, r1, r2, r3, r4, r5⟩ := num_cells HW.out.2.1.1
  obtain ⟨t0, t1, t2, t3, t4, t5⟩ := num_cells HW.out.2.1.2
  obtain ⟨k0, k1, k2, k3, k4, k5⟩ := num_free HW.out.2.1.1
  obtain ⟨l0, l1, l2, l3, l4, l5⟩ := num_free HW.out.2.1.2
  obtain ⟨⟨p0, p1, p2, p3, p4, p5⟩, ⟨q0, q1, q2, q3, q4, q5⟩⟩ := pair_cells HW.out.2.2.1
  obtain ⟨⟨f0, f1, f2, f3, f4, f5⟩, ⟨g0, g1, g2, g3, g4, g5⟩⟩ := pair_free HW.out.2.2.1
  go_upto_region 3 with (go_at_call 12; refine hcc.mono ?_; rintro e w1 ⟨rfl, rfl⟩)
  clear hk hcc
  clear x0 x1 x2 x3 x4 x5 y0 y1 y2 y3 y4 y5 r0 r1 r2 r3 r4 r5 t0 t1 t2 t3 t4 t5 k0 k1 k2 k3 k4 k5 l0 l1 l2 l3 l4 l5 p0 p1 p2 p3 p4 p5 q0 q1 q2 q3 q4 q5 f0 f1 f2 f3 f4 f5 g0 g1 g2 g3 g4 g5
  have HV := Lib.hid (wb_keep HW.out (con_below W2 (.func a1 #[] c1) (.func a2 #[] c2)))
  have HC := Lib.hid (con_new W2 (.func a1 #[] c1) (.func a2 #[] c2))
  clear HW
  obtain ⟨C, hC⟩ : ∃ C, W2.heap.size = C := ⟨_, rfl⟩
  rw [hC] at HC ⊢
  clear hC
  generalize World.alloc _ _ = W3 at HV HC ⊢
  obtain ⟨W4, hWd⟩ : ∃ Wd, W3 = Wd := ⟨_, rfl⟩
  rw [hWd] at HV HC ⊢
  clear hWd
  have HW := HV
  clear HV
  obtain ⟨x0, x1, x2, x3, x4, x5⟩ := num_cells HW.out.1.1
  obtain ⟨y0, y1, y2, y3, y4, y5⟩ := num_cells HW.out.1.2
  obtain ⟨r0, r1, r2, r3, r4, r5⟩ := num_cells HW.out.2.1.1
  obtain ⟨t0, t1, t2, t3, t4, t5⟩ := num_cells HW.out.2.1.2
  obtain ⟨k0, k1, k2, k3, k4, k5⟩ := num_free HW.out.2.1.1
  obtain ⟨l0, l1, l2, l3, l4, l5⟩ := num_free HW.out.2.1.2
  obtain ⟨⟨p0, p1, p2, p3, p4, p5⟩, ⟨q0, q1, q2, q3, q4, q5⟩⟩ := pair_cells HW.out.2.2.1
  obtain ⟨⟨f0, f1, f2, f3, f4, f5⟩, ⟨g0, g1, g2, g3, g4, g5⟩⟩ := pair_free HW.out.2.2.1
  obtain ⟨m0, m1⟩ := con_cells HC.out
  go_cut [37] (fun c wx => c = .bool false ∧ Below W4.heap.size W4 wx)
  case first =>
    have hg := HG.out
    cases wide
    · have hg1 := hg.resolve_left Bool.false_ne_true
      have h4 := fun W => four_yes op x y W hg1.1
      rw [hg1.2.1, hg1.2.2] at h4
      clear hg hg1
      unfold pairV pairC at h4
      go_wp2_with (go_at_call 13; refine (h4 _).mono ?_; rintro e w1 ⟨rfl, hb⟩; have HB := Lib.hid hb; clear hb)
      go_meet
      exact ⟨rfl, HB.out⟩
    · clear hg
      go_wp2_with fail
      go_meet
      exact ⟨rfl, Below.refl _ _⟩
  case rest =>
    obtain ⟨rfl, hb⟩ := hcut
    have HV := Lib.hid (wb_keep HW.out hb)
    have HD := Lib.hid (con_keep HC.out hb)
    clear x0 x1 x2 x3 x4 x5 y0 y1 y2 y3 y4 y5 r0 r1 r2 r3 r4 r5 t0 t1 t2 t3 t4 t5 k0 k1 k2 k3 k4 k5 l0 l1 l2 l3 l4 l5 p0 p1 p2 p3 p4 p5 q0 q1 q2 q3 q4 q5 f0 f1 f2 f3 f4 f5 g0 g1 g2 g3 g4 g5
    clear m0 m1 HW HC hb
    have HW := HV
    have HC := HD
    clear HV HD
    rename World => W5
    obtain ⟨x0, x1, x2, x3, x4, x5⟩ := num_cells HW.out.1.1
    obtain ⟨y0, y1, y2, y3, y4, y5⟩ := num_cells HW.out.1.2
    obtain ⟨r0, r1, r2, r3, r4, r5⟩ := num_cells HW.out.2.1.1
    obtain ⟨t0, t1, t2, t3, t4, t5⟩ := num_cells HW.out.2.1.2
    obtain ⟨k0, k1, k2, k3, k4, k5⟩ := num_free HW.out.2.1.1
    obtain ⟨l0, l1, l2, l3, l4, l5⟩ := num_free HW.out.2.1.2
    obtain ⟨⟨p0, p1, p2, p3, p4, p5⟩, ⟨q0, q1, q2, q3, q4, q5⟩⟩ := pair_cells HW.out.2.2.1
    obtain ⟨⟨f0, f1, f2, f3, f4, f5⟩, ⟨g0, g1, g2, g3, g4, g5⟩⟩ := pair_free HW.out.2.2.1
    obtain ⟨m0, m1⟩ := con_cells HC.out
    go_upto_region 5 with fail
    go_cut [16] (fun c wx => c = .func a2 #[] c2 ∧ wx = W5)
    case first =>
      go_wp2_with fail
      go_meet
      exact ⟨rfl, rfl⟩
    case rest =>
      obtain ⟨rfl, hw⟩ := hcut
      rw [hw]
      clear hw
      go_upto_if 42 with fail
      go_cut [16] (fun c wx => c = (.func (.func 21) #[] #[]) ∧ wx = W5)
      case first =>
        have hS1 := HS.out
        cases hs
        · go_wp2_with fail
          go_meet
          exact ⟨hS1, rfl⟩
        · go_wp2_with fail
          go_meet
          exact ⟨hS1, rfl⟩
      case rest =>
        obtain ⟨rfl, hw⟩ := hcut
        rw [hw]
        clear hw m0 m1 HC
        unfold pairV pairC at hf
        go_upto_region 9 with (go_at_call 21; refine (hf _).mono ?_; rintro e w1 ⟨rfl, hb⟩; have HV := Lib.hid (wb_keep HW.out hb); clear hb; clear x0 x1 x2 x3 x4 x5 y0 y1 y2 y3 y4 y5 r0 r1 r2 r3 r4 r5 t0 t1 t2 t3 t4 t5 k0 k1 k2 k3 k4 k5 l0 l1 l2 l3 l4 l5 p0 p1 p2 p3 p4 p5 q0 q1 q2 q3 q4 q5 f0 f1 f2 f3 f4 f5 g0 g1 g2 g3 g4 g5; clear HW; have HW := HV; clear HV; obtain ⟨x0, x1, x2, x3, x4, x5⟩ := num_cells HW.out.1.1; obtain ⟨y0, y1, y2, y3, y4, y5⟩ := num_cells HW.out.1.2; obtain ⟨r0, r1, r2, r3, r4, r5⟩ := num_cells HW.out.2.1.1; obtain ⟨t0, t1, t2, t3, t4, t5⟩ := num_cells HW.out.2.1.2; obtain ⟨k0, k1, k2, k3, k4, k5⟩ := num_free HW.out.2.1.1; obtain ⟨l0, l1, l2, l3, l4, l5⟩ := num_free HW.out.2.1.2; obtain ⟨⟨p0, p1, p2, p3, p4, p5⟩, ⟨q0, q1, q2, q3, q4, q5⟩⟩ := pair_cells HW.out.2.2.1; obtain ⟨⟨f0, f1, f2, f3, f4, f5⟩, ⟨g0, g1, g2, g3, g4, g5⟩⟩ := pair_free HW.out.2.2.1)
        clear hf
        have HV := Lib.hid (wb_pair HW.out t.x t.y)
        clear x0 x1 x2 x3 x4 x5 y0 y1 y2 y3 y4 y5 r0 r1 r2 r3 r4 r5 t0 t1 t2 t3 t4 t5 k0 k1 k2 k3 k4 k5 l0 l1 l2 l3 l4 l5 p0 p1 p2 p3 p4 p5 q0 q1 q2 q3 q4 q5 f0 f1 f2 f3 f4 f5 g0 g1 g2 g3 g4 g5
        generalize World.setCell _ _ _ = W6 at HV ⊢
        obtain ⟨W7, hWd⟩ : ∃ Wd, W6 = Wd := ⟨_, rfl⟩
        rw [hWd] at HV ⊢
        clear hWd
        clear HW
        have HW := HV
        clear HV
        have hv := HVV.out
        unfold backV Tw.good at hv
        rw [HOK.out] at hv
        clear HVV
        cases ok
        · rw [Bool.false_and, if_neg Bool.false_ne_true] at hv
          have HVV := Lib.hid hv
          clear hv
          obtain ⟨x0, x1, x2, x3, x4, x5⟩ := num_cells HW.out.1.1
          obtain ⟨y0, y1, y2, y3, y4, y5⟩ := num_cells HW.out.1.2
          obtain ⟨r0, r1, r2, r3, r4, r5⟩ := num_cells HW.out.2.1.1
          obtain ⟨t0, t1, t2, t3, t4, t5⟩ := num_cells HW.out.2.1.2
          obtain ⟨k0, k1, k2, k3, k4, k5⟩ := num_free HW.out.2.1.1
          obtain ⟨l0, l1, l2, l3, l4, l5⟩ := num_free HW.out.2.1.2
          obtain ⟨⟨p0, p1, p2, p3, p4, p5⟩, ⟨q0, q1, q2, q3, q4, q5⟩⟩ := pair_cells HW.out.2.2.1
          obtain ⟨⟨f0, f1, f2, f3, f4, f5⟩, ⟨g0, g1, g2, g3, g4, g5⟩⟩ := pair_free HW.out.2.2.1
          go_wp2_with fail
          clear p0 p1 p2 p3 p4 p5 q0 q1 q2 q3 q4 q5 f0 f1 f2 f3 f4 f5 g0 g1 g2 g3 g4 g5
          go_region
          all_goals
            first
              | (have HF := Lib.hid (wb_told HW.out (x) (y)); generalize World.setCell _ _ _ = Wf at HF ⊢; obtain ⟨Wg, hWg⟩ : ∃ Wg, Wf = Wg := ⟨_, rfl⟩; rw [hWg] at HF ⊢; clear hWg; obtain ⟨z0, z1, z2, z3, z4, z5⟩ := num_cells HF.out.1; obtain ⟨e0, e1, e2, e3, e4, e5⟩ := num_cells HF.out.2.1; go_wp2_with fail; exact bodyPost_ret (v := .tuple #[numV (x), numV (y), .bool false]) (by unfold numV; simp [results, Try.results6, go_sem, z0, z1, z2, z3, z4, z5, e0, e1, e2, e3, e4, e5]) rfl ⟨congrArg Ending.returned HVV.out, HF.out.2.2.drew⟩)
              | (have HF := Lib.hid (wb_told2 HW.out (x) (y)); generalize World.setCell _ _ _ = Wf at HF ⊢; obtain ⟨Wg, hWg⟩ : ∃ Wg, Wf = Wg := ⟨_, rfl⟩; rw [hWg] at HF ⊢; clear hWg; obtain ⟨z0, z1, z2, z3, z4, z5⟩ := num_cells HF.out.1; obtain ⟨e0, e1, e2, e3, e4, e5⟩ := num_cells HF.out.2.1; go_wp2_with fail; exact bodyPost_ret (v := .tuple #[numV (x), numV (y), .bool false]) (by unfold numV; simp [results, Try.results6, go_sem, z0, z1, z2, z3, z4, z5, e0, e1, e2, e3, e4, e5]) rfl ⟨congrArg Ending.returned HVV.out, HF.out.2.2.drew⟩)
        · rw [Bool.true_and] at hv
          have h14 := fun W => refined_pair t.x t.y W
          obtain ⟨P, hP⟩ : ∃ P, t.x.fine = P := ⟨_, rfl⟩
          obtain ⟨Q, hQ⟩ : ∃ Q, t.y.fine = Q := ⟨_, rfl⟩
          obtain ⟨q, hq⟩ : ∃ q, (t.x.okF && t.y.okF) = q := ⟨_, rfl⟩
          rw [hP, hQ, hq] at h14
          rw [hP, hQ, hq] at hv
          clear hP hQ hq
          have HVV := Lib.hid hv
          clear hv
          unfold pairV pairC at h14
          obtain ⟨x0, x1, x2, x3, x4, x5⟩ := num_cells HW.out.1.1
          obtain ⟨y0, y1, y2, y3, y4, y5⟩ := num_cells HW.out.1.2
          obtain ⟨r0, r1, r2, r3, r4, r5⟩ := num_cells HW.out.2.1.1
          obtain ⟨t0, t1, t2, t3, t4, t5⟩ := num_cells HW.out.2.1.2
          obtain ⟨k0, k1, k2, k3, k4, k5⟩ := num_free HW.out.2.1.1
          obtain ⟨l0, l1, l2, l3, l4, l5⟩ := num_free HW.out.2.1.2
          obtain ⟨⟨p0, p1, p2, p3, p4, p5⟩, ⟨q0, q1, q2, q3, q4, q5⟩⟩ := pair_cells HW.out.2.2.1
          obtain ⟨⟨f0, f1, f2, f3, f4, f5⟩, ⟨g0, g1, g2, g3, g4, g5⟩⟩ := pair_free HW.out.2.2.1
          go_upto_region 12 with (go_at_call 14; refine (h14 _).mono ?_; rintro e w2 ⟨rfl, hb⟩; have HV := Lib.hid (wb_keep HW.out hb); clear hb; clear x0 x1 x2 x3 x4 x5 y0 y1 y2 y3 y4 y5 r0 r1 r2 r3 r4 r5 t0 t1 t2 t3 t4 t5 k0 k1 k2 k3 k4 k5 l0 l1 l2 l3 l4 l5 p0 p1 p2 p3 p4 p5 q0 q1 q2 q3 q4 q5 f0 f1 f2 f3 f4 f5 g0 g1 g2 g3 g4 g5; clear HW; have HW := HV; clear HV; obtain ⟨x0, x1, x2, x3, x4, x5⟩ := num_cells HW.out.1.1; obtain ⟨y0, y1, y2, y3, y4, y5⟩ := num_cells HW.out.1.2; obtain ⟨r0, r1, r2, r3, r4, r5⟩ := num_cells HW.out.2.1.1; obtain ⟨t0, t1, t2, t3, t4, t5⟩ := num_cells HW.out.2.1.2; obtain ⟨k0, k1, k2, k3, k4, k5⟩ := num_free HW.out.2.1.1; obtain ⟨l0, l1, l2, l3, l4, l5⟩ := num_free HW.out.2.1.2; obtain ⟨⟨p0, p1, p2, p3, p4, p5⟩, ⟨q0, q1, q2, q3, q4, q5⟩⟩ := pair_cells HW.out.2.2.1; obtain ⟨⟨f0, f1, f2, f3, f4, f5⟩, ⟨g0, g1, g2, g3, g4, g5⟩⟩ := pair_free HW.out.2.2.1)
          clear h14
          have HV := Lib.hid (wb_pair HW.out P Q)
          clear x0 x1 x2 x3 x4 x5 y0 y1 y2 y3 y4 y5 r0 r1 r2 r3 r4 r5 t0 t1 t2 t3 t4 t5 k0 k1 k2 k3 k4 k5 l0 l1 l2 l3 l4 l5 p0 p1 p2 p3 p4 p5 q0 q1 q2 q3 q4 q5 f0 f1 f2 f3 f4 f5 g0 g1 g2 g3 g4 g5
          generalize World.setCell _ _ _ = W8 at HV ⊢
          obtain ⟨W9, hWd⟩ : ∃ Wd, W8 = Wd := ⟨_, rfl⟩
          rw [hWd] at HV ⊢
          clear hWd
          clear HW
          have HW := HV
          clear HV
          obtain ⟨x0, x1, x2, x3, x4, x5⟩ := num_cells HW.out.1.1
          obtain ⟨y0, y1, y2, y3, y4, y5⟩ := num_cells HW.out.1.2
          obtain ⟨r0, r1, r2, r3, r4, r5⟩ := num_cells HW.out.2.1.1
          obtain ⟨t0, t1, t2, t3, t4, t5⟩ := num_cells HW.out.2.1.2
          obtain ⟨k0, k1, k2, k3, k4, k5⟩ := num_free HW.out.2.1.1
          obtain ⟨l0, l1, l2, l3, l4, l5⟩ := num_free HW.out.2.1.2
          obtain ⟨⟨p0, p1, p2, p3, p4, p5⟩, ⟨q0, q1, q2, q3, q4, q5⟩⟩ := pair_cells HW.out.2.2.1
          obtain ⟨⟨f0, f1, f2, f3, f4, f5⟩, ⟨g0, g1, g2, g3, g4, g5⟩⟩ := pair_free HW.out.2.2.1
          have hv := HVV.out
          clear HVV
          cases q
          · rw [if_neg Bool.false_ne_true] at hv
            have HVV := Lib.hid hv
            clear hv
            go_wp2_with fail
            clear p0 p1 p2 p3 p4 p5 q0 q1 q2 q3 q4 q5 f0 f1 f2 f3 f4 f5 g0 g1 g2 g3 g4 g5
            go_region
            all_goals
              first
                | (have HF := Lib.hid (wb_told HW.out (x) (y)); generalize World.setCell _ _ _ = Wf at HF ⊢; obtain ⟨Wg, hWg⟩ : ∃ Wg, Wf = Wg := ⟨_, rfl⟩; rw [hWg] at HF ⊢; clear hWg; obtain ⟨z0, z1, z2, z3, z4, z5⟩ := num_cells HF.out.1; obtain ⟨e0, e1, e2, e3, e4, e5⟩ := num_cells HF.out.2.1; go_wp2_with fail; exact bodyPost_ret (v := .tuple #[numV (x), numV (y), .bool false]) (by unfold numV; simp [results, Try.results6, go_sem, z0, z1, z2, z3, z4, z5, e0, e1, e2, e3, e4, e5]) rfl ⟨congrArg Ending.returned HVV.out, HF.out.2.2.drew⟩)
                | (have HF := Lib.hid (wb_told2 HW.out (x) (y)); generalize World.setCell _ _ _ = Wf at HF ⊢; obtain ⟨Wg, hWg⟩ : ∃ Wg, Wf = Wg := ⟨_, rfl⟩; rw [hWg] at HF ⊢; clear hWg; obtain ⟨z0, z1, z2, z3, z4, z5⟩ := num_cells HF.out.1; obtain ⟨e0, e1, e2, e3, e4, e5⟩ := num_cells HF.out.2.1; go_wp2_with fail; exact bodyPost_ret (v := .tuple #[numV (x), numV (y), .bool false]) (by unfold numV; simp [results, Try.results6, go_sem, z0, z1, z2, z3, z4, z5, e0, e1, e2, e3, e4, e5]) rfl ⟨congrArg Ending.returned HVV.out, HF.out.2.2.drew⟩)
          · rw [if_pos rfl] at hv
            have HVV := Lib.hid hv
            clear hv
            go_wp2_with fail
            clear x0 x1 x2 x3 x4 x5 y0 y1 y2 y3 y4 y5 f0 f1 f2 f3 f4 f5 g0 g1 g2 g3 g4 g5
            go_region
            all_goals
              first
                | (have HF := Lib.hid (wb_told HW.out (P) (Q)); generalize World.setCell _ _ _ = Wf at HF ⊢; obtain ⟨Wg, hWg⟩ : ∃ Wg, Wf = Wg := ⟨_, rfl⟩; rw [hWg] at HF ⊢; clear hWg; obtain ⟨z0, z1, z2, z3, z4, z5⟩ := num_cells HF.out.1; obtain ⟨e0, e1, e2, e3, e4, e5⟩ := num_cells HF.out.2.1; go_wp2_with fail; exact bodyPost_ret (v := .tuple #[numV (P), numV (Q), .bool true]) (by unfold numV; simp [results, Try.results6, go_sem, z0, z1, z2, z3, z4, z5, e0, e1, e2, e3, e4, e5]) rfl ⟨congrArg Ending.returned HVV.out, HF.out.2.2.drew⟩)
                | (have HF := Lib.hid (wb_told2 HW.out (P) (Q)); generalize World.setCell _ _ _ = Wf at HF ⊢; obtain ⟨Wg, hWg⟩ : ∃ Wg, Wf = Wg := ⟨_, rfl⟩; rw [hWg] at HF ⊢; clear hWg; obtain ⟨z0, z1, z2, z3, z4, z5⟩ := num_cells HF.out.1; obtain ⟨e0, e1, e2, e3, e4, e5⟩ := num_cells HF.out.2.1; go_wp2_with fail; exact bodyPost_ret (v := .tuple #[numV (P), numV (Q), .bool true]) (by unfold numV; simp [results, Try.results6, go_sem, z0, z1, z2, z3, z4, z5, e0, e1, e2, e3, e4, e5]) rfl ⟨congrArg Ending.returned HVV.out, HF.out.2.2.drew⟩)
end Go.Proofs.Ytbljijbmjccalaa

/-
  Proved here: what Way of package narrow returns where its map gives above, or notBelow. Conditions: none.
-/
namespace Go.Proofs.Ytbljijbmjccalaa
open Go.RowKit
attribute [local go_sem] u_and u_or u_xor u_andNot u_add u_sub s_conv u_conv max_u min_u max_s min_s u_inc u_less s_inc s_less s_inc64 s_less64
set_option linter.unusedSimpArgs false

set_option maxRecDepth 100000 in
set_option maxHeartbeats 16000000 in
theorem way_22 (op : Int) (wide hs : Bool) (x y : K) (t : Tw) (j : Nat) (A1 A2 : Nat → Fn) (C1 C2 : Nat → Array Value) (w : World)
    (hf : ∀ W, Calls Try.prog 22 #[pairV x y] W (Gives (.tuple #[pairV t.x t.y, .bool t.ok]) W))
    (hS : ∀ B, (if hs = true then Value.func (A1 B) #[] (C1 B) else .func (A2 B) #[] (C2 B)) = fnV 22)
    (hn : ∀ B, Instr.findNow (.int .u8) (.int .u8 op) (conEnts B 11).toList 0 = some (some (j, .agg #[.func (A1 B) #[] (C1 B), .func (A2 B) #[] (C2 B)])))
    (hg : wide = true ∨ (isSig op = false ∧ lowK x = true ∧ lowK y = true)) :
    Calls Try.prog 6 #[.int .u8 op, .bool wide, numV x, numV y, .bool hs] w (Gives (backV x y t) w) := by
  have HG := Lib.hid hg
  clear hg
  obtain ⟨V, hV⟩ : ∃ V, backV x y t = V := ⟨_, rfl⟩
  rw [hV]
  have HVV := Lib.hid hV
  clear hV
  obtain ⟨ok, hok⟩ : ∃ b, t.ok = b := ⟨_, rfl⟩
  rw [hok] at hf
  have HOK := Lib.hid hok
  clear hok
  have HW := Lib.hid (wb_new x y w)
  unfold Gives numV
  obtain ⟨W0, hW0⟩ : ∃ W0, (((((w.alloc (.cells #[.int .u64 (u x.v), .int .u64 (u x.m), .int .u64 (u x.a), .int .u64 (u x.b), .int .i64 (s x.c), .int .i64 (s x.d)] 26)).alloc (.cells #[.int .u64 (u y.v), .int .u64 (u y.m), .int .u64 (u y.a), .int .u64 (u y.b), .int .i64 (s y.c), .int .i64 (s y.d)] 26)).alloc (.cells #[.int .u64 0, .int .u64 0, .int .u64 0, .int .u64 0, .int .i64 0, .int .i64 0] 26)).alloc (.cells #[.int .u64 0, .int .u64 0, .int .u64 0, .int .u64 0, .int .i64 0, .int .i64 0] 26)).alloc (.cells #[.int .u64 0, .int .u64 0, .int .u64 0, .int .u64 0, .int .i64 0, .int .i64 0, .int .u64 0, .int .u64 0, .int .u64 0, .int .u64 0, .int .i64 0, .int .i64 0] 38)) = W0 := ⟨_, rfl⟩
  rw [hW0] at HW
  obtain ⟨x0, x1, x2, x3, x4, x5⟩ := num_cells HW.out.1.1
  obtain ⟨y0, y1, y2, y3, y4, y5⟩ := num_cells HW.out.1.2
  obtain ⟨r0, r1, r2, r3, r4, r5⟩ := num_cells HW.out.2.1.1
  obtain ⟨t0, t1, t2, t3, t4, t5⟩ := num_cells HW.out.2.1.2
  obtain ⟨k0, k1, k2, k3, k4, k5⟩ := num_free HW.out.2.1.1
  obtain ⟨l0, l1, l2, l3, l4, l5⟩ := num_free HW.out.2.1.2
  obtain ⟨⟨p0, p1, p2, p3, p4, p5⟩, ⟨q0, q1, q2, q3, q4, q5⟩⟩ := pair_cells HW.out.2.2.1
  obtain ⟨⟨f0, f1, f2, f3, f4, f5⟩, ⟨g0, g1, g2, g3, g4, g5⟩⟩ := pair_free HW.out.2.2.1
  go_enter Try.func6, Try.ntmps6
  go_upto_region 2 with fail
  clear hW0
  have HV := Lib.hid (wb_pair HW.out x y)
  clear x0 x1 x2 x3 x4 x5 y0 y1 y2 y3 y4 y5 r0 r1 r2 r3 r4 r5 t0 t1 t2 t3 t4 t5 k0 k1 k2 k3 k4 k5 l0 l1 l2 l3 l4 l5 p0 p1 p2 p3 p4 p5 q0 q1 q2 q3 q4 q5 f0 f1 f2 f3 f4 f5 g0 g1 g2 g3 g4 g5
  generalize World.setCell _ _ _ = W1 at HV ⊢
  clear HW
  have HW := Lib.hid (wb_keep HV.out (conW_below W1 11 8))
  have hk := con_look _ _ j op _ (conW_map W1 11 8) (hn _)
  have hcc := conditions_call W1
  clear HV
  have hbw := conW_below W1 11 8
  generalize conW W1 11 8 = W2 at HW hk hcc hbw
  have hS1 := hS W1.heap.size
  obtain ⟨B, hB⟩ : ∃ B, W1.heap.size = B := ⟨_, rfl⟩
  rw [hB] at hk hcc hS1
  obtain ⟨a1, ha1⟩ : ∃ a, A1 B = a := ⟨_, rfl⟩
  obtain ⟨a2, ha2⟩ : ∃ a, A2 B = a := ⟨_, rfl⟩
  obtain ⟨c1, hc1⟩ : ∃ a, C1 B = a := ⟨_, rfl⟩
  obtain ⟨c2, hc2⟩ : ∃ a, C2 B = a := ⟨_, rfl⟩
  rw [ha1, ha2, hc1, hc2] at hk hS1
  clear hn hS hB ha1 ha2 hc1 hc2 hbw
  have HS := Lib.hid hS1
  clear hS1
  obtain ⟨x0, x1, x2, x3, x4, x5⟩ := num_cells HW.out.1.1
  obtain ⟨y0, y1, y2, y3, y4, y5⟩ := num_cells HW.out.1.2
  obtain ⟨r0, r1, r2, r3, r4, r5⟩ := num_cells HW.out.2.1.1
  obtain ⟨t0, t1, t2, t3, t4, t5⟩ := num_cells HW.out.2.1.2
  obtain ⟨k0, k1, k2, k3, k4, k5⟩ := num_free HW.out.2.1.1
  obtain ⟨l0, l1, l2, l3, l4, l5⟩ := num_free HW.out.2.1.2
  obtain ⟨⟨p0, p1, p2, p3, p4, p5⟩, ⟨q0, q1, q2, q3, q4, q5⟩⟩ := pair_cells HW.out.2.2.1
  obtain ⟨⟨f0, f1, f2, f3, f4, f5⟩, ⟨g0, g1, g2, g3, g4, g5⟩⟩ := pair_free HW.out.2.2.1
  go_upto_region 3 with (go_at_call 12; refine hcc.mono ?_; rintro e w1 ⟨rfl, rfl⟩)
  clear hk hcc
  clear x0 x1 x2 x3 x4 x5 y0 y1 y2 y3 y4 y5 r0 r1 r2 r3 r4 r5 t0 t1 t2 t3 t4 t5 k0 k1 k2 k3 k4 k5 l0 l1 l2 l3 l4 l5 p0 p1 p2 p3 p4 p5 q0 q1 q2 q3 q4 q5 f0 f1 f2 f3 f4 f5 g0 g1 g2 g3 g4 g5
  have HV := Lib.hid (wb_keep HW.out (con_below W2 (.func a1 #[] c1) (.func a2 #[] c2)))
  have HC := Lib.hid (con_new W2 (.func a1 #[] c1) (.func a2 #[] c2))
  clear HW
  obtain ⟨C, hC⟩ : ∃ C, W2.heap.size = C := ⟨_, rfl⟩
  rw [hC] at HC ⊢
  clear hC
  generalize World.alloc _ _ = W3 at HV HC ⊢
  obtain ⟨W4, hWd⟩ : ∃ Wd, W3 = Wd := ⟨_, rfl⟩
  rw [hWd] at HV HC ⊢
  clear hWd
  have HW := HV
  clear HV
  obtain ⟨x0, x1, x2, x3, x4, x5⟩ := num_cells HW.out.1.1
  obtain ⟨y0, y1, y2, y3, y4, y5⟩ := num_cells HW.out.1.2
  obtain ⟨r0, r1, r2, r3, r4, r5⟩ := num_cells HW.out.2.1.1
  obtain ⟨t0, t1, t2, t3, t4, t5⟩ := num_cells HW.out.2.1.2
  obtain ⟨k0, k1, k2, k3, k4, k5⟩ := num_free HW.out.2.1.1
  obtain ⟨l0, l1, l2, l3, l4, l5⟩ := num_free HW.out.2.1.2
  obtain ⟨⟨p0, p1, p2, p3, p4, p5⟩, ⟨q0, q1, q2, q3, q4, q5⟩⟩ := pair_cells HW.out.2.2.1
  obtain ⟨⟨f0, f1, f2, f3, f4, f5⟩, ⟨g0, g1, g2, g3, g4, g5⟩⟩ := pair_free HW.out.2.2.1
  obtain ⟨m0, m1⟩ := con_cells HC.out
  go_cut [37] (fun c wx => c = .bool false ∧ Below W4.heap.size W4 wx)
  case first =>
    have hg := HG.out
    cases wide
    · have hg1 := hg.resolve_left Bool.false_ne_true
      have h4 := fun W => four_yes op x y W hg1.1
      rw [hg1.2.1, hg1.2.2] at h4
      clear hg hg1
      unfold pairV pairC at h4
      go_wp2_with (go_at_call 13; refine (h4 _).mono ?_; rintro e w1 ⟨rfl, hb⟩; have HB := Lib.hid hb; clear hb)
      go_meet
      exact ⟨rfl, HB.out⟩
    · clear hg
      go_wp2_with fail
      go_meet
      exact ⟨rfl, Below.refl _ _⟩
  case rest =>
    obtain ⟨rfl, hb⟩ := hcut
    have HV := Lib.hid (wb_keep HW.out hb)
    have HD := Lib.hid (con_keep HC.out hb)
    clear x0 x1 x2 x3 x4 x5 y0 y1 y2 y3 y4 y5 r0 r1 r2 r3 r4 r5 t0 t1 t2 t3 t4 t5 k0 k1 k2 k3 k4 k5 l0 l1 l2 l3 l4 l5 p0 p1 p2 p3 p4 p5 q0 q1 q2 q3 q4 q5 f0 f1 f2 f3 f4 f5 g0 g1 g2 g3 g4 g5
    clear m0 m1 HW HC hb
    have HW := HV
    have HC := HD
    clear HV HD
    rename World => W5
    obtain ⟨x0, x1, x2, x3, x4, x5⟩ := num_cells HW.out.1.1
    obtain ⟨y0, y1, y2, y3, y4, y5⟩ := num_cells HW.out.1.2
    obtain ⟨r0, r1, r2, r3, r4, r5⟩ := num_cells HW.out.2.1.1
    obtain ⟨t0, t1, t2, t3, t4, t5⟩ := num_cells HW.out.2.1.2
    obtain ⟨k0, k1, k2, k3, k4, k5⟩ := num_free HW.out.2.1.1
    obtain ⟨l0, l1, l2, l3, l4, l5⟩ := num_free HW.out.2.1.2
    obtain ⟨⟨p0, p1, p2, p3, p4, p5⟩, ⟨q0, q1, q2, q3, q4, q5⟩⟩ := pair_cells HW.out.2.2.1
    obtain ⟨⟨f0, f1, f2, f3, f4, f5⟩, ⟨g0, g1, g2, g3, g4, g5⟩⟩ := pair_free HW.out.2.2.1
    obtain ⟨m0, m1⟩ := con_cells HC.out
    go_upto_region 5 with fail
    go_cut [16] (fun c wx => c = .func a2 #[] c2 ∧ wx = W5)
    case first =>
      go_wp2_with fail
      go_meet
      exact ⟨rfl, rfl⟩
    case rest =>
      obtain ⟨rfl, hw⟩ := hcut
      rw [hw]
      clear hw
      go_upto_if 42 with fail
      go_cut [16] (fun c wx => c = (.func (.func 22) #[] #[]) ∧ wx = W5)
      case first =>
        have hS1 := HS.out
        cases hs
        · go_wp2_with fail
          go_meet
          exact ⟨hS1, rfl⟩
        · go_wp2_with fail
          go_meet
          exact ⟨hS1, rfl⟩
      case rest =>
        obtain ⟨rfl, hw⟩ := hcut
        rw [hw]
        clear hw m0 m1 HC
        unfold pairV pairC at hf
        go_upto_region 9 with (go_at_call 22; refine (hf _).mono ?_; rintro e w1 ⟨rfl, hb⟩; have HV := Lib.hid (wb_keep HW.out hb); clear hb; clear x0 x1 x2 x3 x4 x5 y0 y1 y2 y3 y4 y5 r0 r1 r2 r3 r4 r5 t0 t1 t2 t3 t4 t5 k0 k1 k2 k3 k4 k5 l0 l1 l2 l3 l4 l5 p0 p1 p2 p3 p4 p5 q0 q1 q2 q3 q4 q5 f0 f1 f2 f3 f4 f5 g0 g1 g2 g3 g4 g5; clear HW; have HW := HV; clear HV; obtain ⟨x0, x1, x2, x3, x4, x5⟩ := num_cells HW.out.1.1; obtain ⟨y0, y1, y2, y3, y4, y5⟩ := num_cells HW.out.1.2; obtain ⟨r0, r1, r2, r3, r4, r5⟩ := num_cells HW.out.2.1.1; obtain ⟨t0, t1, t2, t3, t4, t5⟩ := num_cells HW.out.2.1.2; obtain ⟨k0, k1, k2, k3, k4, k5⟩ := num_free HW.out.2.1.1; obtain ⟨l0, l1, l2, l3, l4, l5⟩ := num_free HW.out.2.1.2; obtain ⟨⟨p0, p1, p2, p3, p4, p5⟩, ⟨q0, q1, q2, q3, q4, q5⟩⟩ := pair_cells HW.out.2.2.1; obtain ⟨⟨f0, f1, f2, f3, f4, f5⟩, ⟨g0, g1, g2, g3, g4, g5⟩⟩ := pair_free HW.out.2.2.1)
        clear hf
        have HV := Lib.hid (wb_pair HW.out t.x t.y)
        clear x0 x1 x2 x3 x4 x5 y0 y1 y2 y3 y4 y5 r0 r1 r2 r3 r4 r5 t0 t1 t2 t3 t4 t5 k0 k1 k2 k3 k4 k5 l0 l1 l2 l3 l4 l5 p0 p1 p2 p3 p4 p5 q0 q1 q2 q3 q4 q5 f0 f1 f2 f3 f4 f5 g0 g1 g2 g3 g4 g5
        generalize World.setCell _ _ _ = W6 at HV ⊢
        obtain ⟨W7, hWd⟩ : ∃ Wd, W6 = Wd := ⟨_, rfl⟩
        rw [hWd] at HV ⊢
        clear hWd
        clear HW
        have HW := HV
        clear HV
        have hv := HVV.out
        unfold backV Tw.good at hv
        rw [HOK.out] at hv
        clear HVV
        cases ok
        · rw [Bool.false_and, if_neg Bool.false_ne_true] at hv
          have HVV := Lib.hid hv
          clear hv
          obtain ⟨x0, x1, x2, x3, x4, x5⟩ := num_cells HW.out.1.1
          obtain ⟨y0, y1, y2, y3, y4, y5⟩ := num_cells HW.out.1.2
          obtain ⟨r0, r1, r2, r3, r4, r5⟩ := num_cells HW.out.2.1.1
          obtain ⟨t0, t1, t2, t3, t4, t5⟩ := num_cells HW.out.2.1.2
          obtain ⟨k0, k1, k2, k3, k4, k5⟩ := num_free HW.out.2.1.1
          obtain ⟨l0, l1, l2, l3, l4, l5⟩ := num_free HW.out.2.1.2
          obtain ⟨⟨p0, p1, p2, p3, p4, p5⟩, ⟨q0, q1, q2, q3, q4, q5⟩⟩ := pair_cells HW.out.2.2.1
          obtain ⟨⟨f0, f1, f2, f3, f4, f5⟩, ⟨g0, g1, g2, g3, g4, g5⟩⟩ := pair_free HW.out.2.2.1
          go_wp2_with fail
          clear p0 p1 p2 p3 p4 p5 q0 q1 q2 q3 q4 q5 f0 f1 f2 f3 f4 f5 g0 g1 g2 g3 g4 g5
          go_region
          all_goals
            first
              | (have HF := Lib.hid (wb_told HW.out (x) (y)); generalize World.setCell _ _ _ = Wf at HF ⊢; obtain ⟨Wg, hWg⟩ : ∃ Wg, Wf = Wg := ⟨_, rfl⟩; rw [hWg] at HF ⊢; clear hWg; obtain ⟨z0, z1, z2, z3, z4, z5⟩ := num_cells HF.out.1; obtain ⟨e0, e1, e2, e3, e4, e5⟩ := num_cells HF.out.2.1; go_wp2_with fail; exact bodyPost_ret (v := .tuple #[numV (x), numV (y), .bool false]) (by unfold numV; simp [results, Try.results6, go_sem, z0, z1, z2, z3, z4, z5, e0, e1, e2, e3, e4, e5]) rfl ⟨congrArg Ending.returned HVV.out, HF.out.2.2.drew⟩)
              | (have HF := Lib.hid (wb_told2 HW.out (x) (y)); generalize World.setCell _ _ _ = Wf at HF ⊢; obtain ⟨Wg, hWg⟩ : ∃ Wg, Wf = Wg := ⟨_, rfl⟩; rw [hWg] at HF ⊢; clear hWg; obtain ⟨z0, z1, z2, z3, z4, z5⟩ := num_cells HF.out.1; obtain ⟨e0, e1, e2, e3, e4, e5⟩ := num_cells HF.out.2.1; go_wp2_with fail; exact bodyPost_ret (v := .tuple #[numV (x), numV (y), .bool false]) (by unfold numV; simp [results, Try.results6, go_sem, z0, z1, z2, z3, z4, z5, e0, e1, e2, e3, e4, e5]) rfl ⟨congrArg Ending.returned HVV.out, HF.out.2.2.drew⟩)
        · rw [Bool.true_and] at hv
          have h14 := fun W => refined_pair t.x t.y W
          obtain ⟨P, hP⟩ : ∃ P, t.x.fine = P := ⟨_, rfl⟩
          obtain ⟨Q, hQ⟩ : ∃ Q, t.y.fine = Q := ⟨_, rfl⟩
          obtain ⟨q, hq⟩ : ∃ q, (t.x.okF && t.y.okF) = q := ⟨_, rfl⟩
          rw [hP, hQ, hq] at h14
          rw [hP, hQ, hq] at hv
          clear hP hQ hq
          have HVV := Lib.hid hv
          clear hv
          unfold pairV pairC at h14
          obtain ⟨x0, x1, x2, x3, x4, x5⟩ := num_cells HW.out.1.1
          obtain ⟨y0, y1, y2, y3, y4, y5⟩ := num_cells HW.out.1.2
          obtain ⟨r0, r1, r2, r3, r4, r5⟩ := num_cells HW.out.2.1.1
          obtain ⟨t0, t1, t2, t3, t4, t5⟩ := num_cells HW.out.2.1.2
          obtain ⟨k0, k1, k2, k3, k4, k5⟩ := num_free HW.out.2.1.1
          obtain ⟨l0, l1, l2, l3, l4, l5⟩ := num_free HW.out.2.1.2
          obtain ⟨⟨p0, p1, p2, p3, p4, p5⟩, ⟨q0, q1, q2, q3, q4, q5⟩⟩ := pair_cells HW.out.2.2.1
          obtain ⟨⟨f0, f1, f2, f3, f4, f5⟩, ⟨g0, g1, g2, g3, g4, g5⟩⟩ := pair_free HW.out.2.2.1
          go_upto_region 12 with (go_at_call 14; refine (h14 _).mono ?_; rintro e w2 ⟨rfl, hb⟩; have HV := Lib.hid (wb_keep HW.out hb); clear hb; clear x0 x1 x2 x3 x4 x5 y0 y1 y2 y3 y4 y5 r0 r1 r2 r3 r4 r5 t0 t1 t2 t3 t4 t5 k0 k1 k2 k3 k4 k5 l0 l1 l2 l3 l4 l5 p0 p1 p2 p3 p4 p5 q0 q1 q2 q3 q4 q5 f0 f1 f2 f3 f4 f5 g0 g1 g2 g3 g4 g5; clear HW; have HW := HV; clear HV; obtain ⟨x0, x1, x2, x3, x4, x5⟩ := num_cells HW.out.1.1; obtain ⟨y0, y1, y2, y3, y4, y5⟩ := num_cells HW.out.1.2; obtain ⟨r0, r1, r2, r3, r4, r5⟩ := num_cells HW.out.2.1.1; obtain ⟨t0, t1, t2, t3, t4, t5⟩ := num_cells HW.out.2.1.2; obtain ⟨k0, k1, k2, k3, k4, k5⟩ := num_free HW.out.2.1.1; obtain ⟨l0, l1, l2, l3, l4, l5⟩ := num_free HW.out.2.1.2; obtain ⟨⟨p0, p1, p2, p3, p4, p5⟩, ⟨q0, q1, q2, q3, q4, q5⟩⟩ := pair_cells HW.out.2.2.1; obtain ⟨⟨f0, f1, f2, f3, f4, f5⟩, ⟨g0, g1, g2, g3, g4, g5⟩⟩ := pair_free HW.out.2.2.1)
          clear h14
          have HV := Lib.hid (wb_pair HW.out P Q)
          clear x0 x1 x2 x3 x4 x5 y0 y1 y2 y3 y4 y5 r0 r1 r2 r3 r4 r5 t0 t1 t2 t3 t4 t5 k0 k1 k2 k3 k4 k5 l0 l1 l2 l3 l4 l5 p0 p1 p2 p3 p4 p5 q0 q1 q2 q3 q4 q5 f0 f1 f2 f3 f4 f5 g0 g1 g2 g3 g4 g5
          generalize World.setCell _ _ _ = W8 at HV ⊢
          obtain ⟨W9, hWd⟩ : ∃ Wd, W8 = Wd := ⟨_, rfl⟩
          rw [hWd] at HV ⊢
          clear hWd
          clear HW
          have HW := HV
          clear HV
          obtain ⟨x0, x1, x2, x3, x4, x5⟩ := num_cells HW.out.1.1
          obtain ⟨y0, y1, y2, y3, y4, y5⟩ := num_cells HW.out.1.2
          obtain ⟨r0, r1, r2, r3, r4, r5⟩ := num_cells HW.out.2.1.1
          obtain ⟨t0, t1, t2, t3, t4, t5⟩ := num_cells HW.out.2.1.2
          obtain ⟨k0, k1, k2, k3, k4, k5⟩ := num_free HW.out.2.1.1
          obtain ⟨l0, l1, l2, l3, l4, l5⟩ := num_free HW.out.2.1.2
          obtain ⟨⟨p0, p1, p2, p3, p4, p5⟩, ⟨q0, q1, q2, q3, q4, q5⟩⟩ := pair_cells HW.out.2.2.1
          obtain ⟨⟨f0, f1, f2, f3, f4, f5⟩, ⟨g0, g1, g2, g3, g4, g5⟩⟩ := pair_free HW.out.2.2.1
          have hv := HVV.out
          clear HVV
          cases q
          · rw [if_neg Bool.false_ne_true] at hv
            have HVV := Lib.hid hv
            clear hv
            go_wp2_with fail
            clear p0 p1 p2 p3 p4 p5 q0 q1 q2 q3 q4 q5 f0 f1 f2 f3 f4 f5 g0 g1 g2 g3 g4 g5
            go_region
            all_goals
              first
                | (have HF := Lib.hid (wb_told HW.out (x) (y)); generalize World.setCell _ _ _ = Wf at HF ⊢; obtain ⟨Wg, hWg⟩ : ∃ Wg, Wf = Wg := ⟨_, rfl⟩; rw [hWg] at HF ⊢; clear hWg; obtain ⟨z0, z1, z2, z3, z4, z5⟩ := num_cells HF.out.1; obtain ⟨e0, e1, e2, e3, e4, e5⟩ := num_cells HF.out.2.1; go_wp2_with fail; exact bodyPost_ret (v := .tuple #[numV (x), numV (y), .bool false]) (by unfold numV; simp [results, Try.results6, go_sem, z0, z1, z2, z3, z4, z5, e0, e1, e2, e3, e4, e5]) rfl ⟨congrArg Ending.returned HVV.out, HF.out.2.2.drew⟩)
                | (have HF := Lib.hid (wb_told2 HW.out (x) (y)); generalize World.setCell _ _ _ = Wf at HF ⊢; obtain ⟨Wg, hWg⟩ : ∃ Wg, Wf = Wg := ⟨_, rfl⟩; rw [hWg] at HF ⊢; clear hWg; obtain ⟨z0, z1, z2, z3, z4, z5⟩ := num_cells HF.out.1; obtain ⟨e0, e1, e2, e3, e4, e5⟩ := num_cells HF.out.2.1; go_wp2_with fail; exact bodyPost_ret (v := .tuple #[numV (x), numV (y), .bool false]) (by unfold numV; simp [results, Try.results6, go_sem, z0, z1, z2, z3, z4, z5, e0, e1, e2, e3, e4, e5]) rfl ⟨congrArg Ending.returned HVV.out, HF.out.2.2.drew⟩)
          · rw [if_pos rfl] at hv
            have HVV := Lib.hid hv
            clear hv
            go_wp2_with fail
            clear x0 x1 x2 x3 x4 x5 y0 y1 y2 y3 y4 y5 f0 f1 f2 f3 f4 f5 g0 g1 g2 g3 g4 g5
            go_region
            all_goals
              first
                | (have HF := Lib.hid (wb_told HW.out (P) (Q)); generalize World.setCell _ _ _ = Wf at HF ⊢; obtain ⟨Wg, hWg⟩ : ∃ Wg, Wf = Wg := ⟨_, rfl⟩; rw [hWg] at HF ⊢; clear hWg; obtain ⟨z0, z1, z2, z3, z4, z5⟩ := num_cells HF.out.1; obtain ⟨e0, e1, e2, e3, e4, e5⟩ := num_cells HF.out.2.1; go_wp2_with fail; exact bodyPost_ret (v := .tuple #[numV (P), numV (Q), .bool true]) (by unfold numV; simp [results, Try.results6, go_sem, z0, z1, z2, z3, z4, z5, e0, e1, e2, e3, e4, e5]) rfl ⟨congrArg Ending.returned HVV.out, HF.out.2.2.drew⟩)
                | (have HF := Lib.hid (wb_told2 HW.out (P) (Q)); generalize World.setCell _ _ _ = Wf at HF ⊢; obtain ⟨Wg, hWg⟩ : ∃ Wg, Wf = Wg := ⟨_, rfl⟩; rw [hWg] at HF ⊢; clear hWg; obtain ⟨z0, z1, z2, z3, z4, z5⟩ := num_cells HF.out.1; obtain ⟨e0, e1, e2, e3, e4, e5⟩ := num_cells HF.out.2.1; go_wp2_with fail; exact bodyPost_ret (v := .tuple #[numV (P), numV (Q), .bool true]) (by unfold numV; simp [results, Try.results6, go_sem, z0, z1, z2, z3, z4, z5, e0, e1, e2, e3, e4, e5]) rfl ⟨congrArg Ending.returned HVV.out, HF.out.2.2.drew⟩)
set_option maxRecDepth 100000 in
set_option maxHeartbeats 16000000 in
theorem way_24 (op : Int) (wide hs : Bool) (x y : K) (t : Tw) (j : Nat) (A1 A2 : Nat → Fn) (C1 C2 : Nat → Array Value) (w : World)
    (hf : ∀ W, Calls Try.prog 24 #[pairV x y] W (Gives (.tuple #[pairV t.x t.y, .bool t.ok]) W))
    (hS : ∀ B, (if hs = true then Value.func (A1 B) #[] (C1 B) else .func (A2 B) #[] (C2 B)) = fnV 24)
    (hn : ∀ B, Instr.findNow (.int .u8) (.int .u8 op) (conEnts B 11).toList 0 = some (some (j, .agg #[.func (A1 B) #[] (C1 B), .func (A2 B) #[] (C2 B)])))
    (hg : wide = true ∨ (isSig op = false ∧ lowK x = true ∧ lowK y = true)) :
    Calls Try.prog 6 #[.int .u8 op, .bool wide, numV x, numV y, .bool hs] w (Gives (backV x y t) w) := by
  have HG := Lib.hid hg
  clear hg
  obtain ⟨V, hV⟩ : ∃ V, backV x y t = V := ⟨_, rfl⟩
  rw [hV]
  have HVV := Lib.hid hV
  clear hV
  obtain ⟨ok, hok⟩ : ∃ b, t.ok = b := ⟨_, rfl⟩
  rw [hok] at hf
  have HOK := Lib.hid hok
  clear hok
  have HW := Lib.hid (wb_new x y w)
  unfold Gives numV
  obtain ⟨W0, hW0⟩ : ∃ W0, (((((w.alloc (.cells #[.int .u64 (u x.v), .int .u64 (u x.m), .int .u64 (u x.a), .int .u64 (u x.b), .int .i64 (s x.c), .int .i64 (s x.d)] 26)).alloc (.cells #[.int .u64 (u y.v), .int .u64 (u y.m), .int .u64 (u y.a), .int .u64 (u y.b), .int .i64 (s y.c), .int .i64 (s y.d)] 26)).alloc (.cells #[.int .u64 0, .int .u64 0, .int .u64 0, .int .u64 0, .int .i64 0, .int .i64 0] 26)).alloc (.cells #[.int .u64 0, .int .u64 0, .int .u64 0, .int .u64 0, .int .i64 0, .int .i64 0] 26)).alloc (.cells #[.int .u64 0, .int .u64 0, .int .u64 0, .int .u64 0, .int .i64 0, .int .i64 0, .int .u64 0, .int .u64 0, .int .u64 0, .int .u64 0, .int .i64 0, .int .i64 0] 38)) = W0 := ⟨_, rfl⟩
  rw [hW0] at HW
  obtain ⟨x0, x1, x2, x3, x4, x5⟩ := num_cells HW.out.1.1
  obtain ⟨y0, y1, y2, y3, y4, y5⟩ := num_cells HW.out.1.2
  obtain ⟨r0, r1, r2, r3, r4, r5⟩ := num_cells HW.out.2.1.1
  obtain ⟨t0, t1, t2, t3, t4, t5⟩ := num_cells HW.out.2.1.2
  obtain ⟨k0, k1, k2, k3, k4, k5⟩ := num_free HW.out.2.1.1
  obtain ⟨l0, l1, l2, l3, l4, l5⟩ := num_free HW.out.2.1.2
  obtain ⟨⟨p0, p1, p2, p3, p4, p5⟩, ⟨q0, q1, q2, q3, q4, q5⟩⟩ := pair_cells HW.out.2.2.1
  obtain ⟨⟨f0, f1, f2, f3, f4, f5⟩, ⟨g0, g1, g2, g3, g4, g5⟩⟩ := pair_free HW.out.2.2.1
  go_enter Try.func6, Try.ntmps6
  go_upto_region 2 with fail
  clear hW0
  have HV := Lib.hid (wb_pair HW.out x y)
  clear x0 x1 x2 x3 x4 x5 y0 y1 y2 y3 y4 y5 r0 r1 r2 r3 r4 r5 t0 t1 t2 t3 t4 t5 k0 k1 k2 k3 k4 k5 l0 l1 l2 l3 l4 l5 p0 p1 p2 p3 p4 p5 q0 q1 q2 q3 q4 q5 f0 f1 f2 f3 f4 f5 g0 g1 g2 g3 g4 g5
  generalize World.setCell _ _ _ = W1 at HV ⊢
  clear HW
  have HW := Lib.hid (wb_keep HV.out (conW_below W1 11 8))
  have hk := con_look _ _ j op _ (conW_map W1 11 8) (hn _)
  have hcc := conditions_call W1
  clear HV
  have hbw := conW_below W1 11 8
  generalize conW W1 11 8 = W2 at HW hk hcc hbw
  have hS1 := hS W1.heap.size
  obtain ⟨B, hB⟩ : ∃ B, W1.heap.size = B := ⟨_, rfl⟩
  rw [hB] at hk hcc hS1
  obtain ⟨a1, ha1⟩ : ∃ a, A1 B = a := ⟨_, rfl⟩
  obtain ⟨a2, ha2⟩ : ∃ a, A2 B = a := ⟨_, rfl⟩
  obtain ⟨c1, hc1⟩ : ∃ a, C1 B = a := ⟨_, rfl⟩
  obtain ⟨c2, hc2⟩ : ∃ a, C2 B = a := ⟨_, rfl⟩
  rw [ha1, ha2, hc1, hc2] at hk hS1
  clear hn hS hB ha1 ha2 hc1 hc2 hbw
  have HS := Lib.hid hS1
  clear hS1
  obtain ⟨x0, x1, x2, x3, x4, x5⟩ := num_cells HW.out.1.1
  obtain ⟨y0, y1, y2, y3, y4, y5⟩ := num_cells HW.out.1.2
  obtain ⟨r0, r1, r2, r3, r4, r5⟩ := num_cells HW.out.2.1.1
  obtain ⟨t0, t1, t2, t3, t4, t5⟩ := num_cells HW.out.2.1.2
  obtain ⟨k0, k1, k2, k3, k4, k5⟩ := num_free HW.out.2.1.1
  obtain ⟨l0, l1, l2, l3, l4, l5⟩ := num_free HW.out.2.1.2
  obtain ⟨⟨p0, p1, p2, p3, p4, p5⟩, ⟨q0, q1, q2, q3, q4, q5⟩⟩ := pair_cells HW.out.2.2.1
  obtain ⟨⟨f0, f1, f2, f3, f4, f5⟩, ⟨g0, g1, g2, g3, g4, g5⟩⟩ := pair_free HW.out.2.2.1
  go_upto_region 3 with (go_at_call 12; refine hcc.mono ?_; rintro e w1 ⟨rfl, rfl⟩)
  clear hk hcc
  clear x0 x1 x2 x3 x4 x5 y0 y1 y2 y3 y4 y5 r0 r1 r2 r3 r4 r5 t0 t1 t2 t3 t4 t5 k0 k1 k2 k3 k4 k5 l0 l1 l2 l3 l4 l5 p0 p1 p2 p3 p4 p5 q0 q1 q2 q3 q4 q5 f0 f1 f2 f3 f4 f5 g0 g1 g2 g3 g4 g5
  have HV := Lib.hid (wb_keep HW.out (con_below W2 (.func a1 #[] c1) (.func a2 #[] c2)))
  have HC := Lib.hid (con_new W2 (.func a1 #[] c1) (.func a2 #[] c2))
  clear HW
  obtain ⟨C, hC⟩ : ∃ C, W2.heap.size = C := ⟨_, rfl⟩
  rw [hC] at HC ⊢
  clear hC
  generalize World.alloc _ _ = W3 at HV HC ⊢
  obtain ⟨W4, hWd⟩ : ∃ Wd, W3 = Wd := ⟨_, rfl⟩
  rw [hWd] at HV HC ⊢
  clear hWd
  have HW := HV
  clear HV
  obtain ⟨x0, x1, x2, x3, x4, x5⟩ := num_cells HW.out.1.1
  obtain ⟨y0, y1, y2, y3, y4, y5⟩ := num_cells HW.out.1.2
  obtain ⟨r0, r1, r2, r3, r4, r5⟩ := num_cells HW.out.2.1.1
  obtain ⟨t0, t1, t2, t3, t4, t5⟩ := num_cells HW.out.2.1.2
  obtain ⟨k0, k1, k2, k3, k4, k5⟩ := num_free HW.out.2.1.1
  obtain ⟨l0, l1, l2, l3, l4, l5⟩ := num_free HW.out.2.1.2
  obtain ⟨⟨p0, p1, p2, p3, p4, p5⟩, ⟨q0, q1, q2, q3, q4, q5⟩⟩ := pair_cells HW.out.2.2.1
  obtain ⟨⟨f0, f1, f2, f3, f4, f5⟩, ⟨g0, g1, g2, g3, g4, g5⟩⟩ := pair_free HW.out.2.2.1
  obtain ⟨m0, m1⟩ := con_cells HC.out
  go_cut [37] (fun c wx => c = .bool false ∧ Below W4.heap.size W4 wx)
  case first =>
    have hg := HG.out
    cases wide
    · have hg1 := hg.resolve_left Bool.false_ne_true
      have h4 := fun W => four_yes op x y W hg1.1
      rw [hg1.2.1, hg1.2.2] at h4
      clear hg hg1
      unfold pairV pairC at h4
      go_wp2_with (go_at_call 13; refine (h4 _).mono ?_; rintro e w1 ⟨rfl, hb⟩; have HB := Lib.hid hb; clear hb)
      go_meet
      exact ⟨rfl, HB.out⟩
    · clear hg
      go_wp2_with fail
      go_meet
      exact ⟨rfl, Below.refl _ _⟩
  case rest =>
    obtain ⟨rfl, hb⟩ := hcut
    have HV := Lib.hid (wb_keep HW.out hb)
    have HD := Lib.hid (con_keep HC.out hb)
    clear x0 x1 x2 x3 x4 x5 y0 y1 y2 y3 y4 y5 r0 r1 r2 r3 r4 r5 t0 t1 t2 t3 t4 t5 k0 k1 k2 k3 k4 k5 l0 l1 l2 l3 l4 l5 p0 p1 p2 p3 p4 p5 q0 q1 q2 q3 q4 q5 f0 f1 f2 f3 f4 f5 g0 g1 g2 g3 g4 g5
    clear m0 m1 HW HC hb
    have HW := HV
    have HC := HD
    clear HV HD
    rename World => W5
    obtain ⟨x0, x1, x2, x3, x4, x5⟩ := num_cells HW.out.1.1
    obtain ⟨y0, y1, y2, y3, y4, y5⟩ := num_cells HW.out.1.2
    obtain ⟨r0, r1, r2, r3, r4, r5⟩ := num_cells HW.out.2.1.1
    obtain ⟨t0, t1, t2, t3, t4, t5⟩ := num_cells HW.out.2.1.2
    obtain ⟨k0, k1, k2, k3, k4, k5⟩ := num_free HW.out.2.1.1
    obtain ⟨l0, l1, l2, l3, l4, l5⟩ := num_free HW.out.2.1.2
    obtain ⟨⟨p0, p1, p2, p3, p4, p5⟩, ⟨q0, q1, q2, q3, q4, q5⟩⟩ := pair_cells HW.out.2.2.1
    obtain ⟨⟨f0, f1, f2, f3, f4, f5⟩, ⟨g0, g1, g2, g3, g4, g5⟩⟩ := pair_free HW.out.2.2.1
    obtain ⟨m0, m1⟩ := con_cells HC.out
    go_upto_region 5 with fail
    go_cut [16] (fun c wx => c = .func a2 #[] c2 ∧ wx = W5)
    case first =>
      go_wp2_with fail
      go_meet
      exact ⟨rfl, rfl⟩
    case rest =>
      obtain ⟨rfl, hw⟩ := hcut
      rw [hw]
      clear hw
      go_upto_if 42 with fail
      go_cut [16] (fun c wx => c = (.func (.func 24) #[] #[]) ∧ wx = W5)
      case first =>
        have hS1 := HS.out
        cases hs
        · go_wp2_with fail
          go_meet
          exact ⟨hS1, rfl⟩
        · go_wp2_with fail
          go_meet
          exact ⟨hS1, rfl⟩
      case rest =>
        obtain ⟨rfl, hw⟩ := hcut
        rw [hw]
        clear hw m0 m1 HC
        unfold pairV pairC at hf
        go_upto_region 9 with (go_at_call 24; refine (hf _).mono ?_; rintro e w1 ⟨rfl, hb⟩; have HV := Lib.hid (wb_keep HW.out hb); clear hb; clear x0 x1 x2 x3 x4 x5 y0 y1 y2 y3 y4 y5 r0 r1 r2 r3 r4 r5 t0 t1 t2 t3 t4 t5 k0 k1 k2 k3 k4 k5 l0 l1 l2 l3 l4 l5 p0 p1 p2 p3 p4 p5 q0 q1 q2 q3 q4 q5 f0 f1 f2 f3 f4 f5 g0 g1 g2 g3 g4 g5; clear HW; have HW := HV; clear HV; obtain ⟨x0, x1, x2, x3, x4, x5⟩ := num_cells HW.out.1.1; obtain ⟨y0, y1, y2, y3, y4, y5⟩ := num_cells HW.out.1.2; obtain ⟨r0, r1, r2, r3, r4, r5⟩ := num_cells HW.out.2.1.1; obtain ⟨t0, t1, t2, t3, t4, t5⟩ := num_cells HW.out.2.1.2; obtain ⟨k0, k1, k2, k3, k4, k5⟩ := num_free HW.out.2.1.1; obtain ⟨l0, l1, l2, l3, l4, l5⟩ := num_free HW.out.2.1.2; obtain ⟨⟨p0, p1, p2, p3, p4, p5⟩, ⟨q0, q1, q2, q3, q4, q5⟩⟩ := pair_cells HW.out.2.2.1; obtain ⟨⟨f0, f1, f2, f3, f4, f5⟩, ⟨g0, g1, g2, g3, g4, g5⟩⟩ := pair_free HW.out.2.2.1)
        clear hf
        have HV := Lib.hid (wb_pair HW.out t.x t.y)
        clear x0 x1 x2 x3 x4 x5 y0 y1 y2 y3 y4 y5 r0 r1 r2 r3 r4 r5 t0 t1 t2 t3 t4 t5 k0 k1 k2 k3 k4 k5 l0 l1 l2 l3 l4 l5 p0 p1 p2 p3 p4 p5 q0 q1 q2 q3 q4 q5 f0 f1 f2 f3 f4 f5 g0 g1 g2 g3 g4 g5
        generalize World.setCell _ _ _ = W6 at HV ⊢
        obtain ⟨W7, hWd⟩ : ∃ Wd, W6 = Wd := ⟨_, rfl⟩
        rw [hWd] at HV ⊢
        clear hWd
        clear HW
        have HW := HV
        clear HV
        have hv := HVV.out
        unfold backV Tw.good at hv
        rw [HOK.out] at hv
        clear HVV
        cases ok
        · rw [Bool.false_and, if_neg Bool.false_ne_true] at hv
          have HVV := Lib.hid hv
          clear hv
          obtain ⟨x0, x1, x2, x3, x4, x5⟩ := num_cells HW.out.1.1
          obtain ⟨y0, y1, y2, y3, y4, y5⟩ := num_cells HW.out.1.2
          obtain ⟨r0, r1, r2, r3, r4, r5⟩ := num_cells HW.out.2.1.1
          obtain ⟨t0, t1, t2, t3, t4, t5⟩ := num_cells HW.out.2.1.2
          obtain ⟨k0, k1, k2, k3, k4, k5⟩ := num_free HW.out.2.1.1
          obtain ⟨l0, l1, l2, l3, l4, l5⟩ := num_free HW.out.2.1.2
          obtain ⟨⟨p0, p1, p2, p3, p4, p5⟩, ⟨q0, q1, q2, q3, q4, q5⟩⟩ := pair_cells HW.out.2.2.1
          obtain ⟨⟨f0, f1, f2, f3, f4, f5⟩, ⟨g0, g1, g2, g3, g4, g5⟩⟩ := pair_free HW.out.2.2.1
          go_wp2_with fail
          clear p0 p1 p2 p3 p4 p5 q0 q1 q2 q3 q4 q5 f0 f1 f2 f3 f4 f5 g0 g1 g2 g3 g4 g5
          go_region
          all_goals
            first
              | (have HF := Lib.hid (wb_told HW.out (x) (y)); generalize World.setCell _ _ _ = Wf at HF ⊢; obtain ⟨Wg, hWg⟩ : ∃ Wg, Wf = Wg := ⟨_, rfl⟩; rw [hWg] at HF ⊢; clear hWg; obtain ⟨z0, z1, z2, z3, z4, z5⟩ := num_cells HF.out.1; obtain ⟨e0, e1, e2, e3, e4, e5⟩ := num_cells HF.out.2.1; go_wp2_with fail; exact bodyPost_ret (v := .tuple #[numV (x), numV (y), .bool false]) (by unfold numV; simp [results, Try.results6, go_sem, z0, z1, z2, z3, z4, z5, e0, e1, e2, e3, e4, e5]) rfl ⟨congrArg Ending.returned HVV.out, HF.out.2.2.drew⟩)
              | (have HF := Lib.hid (wb_told2 HW.out (x) (y)); generalize World.setCell _ _ _ = Wf at HF ⊢; obtain ⟨Wg, hWg⟩ : ∃ Wg, Wf = Wg := ⟨_, rfl⟩; rw [hWg] at HF ⊢; clear hWg; obtain ⟨z0, z1, z2, z3, z4, z5⟩ := num_cells HF.out.1; obtain ⟨e0, e1, e2, e3, e4, e5⟩ := num_cells HF.out.2.1; go_wp2_with fail; exact bodyPost_ret (v := .tuple #[numV (x), numV (y), .bool false]) (by unfold numV; simp [results, Try.results6, go_sem, z0, z1, z2, z3, z4, z5, e0, e1, e2, e3, e4, e5]) rfl ⟨congrArg Ending.returned HVV.out, HF.out.2.2.drew⟩)
        · rw [Bool.true_and] at hv
          have h14 := fun W => refined_pair t.x t.y W
          obtain ⟨P, hP⟩ : ∃ P, t.x.fine = P := ⟨_, rfl⟩
          obtain ⟨Q, hQ⟩ : ∃ Q, t.y.fine = Q := ⟨_, rfl⟩
          obtain ⟨q, hq⟩ : ∃ q, (t.x.okF && t.y.okF) = q := ⟨_, rfl⟩
          rw [hP, hQ, hq] at h14
          rw [hP, hQ, hq] at hv
          clear hP hQ hq
          have HVV := Lib.hid hv
          clear hv
          unfold pairV pairC at h14
          obtain ⟨x0, x1, x2, x3, x4, x5⟩ := num_cells HW.out.1.1
          obtain ⟨y0, y1, y2, y3, y4, y5⟩ := num_cells HW.out.1.2
          obtain ⟨r0, r1, r2, r3, r4, r5⟩ := num_cells HW.out.2.1.1
          obtain ⟨t0, t1, t2, t3, t4, t5⟩ := num_cells HW.out.2.1.2
          obtain ⟨k0, k1, k2, k3, k4, k5⟩ := num_free HW.out.2.1.1
          obtain ⟨l0, l1, l2, l3, l4, l5⟩ := num_free HW.out.2.1.2
          obtain ⟨⟨p0, p1, p2, p3, p4, p5⟩, ⟨q0, q1, q2, q3, q4, q5⟩⟩ := pair_cells HW.out.2.2.1
          obtain ⟨⟨f0, f1, f2, f3, f4, f5⟩, ⟨g0, g1, g2, g3, g4, g5⟩⟩ := pair_free HW.out.2.2.1
          go_upto_region 12 with (go_at_call 14; refine (h14 _).mono ?_; rintro e w2 ⟨rfl, hb⟩; have HV := Lib.hid (wb_keep HW.out hb); clear hb; clear x0 x1 x2 x3 x4 x5 y0 y1 y2 y3 y4 y5 r0 r1 r2 r3 r4 r5 t0 t1 t2 t3 t4 t5 k0 k1 k2 k3 k4 k5 l0 l1 l2 l3 l4 l5 p0 p1 p2 p3 p4 p5 q0 q1 q2 q3 q4 q5 f0 f1 f2 f3 f4 f5 g0 g1 g2 g3 g4 g5; clear HW; have HW := HV; clear HV; obtain ⟨x0, x1, x2, x3, x4, x5⟩ := num_cells HW.out.1.1; obtain ⟨y0, y1, y2, y3, y4, y5⟩ := num_cells HW.out.1.2; obtain ⟨r0, r1, r2, r3, r4, r5⟩ := num_cells HW.out.2.1.1; obtain ⟨t0, t1, t2, t3, t4, t5⟩ := num_cells HW.out.2.1.2; obtain ⟨k0, k1, k2, k3, k4, k5⟩ := num_free HW.out.2.1.1; obtain ⟨l0, l1, l2, l3, l4, l5⟩ := num_free HW.out.2.1.2; obtain ⟨⟨p0, p1, p2, p3, p4, p5⟩, ⟨q0, q1, q2, q3, q4, q5⟩⟩ := pair_cells HW.out.2.2.1; obtain ⟨⟨f0, f1, f2, f3, f4, f5⟩, ⟨g0, g1, g2, g3, g4, g5⟩⟩ := pair_free HW.out.2.2.1)
          clear h14
          have HV := Lib.hid (wb_pair HW.out P Q)
          clear x0 x1 x2 x3 x4 x5 y0 y1 y2 y3 y4 y5 r0 r1 r2 r3 r4 r5 t0 t1 t2 t3 t4 t5 k0 k1 k2 k3 k4 k5 l0 l1 l2 l3 l4 l5 p0 p1 p2 p3 p4 p5 q0 q1 q2 q3 q4 q5 f0 f1 f2 f3 f4 f5 g0 g1 g2 g3 g4 g5
          generalize World.setCell _ _ _ = W8 at HV ⊢
          obtain ⟨W9, hWd⟩ : ∃ Wd, W8 = Wd := ⟨_, rfl⟩
          rw [hWd] at HV ⊢
          clear hWd
          clear HW
          have HW := HV
          clear HV
          obtain ⟨x0, x1, x2, x3, x4, x5⟩ := num_cells HW.out.1.1
          obtain ⟨y0, y1, y2, y3, y4, y5⟩ := num_cells HW.out.1.2
          obtain ⟨r0, r1, r2, r3, r4, r5⟩ := num_cells HW.out.2.1.1
          obtain ⟨t0, t1, t2, t3, t4, t5⟩ := num_cells HW.out.2.1.2
          obtain ⟨k0, k1, k2, k3, k4, k5⟩ := num_free HW.out.2.1.1
          obtain ⟨l0, l1, l2, l3, l4, l5⟩ := num_free HW.out.2.1.2
          obtain ⟨⟨p0, p1, p2, p3, p4, p5⟩, ⟨q0, q1, q2, q3, q4, q5⟩⟩ := pair_cells HW.out.2.2.1
          obtain ⟨⟨f0, f1, f2, f3, f4, f5⟩, ⟨g0, g1, g2, g3, g4, g5⟩⟩ := pair_free HW.out.2.2.1
          have hv := HVV.out
          clear HVV
          cases q
          · rw [if_neg Bool.false_ne_true] at hv
            have HVV := Lib.hid hv
            clear hv
            go_wp2_with fail
            clear p0 p1 p2 p3 p4 p5 q0 q1 q2 q3 q4 q5 f0 f1 f2 f3 f4 f5 g0 g1 g2 g3 g4 g5
            go_region
            all_goals
              first
                | (have HF := Lib.hid (wb_told HW.out (x) (y)); generalize World.setCell _ _ _ = Wf at HF ⊢; obtain ⟨Wg, hWg⟩ : ∃ Wg, Wf = Wg := ⟨_, rfl⟩; rw [hWg] at HF ⊢; clear hWg; obtain ⟨z0, z1, z2, z3, z4, z5⟩ := num_cells HF.out.1; obtain ⟨e0, e1, e2, e3, e4, e5⟩ := num_cells HF.out.2.1; go_wp2_with fail; exact bodyPost_ret (v := .tuple #[numV (x), numV (y), .bool false]) (by unfold numV; simp [results, Try.results6, go_sem, z0, z1, z2, z3, z4, z5, e0, e1, e2, e3, e4, e5]) rfl ⟨congrArg Ending.returned HVV.out, HF.out.2.2.drew⟩)
                | (have HF := Lib.hid (wb_told2 HW.out (x) (y)); generalize World.setCell _ _ _ = Wf at HF ⊢; obtain ⟨Wg, hWg⟩ : ∃ Wg, Wf = Wg := ⟨_, rfl⟩; rw [hWg] at HF ⊢; clear hWg; obtain ⟨z0, z1, z2, z3, z4, z5⟩ := num_cells HF.out.1; obtain ⟨e0, e1, e2, e3, e4, e5⟩ := num_cells HF.out.2.1; go_wp2_with fail; exact bodyPost_ret (v := .tuple #[numV (x), numV (y), .bool false]) (by unfold numV; simp [results, Try.results6, go_sem, z0, z1, z2, z3, z4, z5, e0, e1, e2, e3, e4, e5]) rfl ⟨congrArg Ending.returned HVV.out, HF.out.2.2.drew⟩)
          · rw [if_pos rfl] at hv
            have HVV := Lib.hid hv
            clear hv
            go_wp2_with fail
            clear x0 x1 x2 x3 x4 x5 y0 y1 y2 y3 y4 y5 f0 f1 f2 f3 f4 f5 g0 g1 g2 g3 g4 g5
            go_region
            all_goals
              first
                | (have HF := Lib.hid (wb_told HW.out (P) (Q)); generalize World.setCell _ _ _ = Wf at HF ⊢; obtain ⟨Wg, hWg⟩ : ∃ Wg, Wf = Wg := ⟨_, rfl⟩; rw [hWg] at HF ⊢; clear hWg; obtain ⟨z0, z1, z2, z3, z4, z5⟩ := num_cells HF.out.1; obtain ⟨e0, e1, e2, e3, e4, e5⟩ := num_cells HF.out.2.1; go_wp2_with fail; exact bodyPost_ret (v := .tuple #[numV (P), numV (Q), .bool true]) (by unfold numV; simp [results, Try.results6, go_sem, z0, z1, z2, z3, z4, z5, e0, e1, e2, e3, e4, e5]) rfl ⟨congrArg Ending.returned HVV.out, HF.out.2.2.drew⟩)
                | (have HF := Lib.hid (wb_told2 HW.out (P) (Q)); generalize World.setCell _ _ _ = Wf at HF ⊢; obtain ⟨Wg, hWg⟩ : ∃ Wg, Wf = Wg := ⟨_, rfl⟩; rw [hWg] at HF ⊢; clear hWg; obtain ⟨z0, z1, z2, z3, z4, z5⟩ := num_cells HF.out.1; obtain ⟨e0, e1, e2, e3, e4, e5⟩ := num_cells HF.out.2.1; go_wp2_with fail; exact bodyPost_ret (v := .tuple #[numV (P), numV (Q), .bool true]) (by unfold numV; simp [results, Try.results6, go_sem, z0, z1, z2, z3, z4, z5, e0, e1, e2, e3, e4, e5]) rfl ⟨congrArg Ending.returned HVV.out, HF.out.2.2.drew⟩)
end Go.Proofs.Ytbljijbmjccalaa
