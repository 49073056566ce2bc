/-
  Proved here: what without of package narrow returns. Conditions: none.
-/
import Derived.Test.YtbljijbmjccalaaHRefRound
import Derived.Test.YtbljijbmjccalaaP1
namespace Go.Proofs.Ytbljijbmjccalaa
open Go.RowKit
attribute [local go_sem] u_and u_or u_xor u_andNot u_add u_sub s_conv u_conv max_u min_u max_s min_s u_inc u_less s_inc s_less s_inc64 s_less64
set_option linter.unusedSimpArgs false

theorem woA_yes {w0 W : World} {k : K} (h : RB w0 k W) (z : B64) (p : (u k.a == u z) = true) (q : decide (u z < 18446744073709551615) = true) : RB w0 (k.woA z) (W.setCell ⟨w0.heap.size, 2, none⟩ (.int .u64 (u (k.a + 1#64)))) := by
  unfold K.woA
  rw [if_pos ⟨by simpa using p, by simpa using q⟩]
  exact rb_a h _
theorem woA_no {w0 W : World} {k : K} (h : RB w0 k W) (z : B64) (p : (u k.a == u z) = false ∨ decide (u z < 18446744073709551615) = false) : RB w0 (k.woA z) W := by
  unfold K.woA
  rw [if_neg (by rintro ⟨g1, g2⟩; rcases p with p | p <;> simp_all)]
  exact h
theorem woB_yes {w0 W : World} {k : K} (h : RB w0 k W) (z : B64) (p : (u k.b == u z) = true) (q : decide (0 < u z) = true) : RB w0 (k.woB z) (W.setCell ⟨w0.heap.size, 3, none⟩ (.int .u64 (u (k.b - 1#64)))) := by
  unfold K.woB
  rw [if_pos ⟨by simpa using p, by simpa using q⟩]
  exact rb_b h _
theorem woB_no {w0 W : World} {k : K} (h : RB w0 k W) (z : B64) (p : (u k.b == u z) = false ∨ decide (0 < u z) = false) : RB w0 (k.woB z) W := by
  unfold K.woB
  rw [if_neg (by rintro ⟨g1, g2⟩; rcases p with p | p <;> simp_all)]
  exact h
theorem woC_yes {w0 W : World} {k : K} (h : RB w0 k W) (z : B64) (p : (s k.c == s z) = true) (q : decide (s z < 9223372036854775807) = true) : RB w0 (k.woC z) (W.setCell ⟨w0.heap.size, 4, none⟩ (.int .i64 (s (k.c + 1#64)))) := by
  unfold K.woC
  rw [if_pos ⟨by simpa using p, by simpa using q⟩]
  exact rb_c h _
theorem woC_no {w0 W : World} {k : K} (h : RB w0 k W) (z : B64) (p : (s k.c == s z) = false ∨ decide (s z < 9223372036854775807) = false) : RB w0 (k.woC z) W := by
  unfold K.woC
  rw [if_neg (by rintro ⟨g1, g2⟩; rcases p with p | p <;> simp_all)]
  exact h
theorem woD_yes {w0 W : World} {k : K} (h : RB w0 k W) (z : B64) (p : (s k.d == s z) = true) (q : decide (-9223372036854775808 < s z) = true) : RB w0 (k.woD z) (W.setCell ⟨w0.heap.size, 5, none⟩ (.int .i64 (s (k.d - 1#64)))) := by
  unfold K.woD
  rw [if_pos ⟨by simpa using p, by simpa using q⟩]
  exact rb_d h _
theorem woD_no {w0 W : World} {k : K} (h : RB w0 k W) (z : B64) (p : (s k.d == s z) = false ∨ decide (-9223372036854775808 < s z) = false) : RB w0 (k.woD z) W := by
  unfold K.woD
  rw [if_neg (by rintro ⟨g1, g2⟩; rcases p with p | p <;> simp_all)]
  exact h
set_option maxRecDepth 100000 in
set_option maxHeartbeats 8000000 in
theorem without_num (k : K) (z : B64) (w : World) : Calls Try.prog 40 #[numV k, .int .u64 (u z)] w (Gives (numV (k.wo z)) w) := by
  have HB := Lib.hid (rb_new k w)
  unfold Gives numV
  obtain ⟨n0, n1, n2, n3, n4, n5⟩ := num_cells HB.out.1
  obtain ⟨f0, f1, f2, f3, f4, f5⟩ := num_free HB.out.1
  obtain ⟨W0, hW0⟩ : ∃ W0, ((w.alloc (.cells #[.int .u64 (u k.v), .int .u64 (u k.m), .int .u64 (u k.a), .int .u64 (u k.b), .int .i64 (s k.c), .int .i64 (s k.d)] 26)).alloc (.cells #[.int .u64 0, .int .u64 0, .int .u64 0, .int .u64 0, .int .i64 0, .int .i64 0] 26)) = W0 := ⟨_, rfl⟩
  rw [hW0] at n0 n1 n2 n3 n4 n5 f0 f1 f2 f3 f4 f5 HB
  go_enter Try.func40, Try.ntmps40
  go_upto_region 1 with fail
  clear hW0
  obtain ⟨B, hBd⟩ : ∃ B, decide (u k.a = u z ∧ u z < 18446744073709551615) = B := ⟨_, rfl⟩
  go_cut [14] (fun c wx => c = .bool B ∧ wx = W0)
  case first =>
    obtain ⟨bA, hA⟩ : ∃ b, (u k.a == u z) = b := ⟨_, rfl⟩
    obtain ⟨bB, hB⟩ : ∃ b, decide (u z < 18446744073709551615) = b := ⟨_, rfl⟩
    have HBd := Lib.hid hBd
    clear hBd
    cases bA <;> cases bB
    all_goals
      go_wp2_with fail
      go_meet
      refine ⟨?_, rfl⟩
      rw [← HBd.out]
      simp_all
  case rest =>
    obtain ⟨rfl, hw⟩ := hcut
    rw [hw]
    clear hw
    go_upto_if 14 with fail
    generalize hn : k.woA z = k1
    go_cut [] (fun wx => RB w k1 wx)
    case first =>
      subst hn
      have HBd := Lib.hid hBd
      clear hBd
      cases B
      · go_wp2_with fail
        go_meet
        exact woA_no HB.out z (by have := HBd.out; simp only [decide_eq_false_iff_not] at this; by_cases h : u k.a = u z <;> simp_all)
      · go_wp2_with fail
        go_meet
        exact woA_yes HB.out z (by have := HBd.out; simp_all) (by have := HBd.out; simp_all)
    case rest =>
      have HC := Lib.hid hcut
      clear n0 n1 n2 n3 n4 n5 f0 f1 f2 f3 f4 f5 hcut hBd B HB
      have HB := HC
      clear HC
      clear W0
      rename World => Wc1
      obtain ⟨n0, n1, n2, n3, n4, n5⟩ := num_cells HB.out.1
      obtain ⟨f0, f1, f2, f3, f4, f5⟩ := num_free HB.out.1
      go_upto_region 3 with fail
      obtain ⟨B, hBd⟩ : ∃ B, decide (u k1.b = u z ∧ 0 < u z) = B := ⟨_, rfl⟩
      go_cut [26] (fun c wx => c = .bool B ∧ wx = Wc1)
      case first =>
        obtain ⟨bA, hA⟩ : ∃ b, (u k1.b == u z) = b := ⟨_, rfl⟩
        obtain ⟨bB, hB⟩ : ∃ b, decide (0 < u z) = b := ⟨_, rfl⟩
        have HBd := Lib.hid hBd
        clear hBd
        cases bA <;> cases bB
        all_goals
          go_wp2_with fail
          go_meet
          refine ⟨?_, rfl⟩
          rw [← HBd.out]
          simp_all
      case rest =>
        obtain ⟨rfl, hw⟩ := hcut
        rw [hw]
        clear hw
        go_upto_if 26 with fail
        generalize hn : k1.woB z = k2
        go_cut [] (fun wx => RB w k2 wx)
        case first =>
          subst hn
          have HBd := Lib.hid hBd
          clear hBd
          cases B
          · go_wp2_with fail
            go_meet
            exact woB_no HB.out z (by have := HBd.out; simp only [decide_eq_false_iff_not] at this; by_cases h : u k1.b = u z <;> simp_all)
          · go_wp2_with fail
            go_meet
            exact woB_yes HB.out z (by have := HBd.out; simp_all) (by have := HBd.out; simp_all)
        case rest =>
          have HC := Lib.hid hcut
          clear n0 n1 n2 n3 n4 n5 f0 f1 f2 f3 f4 f5 hcut hBd B HB
          have HB := HC
          clear HC
          clear Wc1
          rename World => Wc2
          obtain ⟨n0, n1, n2, n3, n4, n5⟩ := num_cells HB.out.1
          obtain ⟨f0, f1, f2, f3, f4, f5⟩ := num_free HB.out.1
          go_upto_region 6 with fail
          obtain ⟨B, hBd⟩ : ∃ B, decide (s k2.c = s z ∧ s z < 9223372036854775807) = B := ⟨_, rfl⟩
          go_cut [40] (fun c wx => c = .bool B ∧ wx = Wc2)
          case first =>
            obtain ⟨bA, hA⟩ : ∃ b, (s k2.c == s z) = b := ⟨_, rfl⟩
            obtain ⟨bB, hB⟩ : ∃ b, decide (s z < 9223372036854775807) = b := ⟨_, rfl⟩
            have HBd := Lib.hid hBd
            clear hBd
            cases bA <;> cases bB
            all_goals
              go_wp2_with fail
              go_meet
              refine ⟨?_, rfl⟩
              rw [← HBd.out]
              simp_all
          case rest =>
            obtain ⟨rfl, hw⟩ := hcut
            rw [hw]
            clear hw
            go_upto_if 40 with fail
            generalize hn : k2.woC z = k3
            go_cut [] (fun wx => RB w k3 wx)
            case first =>
              subst hn
              have HBd := Lib.hid hBd
              clear hBd
              cases B
              · go_wp2_with fail
                go_meet
                exact woC_no HB.out z (by have := HBd.out; simp only [decide_eq_false_iff_not] at this; by_cases h : s k2.c = s z <;> simp_all)
              · go_wp2_with fail
                go_meet
                exact woC_yes HB.out z (by have := HBd.out; simp_all) (by have := HBd.out; simp_all)
            case rest =>
              have HC := Lib.hid hcut
              clear n0 n1 n2 n3 n4 n5 f0 f1 f2 f3 f4 f5 hcut hBd B HB
              have HB := HC
              clear HC
              clear Wc2
              rename World => Wc3
              obtain ⟨n0, n1, n2, n3, n4, n5⟩ := num_cells HB.out.1
              obtain ⟨f0, f1, f2, f3, f4, f5⟩ := num_free HB.out.1
              go_upto_region 9 with fail
              obtain ⟨B, hBd⟩ : ∃ B, decide (s k3.d = s z ∧ -9223372036854775808 < s z) = B := ⟨_, rfl⟩
              go_cut [54] (fun c wx => c = .bool B ∧ wx = Wc3)
              case first =>
                obtain ⟨bA, hA⟩ : ∃ b, (s k3.d == s z) = b := ⟨_, rfl⟩
                obtain ⟨bB, hB⟩ : ∃ b, decide (-9223372036854775808 < s z) = b := ⟨_, rfl⟩
                have HBd := Lib.hid hBd
                clear hBd
                cases bA <;> cases bB
                all_goals
                  go_wp2_with fail
                  go_meet
                  refine ⟨?_, rfl⟩
                  rw [← HBd.out]
                  simp_all
              case rest =>
                obtain ⟨rfl, hw⟩ := hcut
                rw [hw]
                clear hw
                go_upto_if 54 with fail
                generalize hn : k3.woD z = k4
                go_cut [] (fun wx => RB w k4 wx)
                case first =>
                  subst hn
                  have HBd := Lib.hid hBd
                  clear hBd
                  cases B
                  · go_wp2_with fail
                    go_meet
                    exact woD_no HB.out z (by have := HBd.out; simp only [decide_eq_false_iff_not] at this; by_cases h : s k3.d = s z <;> simp_all)
                  · go_wp2_with fail
                    go_meet
                    exact woD_yes HB.out z (by have := HBd.out; simp_all) (by have := HBd.out; simp_all)
                case rest =>
                  have HC := Lib.hid hcut
                  clear n0 n1 n2 n3 n4 n5 f0 f1 f2 f3 f4 f5 hcut hBd B HB
                  have HB := HC
                  clear HC
                  clear Wc3
                  rename World => Wc4
                  obtain ⟨n0, n1, n2, n3, n4, n5⟩ := num_cells HB.out.1
                  obtain ⟨f0, f1, f2, f3, f4, f5⟩ := num_free HB.out.1
                  obtain ⟨z0, z1, z2, z3, z4, z5⟩ := num_cells HB.out.2.1
                  obtain ⟨e0, e1, e2, e3, e4, e5⟩ := num_free HB.out.2.1
                  go_wp2_with fail
                  exact bodyPost_ret (v := numV k4) (by unfold numV; simp [results, Try.results40, go_sem, z0, z1, z2, z3, z4, z5]) rfl ⟨by unfold K.wo; simp only [*]; rfl, below_sixn (by omega) HB.out.2.2 _ _ _ _ _ _⟩
end Go.Proofs.Ytbljijbmjccalaa

/-
  Proved here: what different of package narrow returns. Conditions: none.
-/
namespace Go.Proofs.Ytbljijbmjccalaa
open Go.RowKit
attribute [local go_sem] u_and u_or u_xor u_andNot u_add u_sub s_conv u_conv max_u min_u max_s min_s u_inc u_less s_inc s_less s_inc64 s_less64
set_option linter.unusedSimpArgs false


/-- The three boxes: the pair's, what is returned, what is under way. -/
def PQ (w0 : World) (x y r q a b : K) (W : World) : Prop := PairAt w0.heap.size x y W ∧ PairAt (w0.heap.size + 1) r q W ∧ PairAt (w0.heap.size + 1 + 1) a b W ∧ Below w0.heap.size w0 W
theorem pair_first {g : Nat} {a b : K} {W : World} (h : PairAt g a b W) (r : K) : PairAt g r b ((((((W.setCell ⟨g, 0, none⟩ (.int .u64 (u r.v))).setCell ⟨g, 1, none⟩ (.int .u64 (u r.m))).setCell ⟨g, 2, none⟩ (.int .u64 (u r.a))).setCell ⟨g, 3, none⟩ (.int .u64 (u r.b))).setCell ⟨g, 4, none⟩ (.int .i64 (s r.c))).setCell ⟨g, 5, none⟩ (.int .i64 (s r.d))) :=
  pair_xd (pair_xc (pair_xb (pair_xa (pair_xm (pair_xv h r.v) r.m) r.a) r.b) r.c) r.d
theorem pair_second {g : Nat} {a b : K} {W : World} (h : PairAt g a b W) (q : K) : PairAt g a q ((((((W.setCell ⟨g, 6, none⟩ (.int .u64 (u q.v))).setCell ⟨g, 7, none⟩ (.int .u64 (u q.m))).setCell ⟨g, 8, none⟩ (.int .u64 (u q.a))).setCell ⟨g, 9, none⟩ (.int .u64 (u q.b))).setCell ⟨g, 10, none⟩ (.int .i64 (s q.c))).setCell ⟨g, 11, none⟩ (.int .i64 (s q.d))) :=
  pair_yd (pair_yc (pair_yb (pair_ya (pair_ym (pair_yv h q.v) q.m) q.a) q.b) q.c) q.d
section
variable {w0 W W' : World} {x y r q a b : K}
theorem pq_keep (h : PQ w0 x y r q a b W) (hb : Below W.heap.size W W') : PQ w0 x y r q a b W' :=
  ⟨pair_keep h.1 hb, pair_keep h.2.1 hb, pair_keep h.2.2.1 hb, h.2.2.2.trans (hb.mono h.2.2.2.size)⟩
theorem pq_first (h : PQ w0 x y r q a b W) (z : K) : PQ w0 x y r q z b ((((((W.setCell ⟨w0.heap.size + 1 + 1, 0, none⟩ (.int .u64 (u z.v))).setCell ⟨w0.heap.size + 1 + 1, 1, none⟩ (.int .u64 (u z.m))).setCell ⟨w0.heap.size + 1 + 1, 2, none⟩ (.int .u64 (u z.a))).setCell ⟨w0.heap.size + 1 + 1, 3, none⟩ (.int .u64 (u z.b))).setCell ⟨w0.heap.size + 1 + 1, 4, none⟩ (.int .i64 (s z.c))).setCell ⟨w0.heap.size + 1 + 1, 5, none⟩ (.int .i64 (s z.d))) := by
  have hb : Below (w0.heap.size + 1 + 1) W ((((((W.setCell ⟨w0.heap.size + 1 + 1, 0, none⟩ (.int .u64 (u z.v))).setCell ⟨w0.heap.size + 1 + 1, 1, none⟩ (.int .u64 (u z.m))).setCell ⟨w0.heap.size + 1 + 1, 2, none⟩ (.int .u64 (u z.a))).setCell ⟨w0.heap.size + 1 + 1, 3, none⟩ (.int .u64 (u z.b))).setCell ⟨w0.heap.size + 1 + 1, 4, none⟩ (.int .i64 (s z.c))).setCell ⟨w0.heap.size + 1 + 1, 5, none⟩ (.int .i64 (s z.d))) := below_set (below_set (below_set (below_set (below_set (below_set (Below.refl (w0.heap.size + 1 + 1) W) _ _) _ _) _ _) _ _) _ _) _ _
  exact ⟨(hb.block _ (by omega)).trans h.1, (hb.block _ (by omega)).trans h.2.1, pair_first h.2.2.1 z, h.2.2.2.trans (hb.mono (by omega))⟩
theorem pq_second (h : PQ w0 x y r q a b W) (z : K) : PQ w0 x y r q a z ((((((W.setCell ⟨w0.heap.size + 1 + 1, 6, none⟩ (.int .u64 (u z.v))).setCell ⟨w0.heap.size + 1 + 1, 7, none⟩ (.int .u64 (u z.m))).setCell ⟨w0.heap.size + 1 + 1, 8, none⟩ (.int .u64 (u z.a))).setCell ⟨w0.heap.size + 1 + 1, 9, none⟩ (.int .u64 (u z.b))).setCell ⟨w0.heap.size + 1 + 1, 10, none⟩ (.int .i64 (s z.c))).setCell ⟨w0.heap.size + 1 + 1, 11, none⟩ (.int .i64 (s z.d))) := by
  have hb : Below (w0.heap.size + 1 + 1) W ((((((W.setCell ⟨w0.heap.size + 1 + 1, 6, none⟩ (.int .u64 (u z.v))).setCell ⟨w0.heap.size + 1 + 1, 7, none⟩ (.int .u64 (u z.m))).setCell ⟨w0.heap.size + 1 + 1, 8, none⟩ (.int .u64 (u z.a))).setCell ⟨w0.heap.size + 1 + 1, 9, none⟩ (.int .u64 (u z.b))).setCell ⟨w0.heap.size + 1 + 1, 10, none⟩ (.int .i64 (s z.c))).setCell ⟨w0.heap.size + 1 + 1, 11, none⟩ (.int .i64 (s z.d))) := below_set (below_set (below_set (below_set (below_set (below_set (Below.refl (w0.heap.size + 1 + 1) W) _ _) _ _) _ _) _ _) _ _) _ _
  exact ⟨(hb.block _ (by omega)).trans h.1, (hb.block _ (by omega)).trans h.2.1, pair_second h.2.2.1 z, h.2.2.2.trans (hb.mono (by omega))⟩
theorem pq_out (h : PQ w0 x y r q a b W) : PG w0 x y r q (w0.heap.size + 1) W := ⟨h.1, h.2.1, by omega, h.2.2.2⟩
end
theorem pq_new (x y : K) (w : World) : PQ w x y zeroK zeroK x y (((w.alloc (.cells (pairC x y) 38)).alloc (.cells #[.int .u64 0, .int .u64 0, .int .u64 0, .int .u64 0, .int .i64 0, .int .i64 0, .int .u64 0, .int .u64 0, .int .u64 0, .int .u64 0, .int .i64 0, .int .i64 0] 38)).alloc (.cells (pairC x y) 38)) := by
  have h := pb_new x y w
  obtain ⟨W1, hW1⟩ : ∃ W, (w.alloc (.cells (pairC x y) 38)).alloc (.cells #[.int .u64 0, .int .u64 0, .int .u64 0, .int .u64 0, .int .i64 0, .int .i64 0, .int .u64 0, .int .u64 0, .int .u64 0, .int .u64 0, .int .i64 0, .int .i64 0] 38) = W := ⟨_, rfl⟩
  have e1 : W1.heap.size = w.heap.size + 1 + 1 := by rw [← hW1]; simp
  rw [hW1] at h ⊢
  have h2 := pair_new x y W1
  have b2 := below_box W1 (.cells (pairC x y) 38)
  rw [e1] at h2
  exact ⟨pair_keep h.1 b2, pair_keep h.2.1 b2, h2, h.2.2.trans (b2.mono (by omega))⟩
set_option maxHeartbeats 4000000 in
theorem diff_nn (x y : K) (w : World) (hA : u y.m ≠ 0) (hB : u x.m ≠ 0) : Calls Try.prog 21 #[pairV x y] w (Gives (.tuple #[pairV (x) (y), .bool true]) w) := by
  have h1 := fun W => isConst_no y W hA
  have h2 := fun W => isConst_no x W hB
  clear hA hB
  unfold numV at h1 h2
  have HP := Lib.hid (pq_new x y w)
  unfold Gives pairV pairC
  unfold pairC at HP
  obtain ⟨W0, hW0⟩ : ∃ W0, (((w.alloc (.cells #[.int .u64 (u x.v), .int .u64 (u x.m), .int .u64 (u x.a), .int .u64 (u x.b), .int .i64 (s x.c), .int .i64 (s x.d), .int .u64 (u y.v), .int .u64 (u y.m), .int .u64 (u y.a), .int .u64 (u y.b), .int .i64 (s y.c), .int .i64 (s y.d)] 38)).alloc (.cells #[.int .u64 0, .int .u64 0, .int .u64 0, .int .u64 0, .int .i64 0, .int .i64 0, .int .u64 0, .int .u64 0, .int .u64 0, .int .u64 0, .int .i64 0, .int .i64 0] 38)).alloc (.cells #[.int .u64 (u x.v), .int .u64 (u x.m), .int .u64 (u x.a), .int .u64 (u x.b), .int .i64 (s x.c), .int .i64 (s x.d), .int .u64 (u y.v), .int .u64 (u y.m), .int .u64 (u y.a), .int .u64 (u y.b), .int .i64 (s y.c), .int .i64 (s y.d)] 38)) = W0 := ⟨_, rfl⟩
  rw [hW0] at HP
  obtain ⟨⟨p0, p1, p2, p3, p4, p5⟩, ⟨q0, q1, q2, q3, q4, q5⟩⟩ := pair_cells HP.out.1
  obtain ⟨⟨r0, r1, r2, r3, r4, r5⟩, ⟨t0, t1, t2, t3, t4, t5⟩⟩ := pair_cells HP.out.2.1
  obtain ⟨⟨k0, k1, k2, k3, k4, k5⟩, ⟨l0, l1, l2, l3, l4, l5⟩⟩ := pair_free HP.out.2.1
  obtain ⟨⟨u0, u1, u2, u3, u4, u5⟩, ⟨v0, v1, v2, v3, v4, v5⟩⟩ := pair_cells HP.out.2.2.1
  obtain ⟨⟨f0, f1, f2, f3, f4, f5⟩, ⟨g0, g1, g2, g3, g4, g5⟩⟩ := pair_free HP.out.2.2.1
  go_enter Try.func21, Try.ntmps21
  go_upto_if 16 with (go_at_call_of 39 (Value.agg #[.int .u64 (u y.v), .int .u64 (u y.m), .int .u64 (u y.a), .int .u64 (u y.b), .int .i64 (s y.c), .int .i64 (s y.d)]); refine (h1 _).mono ?_; rintro e w1 ⟨rfl, hb⟩; have HQ := Lib.hid (pq_keep HP.out hb); clear hb; clear p0 p1 p2 p3 p4 p5 q0 q1 q2 q3 q4 q5 r0 r1 r2 r3 r4 r5 t0 t1 t2 t3 t4 t5 k0 k1 k2 k3 k4 k5 l0 l1 l2 l3 l4 l5 u0 u1 u2 u3 u4 u5 v0 v1 v2 v3 v4 v5 f0 f1 f2 f3 f4 f5 g0 g1 g2 g3 g4 g5; clear HP; have HP := HQ; clear HQ; obtain ⟨⟨p0, p1, p2, p3, p4, p5⟩, ⟨q0, q1, q2, q3, q4, q5⟩⟩ := pair_cells HP.out.1; obtain ⟨⟨r0, r1, r2, r3, r4, r5⟩, ⟨t0, t1, t2, t3, t4, t5⟩⟩ := pair_cells HP.out.2.1; obtain ⟨⟨k0, k1, k2, k3, k4, k5⟩, ⟨l0, l1, l2, l3, l4, l5⟩⟩ := pair_free HP.out.2.1; obtain ⟨⟨u0, u1, u2, u3, u4, u5⟩, ⟨v0, v1, v2, v3, v4, v5⟩⟩ := pair_cells HP.out.2.2.1; obtain ⟨⟨f0, f1, f2, f3, f4, f5⟩, ⟨g0, g1, g2, g3, g4, g5⟩⟩ := pair_free HP.out.2.2.1)
  clear hW0
  go_upto_if 28 with (go_at_call_of 39 (Value.agg #[.int .u64 (u x.v), .int .u64 (u x.m), .int .u64 (u x.a), .int .u64 (u x.b), .int .i64 (s x.c), .int .i64 (s x.d)]); refine (h2 _).mono ?_; rintro e w3 ⟨rfl, hb⟩; have HQ := Lib.hid (pq_keep HP.out hb); clear hb; clear p0 p1 p2 p3 p4 p5 q0 q1 q2 q3 q4 q5 r0 r1 r2 r3 r4 r5 t0 t1 t2 t3 t4 t5 k0 k1 k2 k3 k4 k5 l0 l1 l2 l3 l4 l5 u0 u1 u2 u3 u4 u5 v0 v1 v2 v3 v4 v5 f0 f1 f2 f3 f4 f5 g0 g1 g2 g3 g4 g5; clear HP; have HP := HQ; clear HQ; obtain ⟨⟨p0, p1, p2, p3, p4, p5⟩, ⟨q0, q1, q2, q3, q4, q5⟩⟩ := pair_cells HP.out.1; obtain ⟨⟨r0, r1, r2, r3, r4, r5⟩, ⟨t0, t1, t2, t3, t4, t5⟩⟩ := pair_cells HP.out.2.1; obtain ⟨⟨k0, k1, k2, k3, k4, k5⟩, ⟨l0, l1, l2, l3, l4, l5⟩⟩ := pair_free HP.out.2.1; obtain ⟨⟨u0, u1, u2, u3, u4, u5⟩, ⟨v0, v1, v2, v3, v4, v5⟩⟩ := pair_cells HP.out.2.2.1; obtain ⟨⟨f0, f1, f2, f3, f4, f5⟩, ⟨g0, g1, g2, g3, g4, g5⟩⟩ := pair_free HP.out.2.2.1)
  go_wp2_with fail
  have HF := Lib.hid (pg_ret (pq_out HP.out) x y)
  clear p0 p1 p2 p3 p4 p5 q0 q1 q2 q3 q4 q5 r0 r1 r2 r3 r4 r5 t0 t1 t2 t3 t4 t5 k0 k1 k2 k3 k4 k5 l0 l1 l2 l3 l4 l5 u0 u1 u2 u3 u4 u5 v0 v1 v2 v3 v4 v5 f0 f1 f2 f3 f4 f5 g0 g1 g2 g3 g4 g5
  generalize World.setCell _ _ _ = Wf at HF ⊢
  obtain ⟨⟨r0, r1, r2, r3, r4, r5⟩, ⟨t0, t1, t2, t3, t4, t5⟩⟩ := pair_cells HF.out.2.1
  exact bodyPost_ret (v := .tuple #[pairV x y, .bool true]) (by unfold pairV pairC; simp [results, Try.results21, go_sem, r0, r1, r2, r3, r4, r5, t0, t1, t2, t3, t4, t5]) rfl ⟨rfl, HF.out.2.2.2⟩
set_option maxHeartbeats 4000000 in
theorem diff_ny (x y : K) (w : World) (hA : u y.m ≠ 0) (hB : u x.m = 0) : Calls Try.prog 21 #[pairV x y] w (Gives (.tuple #[pairV (x) (y.wo x.v), .bool true]) w) := by
  have h1 := fun W => isConst_no y W hA
  have h2 := fun W => isConst_yes x W hB
  clear hA hB
  have h4 := fun W => without_num y x.v W
  obtain ⟨b, hb⟩ : ∃ b, y.wo x.v = b := ⟨_, rfl⟩
  rw [hb] at h4 ⊢
  clear hb
  unfold numV at h1 h2 h4
  have HP := Lib.hid (pq_new x y w)
  unfold Gives pairV pairC
  unfold pairC at HP
  obtain ⟨W0, hW0⟩ : ∃ W0, (((w.alloc (.cells #[.int .u64 (u x.v), .int .u64 (u x.m), .int .u64 (u x.a), .int .u64 (u x.b), .int .i64 (s x.c), .int .i64 (s x.d), .int .u64 (u y.v), .int .u64 (u y.m), .int .u64 (u y.a), .int .u64 (u y.b), .int .i64 (s y.c), .int .i64 (s y.d)] 38)).alloc (.cells #[.int .u64 0, .int .u64 0, .int .u64 0, .int .u64 0, .int .i64 0, .int .i64 0, .int .u64 0, .int .u64 0, .int .u64 0, .int .u64 0, .int .i64 0, .int .i64 0] 38)).alloc (.cells #[.int .u64 (u x.v), .int .u64 (u x.m), .int .u64 (u x.a), .int .u64 (u x.b), .int .i64 (s x.c), .int .i64 (s x.d), .int .u64 (u y.v), .int .u64 (u y.m), .int .u64 (u y.a), .int .u64 (u y.b), .int .i64 (s y.c), .int .i64 (s y.d)] 38)) = W0 := ⟨_, rfl⟩
  rw [hW0] at HP
  obtain ⟨⟨p0, p1, p2, p3, p4, p5⟩, ⟨q0, q1, q2, q3, q4, q5⟩⟩ := pair_cells HP.out.1
  obtain ⟨⟨r0, r1, r2, r3, r4, r5⟩, ⟨t0, t1, t2, t3, t4, t5⟩⟩ := pair_cells HP.out.2.1
  obtain ⟨⟨k0, k1, k2, k3, k4, k5⟩, ⟨l0, l1, l2, l3, l4, l5⟩⟩ := pair_free HP.out.2.1
  obtain ⟨⟨u0, u1, u2, u3, u4, u5⟩, ⟨v0, v1, v2, v3, v4, v5⟩⟩ := pair_cells HP.out.2.2.1
  obtain ⟨⟨f0, f1, f2, f3, f4, f5⟩, ⟨g0, g1, g2, g3, g4, g5⟩⟩ := pair_free HP.out.2.2.1
  go_enter Try.func21, Try.ntmps21
  go_upto_if 16 with (go_at_call_of 39 (Value.agg #[.int .u64 (u y.v), .int .u64 (u y.m), .int .u64 (u y.a), .int .u64 (u y.b), .int .i64 (s y.c), .int .i64 (s y.d)]); refine (h1 _).mono ?_; rintro e w1 ⟨rfl, hb⟩; have HQ := Lib.hid (pq_keep HP.out hb); clear hb; clear p0 p1 p2 p3 p4 p5 q0 q1 q2 q3 q4 q5 r0 r1 r2 r3 r4 r5 t0 t1 t2 t3 t4 t5 k0 k1 k2 k3 k4 k5 l0 l1 l2 l3 l4 l5 u0 u1 u2 u3 u4 u5 v0 v1 v2 v3 v4 v5 f0 f1 f2 f3 f4 f5 g0 g1 g2 g3 g4 g5; clear HP; have HP := HQ; clear HQ; obtain ⟨⟨p0, p1, p2, p3, p4, p5⟩, ⟨q0, q1, q2, q3, q4, q5⟩⟩ := pair_cells HP.out.1; obtain ⟨⟨r0, r1, r2, r3, r4, r5⟩, ⟨t0, t1, t2, t3, t4, t5⟩⟩ := pair_cells HP.out.2.1; obtain ⟨⟨k0, k1, k2, k3, k4, k5⟩, ⟨l0, l1, l2, l3, l4, l5⟩⟩ := pair_free HP.out.2.1; obtain ⟨⟨u0, u1, u2, u3, u4, u5⟩, ⟨v0, v1, v2, v3, v4, v5⟩⟩ := pair_cells HP.out.2.2.1; obtain ⟨⟨f0, f1, f2, f3, f4, f5⟩, ⟨g0, g1, g2, g3, g4, g5⟩⟩ := pair_free HP.out.2.2.1)
  clear hW0
  go_upto_if 28 with (go_at_call_of 39 (Value.agg #[.int .u64 (u x.v), .int .u64 (u x.m), .int .u64 (u x.a), .int .u64 (u x.b), .int .i64 (s x.c), .int .i64 (s x.d)]); refine (h2 _).mono ?_; rintro e w3 ⟨rfl, hb⟩; have HQ := Lib.hid (pq_keep HP.out hb); clear hb; clear p0 p1 p2 p3 p4 p5 q0 q1 q2 q3 q4 q5 r0 r1 r2 r3 r4 r5 t0 t1 t2 t3 t4 t5 k0 k1 k2 k3 k4 k5 l0 l1 l2 l3 l4 l5 u0 u1 u2 u3 u4 u5 v0 v1 v2 v3 v4 v5 f0 f1 f2 f3 f4 f5 g0 g1 g2 g3 g4 g5; clear HP; have HP := HQ; clear HQ; obtain ⟨⟨p0, p1, p2, p3, p4, p5⟩, ⟨q0, q1, q2, q3, q4, q5⟩⟩ := pair_cells HP.out.1; obtain ⟨⟨r0, r1, r2, r3, r4, r5⟩, ⟨t0, t1, t2, t3, t4, t5⟩⟩ := pair_cells HP.out.2.1; obtain ⟨⟨k0, k1, k2, k3, k4, k5⟩, ⟨l0, l1, l2, l3, l4, l5⟩⟩ := pair_free HP.out.2.1; obtain ⟨⟨u0, u1, u2, u3, u4, u5⟩, ⟨v0, v1, v2, v3, v4, v5⟩⟩ := pair_cells HP.out.2.2.1; obtain ⟨⟨f0, f1, f2, f3, f4, f5⟩, ⟨g0, g1, g2, g3, g4, g5⟩⟩ := pair_free HP.out.2.2.1)
  go_upto_region 8 with (go_at_call 40; refine (h4 _).mono ?_; rintro e w4 ⟨rfl, hb⟩; have HQ := Lib.hid (pq_keep HP.out hb); clear hb; clear p0 p1 p2 p3 p4 p5 q0 q1 q2 q3 q4 q5 r0 r1 r2 r3 r4 r5 t0 t1 t2 t3 t4 t5 k0 k1 k2 k3 k4 k5 l0 l1 l2 l3 l4 l5 u0 u1 u2 u3 u4 u5 v0 v1 v2 v3 v4 v5 f0 f1 f2 f3 f4 f5 g0 g1 g2 g3 g4 g5; clear HP; have HP := HQ; clear HQ; obtain ⟨⟨p0, p1, p2, p3, p4, p5⟩, ⟨q0, q1, q2, q3, q4, q5⟩⟩ := pair_cells HP.out.1; obtain ⟨⟨r0, r1, r2, r3, r4, r5⟩, ⟨t0, t1, t2, t3, t4, t5⟩⟩ := pair_cells HP.out.2.1; obtain ⟨⟨k0, k1, k2, k3, k4, k5⟩, ⟨l0, l1, l2, l3, l4, l5⟩⟩ := pair_free HP.out.2.1; obtain ⟨⟨u0, u1, u2, u3, u4, u5⟩, ⟨v0, v1, v2, v3, v4, v5⟩⟩ := pair_cells HP.out.2.2.1; obtain ⟨⟨f0, f1, f2, f3, f4, f5⟩, ⟨g0, g1, g2, g3, g4, g5⟩⟩ := pair_free HP.out.2.2.1)
  have HQ := Lib.hid (pq_second HP.out b)
  clear p0 p1 p2 p3 p4 p5 q0 q1 q2 q3 q4 q5 r0 r1 r2 r3 r4 r5 t0 t1 t2 t3 t4 t5 k0 k1 k2 k3 k4 k5 l0 l1 l2 l3 l4 l5 u0 u1 u2 u3 u4 u5 v0 v1 v2 v3 v4 v5 f0 f1 f2 f3 f4 f5 g0 g1 g2 g3 g4 g5
  generalize World.setCell _ _ _ = W2 at HQ ⊢
  clear HP
  have HP := HQ
  clear HQ
  obtain ⟨⟨p0, p1, p2, p3, p4, p5⟩, ⟨q0, q1, q2, q3, q4, q5⟩⟩ := pair_cells HP.out.1
  obtain ⟨⟨r0, r1, r2, r3, r4, r5⟩, ⟨t0, t1, t2, t3, t4, t5⟩⟩ := pair_cells HP.out.2.1
  obtain ⟨⟨k0, k1, k2, k3, k4, k5⟩, ⟨l0, l1, l2, l3, l4, l5⟩⟩ := pair_free HP.out.2.1
  obtain ⟨⟨u0, u1, u2, u3, u4, u5⟩, ⟨v0, v1, v2, v3, v4, v5⟩⟩ := pair_cells HP.out.2.2.1
  obtain ⟨⟨f0, f1, f2, f3, f4, f5⟩, ⟨g0, g1, g2, g3, g4, g5⟩⟩ := pair_free HP.out.2.2.1
  go_wp2_with fail
  have HF := Lib.hid (pg_ret (pq_out HP.out) x b)
  clear p0 p1 p2 p3 p4 p5 q0 q1 q2 q3 q4 q5 r0 r1 r2 r3 r4 r5 t0 t1 t2 t3 t4 t5 k0 k1 k2 k3 k4 k5 l0 l1 l2 l3 l4 l5 u0 u1 u2 u3 u4 u5 v0 v1 v2 v3 v4 v5 f0 f1 f2 f3 f4 f5 g0 g1 g2 g3 g4 g5
  generalize World.setCell _ _ _ = Wf at HF ⊢
  obtain ⟨⟨r0, r1, r2, r3, r4, r5⟩, ⟨t0, t1, t2, t3, t4, t5⟩⟩ := pair_cells HF.out.2.1
  exact bodyPost_ret (v := .tuple #[pairV x b, .bool true]) (by unfold pairV pairC; simp [results, Try.results21, go_sem, r0, r1, r2, r3, r4, r5, t0, t1, t2, t3, t4, t5]) rfl ⟨rfl, HF.out.2.2.2⟩
set_option maxHeartbeats 4000000 in
theorem diff_yn (x y : K) (w : World) (hA : u y.m = 0) (hB : u x.m ≠ 0) : Calls Try.prog 21 #[pairV x y] w (Gives (.tuple #[pairV (x.wo y.v) (y), .bool true]) w) := by
  have h1 := fun W => isConst_yes y W hA
  have h2 := fun W => isConst_no x W hB
  clear hA hB
  have h3 := fun W => without_num x y.v W
  obtain ⟨a, ha⟩ : ∃ a, x.wo y.v = a := ⟨_, rfl⟩
  rw [ha] at h3 ⊢
  clear ha
  unfold numV at h1 h2 h3
  have HP := Lib.hid (pq_new x y w)
  unfold Gives pairV pairC
  unfold pairC at HP
  obtain ⟨W0, hW0⟩ : ∃ W0, (((w.alloc (.cells #[.int .u64 (u x.v), .int .u64 (u x.m), .int .u64 (u x.a), .int .u64 (u x.b), .int .i64 (s x.c), .int .i64 (s x.d), .int .u64 (u y.v), .int .u64 (u y.m), .int .u64 (u y.a), .int .u64 (u y.b), .int .i64 (s y.c), .int .i64 (s y.d)] 38)).alloc (.cells #[.int .u64 0, .int .u64 0, .int .u64 0, .int .u64 0, .int .i64 0, .int .i64 0, .int .u64 0, .int .u64 0, .int .u64 0, .int .u64 0, .int .i64 0, .int .i64 0] 38)).alloc (.cells #[.int .u64 (u x.v), .int .u64 (u x.m), .int .u64 (u x.a), .int .u64 (u x.b), .int .i64 (s x.c), .int .i64 (s x.d), .int .u64 (u y.v), .int .u64 (u y.m), .int .u64 (u y.a), .int .u64 (u y.b), .int .i64 (s y.c), .int .i64 (s y.d)] 38)) = W0 := ⟨_, rfl⟩
  rw [hW0] at HP
  obtain ⟨⟨p0, p1, p2, p3, p4, p5⟩, ⟨q0, q1, q2, q3, q4, q5⟩⟩ := pair_cells HP.out.1
  obtain ⟨⟨r0, r1, r2, r3, r4, r5⟩, ⟨t0, t1, t2, t3, t4, t5⟩⟩ := pair_cells HP.out.2.1
  obtain ⟨⟨k0, k1, k2, k3, k4, k5⟩, ⟨l0, l1, l2, l3, l4, l5⟩⟩ := pair_free HP.out.2.1
  obtain ⟨⟨u0, u1, u2, u3, u4, u5⟩, ⟨v0, v1, v2, v3, v4, v5⟩⟩ := pair_cells HP.out.2.2.1
  obtain ⟨⟨f0, f1, f2, f3, f4, f5⟩, ⟨g0, g1, g2, g3, g4, g5⟩⟩ := pair_free HP.out.2.2.1
  go_enter Try.func21, Try.ntmps21
  go_upto_if 16 with (go_at_call_of 39 (Value.agg #[.int .u64 (u y.v), .int .u64 (u y.m), .int .u64 (u y.a), .int .u64 (u y.b), .int .i64 (s y.c), .int .i64 (s y.d)]); refine (h1 _).mono ?_; rintro e w1 ⟨rfl, hb⟩; have HQ := Lib.hid (pq_keep HP.out hb); clear hb; clear p0 p1 p2 p3 p4 p5 q0 q1 q2 q3 q4 q5 r0 r1 r2 r3 r4 r5 t0 t1 t2 t3 t4 t5 k0 k1 k2 k3 k4 k5 l0 l1 l2 l3 l4 l5 u0 u1 u2 u3 u4 u5 v0 v1 v2 v3 v4 v5 f0 f1 f2 f3 f4 f5 g0 g1 g2 g3 g4 g5; clear HP; have HP := HQ; clear HQ; obtain ⟨⟨p0, p1, p2, p3, p4, p5⟩, ⟨q0, q1, q2, q3, q4, q5⟩⟩ := pair_cells HP.out.1; obtain ⟨⟨r0, r1, r2, r3, r4, r5⟩, ⟨t0, t1, t2, t3, t4, t5⟩⟩ := pair_cells HP.out.2.1; obtain ⟨⟨k0, k1, k2, k3, k4, k5⟩, ⟨l0, l1, l2, l3, l4, l5⟩⟩ := pair_free HP.out.2.1; obtain ⟨⟨u0, u1, u2, u3, u4, u5⟩, ⟨v0, v1, v2, v3, v4, v5⟩⟩ := pair_cells HP.out.2.2.1; obtain ⟨⟨f0, f1, f2, f3, f4, f5⟩, ⟨g0, g1, g2, g3, g4, g5⟩⟩ := pair_free HP.out.2.2.1)
  clear hW0
  go_upto_region 5 with (go_at_call 40; refine (h3 _).mono ?_; rintro e w2 ⟨rfl, hb⟩; have HQ := Lib.hid (pq_keep HP.out hb); clear hb; clear p0 p1 p2 p3 p4 p5 q0 q1 q2 q3 q4 q5 r0 r1 r2 r3 r4 r5 t0 t1 t2 t3 t4 t5 k0 k1 k2 k3 k4 k5 l0 l1 l2 l3 l4 l5 u0 u1 u2 u3 u4 u5 v0 v1 v2 v3 v4 v5 f0 f1 f2 f3 f4 f5 g0 g1 g2 g3 g4 g5; clear HP; have HP := HQ; clear HQ; obtain ⟨⟨p0, p1, p2, p3, p4, p5⟩, ⟨q0, q1, q2, q3, q4, q5⟩⟩ := pair_cells HP.out.1; obtain ⟨⟨r0, r1, r2, r3, r4, r5⟩, ⟨t0, t1, t2, t3, t4, t5⟩⟩ := pair_cells HP.out.2.1; obtain ⟨⟨k0, k1, k2, k3, k4, k5⟩, ⟨l0, l1, l2, l3, l4, l5⟩⟩ := pair_free HP.out.2.1; obtain ⟨⟨u0, u1, u2, u3, u4, u5⟩, ⟨v0, v1, v2, v3, v4, v5⟩⟩ := pair_cells HP.out.2.2.1; obtain ⟨⟨f0, f1, f2, f3, f4, f5⟩, ⟨g0, g1, g2, g3, g4, g5⟩⟩ := pair_free HP.out.2.2.1)
  have HQ := Lib.hid (pq_first HP.out a)
  clear p0 p1 p2 p3 p4 p5 q0 q1 q2 q3 q4 q5 r0 r1 r2 r3 r4 r5 t0 t1 t2 t3 t4 t5 k0 k1 k2 k3 k4 k5 l0 l1 l2 l3 l4 l5 u0 u1 u2 u3 u4 u5 v0 v1 v2 v3 v4 v5 f0 f1 f2 f3 f4 f5 g0 g1 g2 g3 g4 g5
  generalize World.setCell _ _ _ = W1 at HQ ⊢
  clear HP
  have HP := HQ
  clear HQ
  obtain ⟨⟨p0, p1, p2, p3, p4, p5⟩, ⟨q0, q1, q2, q3, q4, q5⟩⟩ := pair_cells HP.out.1
  obtain ⟨⟨r0, r1, r2, r3, r4, r5⟩, ⟨t0, t1, t2, t3, t4, t5⟩⟩ := pair_cells HP.out.2.1
  obtain ⟨⟨k0, k1, k2, k3, k4, k5⟩, ⟨l0, l1, l2, l3, l4, l5⟩⟩ := pair_free HP.out.2.1
  obtain ⟨⟨u0, u1, u2, u3, u4, u5⟩, ⟨v0, v1, v2, v3, v4, v5⟩⟩ := pair_cells HP.out.2.2.1
  obtain ⟨⟨f0, f1, f2, f3, f4, f5⟩, ⟨g0, g1, g2, g3, g4, g5⟩⟩ := pair_free HP.out.2.2.1
  go_upto_if 28 with (go_at_call_of 39 (Value.agg #[.int .u64 (u x.v), .int .u64 (u x.m), .int .u64 (u x.a), .int .u64 (u x.b), .int .i64 (s x.c), .int .i64 (s x.d)]); refine (h2 _).mono ?_; rintro e w3 ⟨rfl, hb⟩; have HQ := Lib.hid (pq_keep HP.out hb); clear hb; clear p0 p1 p2 p3 p4 p5 q0 q1 q2 q3 q4 q5 r0 r1 r2 r3 r4 r5 t0 t1 t2 t3 t4 t5 k0 k1 k2 k3 k4 k5 l0 l1 l2 l3 l4 l5 u0 u1 u2 u3 u4 u5 v0 v1 v2 v3 v4 v5 f0 f1 f2 f3 f4 f5 g0 g1 g2 g3 g4 g5; clear HP; have HP := HQ; clear HQ; obtain ⟨⟨p0, p1, p2, p3, p4, p5⟩, ⟨q0, q1, q2, q3, q4, q5⟩⟩ := pair_cells HP.out.1; obtain ⟨⟨r0, r1, r2, r3, r4, r5⟩, ⟨t0, t1, t2, t3, t4, t5⟩⟩ := pair_cells HP.out.2.1; obtain ⟨⟨k0, k1, k2, k3, k4, k5⟩, ⟨l0, l1, l2, l3, l4, l5⟩⟩ := pair_free HP.out.2.1; obtain ⟨⟨u0, u1, u2, u3, u4, u5⟩, ⟨v0, v1, v2, v3, v4, v5⟩⟩ := pair_cells HP.out.2.2.1; obtain ⟨⟨f0, f1, f2, f3, f4, f5⟩, ⟨g0, g1, g2, g3, g4, g5⟩⟩ := pair_free HP.out.2.2.1)
  go_wp2_with fail
  have HF := Lib.hid (pg_ret (pq_out HP.out) a y)
  clear p0 p1 p2 p3 p4 p5 q0 q1 q2 q3 q4 q5 r0 r1 r2 r3 r4 r5 t0 t1 t2 t3 t4 t5 k0 k1 k2 k3 k4 k5 l0 l1 l2 l3 l4 l5 u0 u1 u2 u3 u4 u5 v0 v1 v2 v3 v4 v5 f0 f1 f2 f3 f4 f5 g0 g1 g2 g3 g4 g5
  generalize World.setCell _ _ _ = Wf at HF ⊢
  obtain ⟨⟨r0, r1, r2, r3, r4, r5⟩, ⟨t0, t1, t2, t3, t4, t5⟩⟩ := pair_cells HF.out.2.1
  exact bodyPost_ret (v := .tuple #[pairV a y, .bool true]) (by unfold pairV pairC; simp [results, Try.results21, go_sem, r0, r1, r2, r3, r4, r5, t0, t1, t2, t3, t4, t5]) rfl ⟨rfl, HF.out.2.2.2⟩
set_option maxHeartbeats 4000000 in
theorem diff_yy (x y : K) (w : World) (hA : u y.m = 0) (hB : u x.m = 0) : Calls Try.prog 21 #[pairV x y] w (Gives (.tuple #[pairV (x.wo y.v) (y.wo x.v), .bool true]) w) := by
  have h1 := fun W => isConst_yes y W hA
  have h2 := fun W => isConst_yes x W hB
  clear hA hB
  have h3 := fun W => without_num x y.v W
  obtain ⟨a, ha⟩ : ∃ a, x.wo y.v = a := ⟨_, rfl⟩
  rw [ha] at h3 ⊢
  clear ha
  have h4 := fun W => without_num y x.v W
  obtain ⟨b, hb⟩ : ∃ b, y.wo x.v = b := ⟨_, rfl⟩
  rw [hb] at h4 ⊢
  clear hb
  unfold numV at h1 h2 h3 h4
  have HP := Lib.hid (pq_new x y w)
  unfold Gives pairV pairC
  unfold pairC at HP
  obtain ⟨W0, hW0⟩ : ∃ W0, (((w.alloc (.cells #[.int .u64 (u x.v), .int .u64 (u x.m), .int .u64 (u x.a), .int .u64 (u x.b), .int .i64 (s x.c), .int .i64 (s x.d), .int .u64 (u y.v), .int .u64 (u y.m), .int .u64 (u y.a), .int .u64 (u y.b), .int .i64 (s y.c), .int .i64 (s y.d)] 38)).alloc (.cells #[.int .u64 0, .int .u64 0, .int .u64 0, .int .u64 0, .int .i64 0, .int .i64 0, .int .u64 0, .int .u64 0, .int .u64 0, .int .u64 0, .int .i64 0, .int .i64 0] 38)).alloc (.cells #[.int .u64 (u x.v), .int .u64 (u x.m), .int .u64 (u x.a), .int .u64 (u x.b), .int .i64 (s x.c), .int .i64 (s x.d), .int .u64 (u y.v), .int .u64 (u y.m), .int .u64 (u y.a), .int .u64 (u y.b), .int .i64 (s y.c), .int .i64 (s y.d)] 38)) = W0 := ⟨_, rfl⟩
  rw [hW0] at HP
  obtain ⟨⟨p0, p1, p2, p3, p4, p5⟩, ⟨q0, q1, q2, q3, q4, q5⟩⟩ := pair_cells HP.out.1
  obtain ⟨⟨r0, r1, r2, r3, r4, r5⟩, ⟨t0, t1, t2, t3, t4, t5⟩⟩ := pair_cells HP.out.2.1
  obtain ⟨⟨k0, k1, k2, k3, k4, k5⟩, ⟨l0, l1, l2, l3, l4, l5⟩⟩ := pair_free HP.out.2.1
  obtain ⟨⟨u0, u1, u2, u3, u4, u5⟩, ⟨v0, v1, v2, v3, v4, v5⟩⟩ := pair_cells HP.out.2.2.1
  obtain ⟨⟨f0, f1, f2, f3, f4, f5⟩, ⟨g0, g1, g2, g3, g4, g5⟩⟩ := pair_free HP.out.2.2.1
  go_enter Try.func21, Try.ntmps21
  go_upto_if 16 with (go_at_call_of 39 (Value.agg #[.int .u64 (u y.v), .int .u64 (u y.m), .int .u64 (u y.a), .int .u64 (u y.b), .int .i64 (s y.c), .int .i64 (s y.d)]); refine (h1 _).mono ?_; rintro e w1 ⟨rfl, hb⟩; have HQ := Lib.hid (pq_keep HP.out hb); clear hb; clear p0 p1 p2 p3 p4 p5 q0 q1 q2 q3 q4 q5 r0 r1 r2 r3 r4 r5 t0 t1 t2 t3 t4 t5 k0 k1 k2 k3 k4 k5 l0 l1 l2 l3 l4 l5 u0 u1 u2 u3 u4 u5 v0 v1 v2 v3 v4 v5 f0 f1 f2 f3 f4 f5 g0 g1 g2 g3 g4 g5; clear HP; have HP := HQ; clear HQ; obtain ⟨⟨p0, p1, p2, p3, p4, p5⟩, ⟨q0, q1, q2, q3, q4, q5⟩⟩ := pair_cells HP.out.1; obtain ⟨⟨r0, r1, r2, r3, r4, r5⟩, ⟨t0, t1, t2, t3, t4, t5⟩⟩ := pair_cells HP.out.2.1; obtain ⟨⟨k0, k1, k2, k3, k4, k5⟩, ⟨l0, l1, l2, l3, l4, l5⟩⟩ := pair_free HP.out.2.1; obtain ⟨⟨u0, u1, u2, u3, u4, u5⟩, ⟨v0, v1, v2, v3, v4, v5⟩⟩ := pair_cells HP.out.2.2.1; obtain ⟨⟨f0, f1, f2, f3, f4, f5⟩, ⟨g0, g1, g2, g3, g4, g5⟩⟩ := pair_free HP.out.2.2.1)
  clear hW0
  go_upto_region 5 with (go_at_call 40; refine (h3 _).mono ?_; rintro e w2 ⟨rfl, hb⟩; have HQ := Lib.hid (pq_keep HP.out hb); clear hb; clear p0 p1 p2 p3 p4 p5 q0 q1 q2 q3 q4 q5 r0 r1 r2 r3 r4 r5 t0 t1 t2 t3 t4 t5 k0 k1 k2 k3 k4 k5 l0 l1 l2 l3 l4 l5 u0 u1 u2 u3 u4 u5 v0 v1 v2 v3 v4 v5 f0 f1 f2 f3 f4 f5 g0 g1 g2 g3 g4 g5; clear HP; have HP := HQ; clear HQ; obtain ⟨⟨p0, p1, p2, p3, p4, p5⟩, ⟨q0, q1, q2, q3, q4, q5⟩⟩ := pair_cells HP.out.1; obtain ⟨⟨r0, r1, r2, r3, r4, r5⟩, ⟨t0, t1, t2, t3, t4, t5⟩⟩ := pair_cells HP.out.2.1; obtain ⟨⟨k0, k1, k2, k3, k4, k5⟩, ⟨l0, l1, l2, l3, l4, l5⟩⟩ := pair_free HP.out.2.1; obtain ⟨⟨u0, u1, u2, u3, u4, u5⟩, ⟨v0, v1, v2, v3, v4, v5⟩⟩ := pair_cells HP.out.2.2.1; obtain ⟨⟨f0, f1, f2, f3, f4, f5⟩, ⟨g0, g1, g2, g3, g4, g5⟩⟩ := pair_free HP.out.2.2.1)
  have HQ := Lib.hid (pq_first HP.out a)
  clear p0 p1 p2 p3 p4 p5 q0 q1 q2 q3 q4 q5 r0 r1 r2 r3 r4 r5 t0 t1 t2 t3 t4 t5 k0 k1 k2 k3 k4 k5 l0 l1 l2 l3 l4 l5 u0 u1 u2 u3 u4 u5 v0 v1 v2 v3 v4 v5 f0 f1 f2 f3 f4 f5 g0 g1 g2 g3 g4 g5
  generalize World.setCell _ _ _ = W1 at HQ ⊢
  clear HP
  have HP := HQ
  clear HQ
  obtain ⟨⟨p0, p1, p2, p3, p4, p5⟩, ⟨q0, q1, q2, q3, q4, q5⟩⟩ := pair_cells HP.out.1
  obtain ⟨⟨r0, r1, r2, r3, r4, r5⟩, ⟨t0, t1, t2, t3, t4, t5⟩⟩ := pair_cells HP.out.2.1
  obtain ⟨⟨k0, k1, k2, k3, k4, k5⟩, ⟨l0, l1, l2, l3, l4, l5⟩⟩ := pair_free HP.out.2.1
  obtain ⟨⟨u0, u1, u2, u3, u4, u5⟩, ⟨v0, v1, v2, v3, v4, v5⟩⟩ := pair_cells HP.out.2.2.1
  obtain ⟨⟨f0, f1, f2, f3, f4, f5⟩, ⟨g0, g1, g2, g3, g4, g5⟩⟩ := pair_free HP.out.2.2.1
  go_upto_if 28 with (go_at_call_of 39 (Value.agg #[.int .u64 (u x.v), .int .u64 (u x.m), .int .u64 (u x.a), .int .u64 (u x.b), .int .i64 (s x.c), .int .i64 (s x.d)]); refine (h2 _).mono ?_; rintro e w3 ⟨rfl, hb⟩; have HQ := Lib.hid (pq_keep HP.out hb); clear hb; clear p0 p1 p2 p3 p4 p5 q0 q1 q2 q3 q4 q5 r0 r1 r2 r3 r4 r5 t0 t1 t2 t3 t4 t5 k0 k1 k2 k3 k4 k5 l0 l1 l2 l3 l4 l5 u0 u1 u2 u3 u4 u5 v0 v1 v2 v3 v4 v5 f0 f1 f2 f3 f4 f5 g0 g1 g2 g3 g4 g5; clear HP; have HP := HQ; clear HQ; obtain ⟨⟨p0, p1, p2, p3, p4, p5⟩, ⟨q0, q1, q2, q3, q4, q5⟩⟩ := pair_cells HP.out.1; obtain ⟨⟨r0, r1, r2, r3, r4, r5⟩, ⟨t0, t1, t2, t3, t4, t5⟩⟩ := pair_cells HP.out.2.1; obtain ⟨⟨k0, k1, k2, k3, k4, k5⟩, ⟨l0, l1, l2, l3, l4, l5⟩⟩ := pair_free HP.out.2.1; obtain ⟨⟨u0, u1, u2, u3, u4, u5⟩, ⟨v0, v1, v2, v3, v4, v5⟩⟩ := pair_cells HP.out.2.2.1; obtain ⟨⟨f0, f1, f2, f3, f4, f5⟩, ⟨g0, g1, g2, g3, g4, g5⟩⟩ := pair_free HP.out.2.2.1)
  go_upto_region 8 with (go_at_call 40; refine (h4 _).mono ?_; rintro e w4 ⟨rfl, hb⟩; have HQ := Lib.hid (pq_keep HP.out hb); clear hb; clear p0 p1 p2 p3 p4 p5 q0 q1 q2 q3 q4 q5 r0 r1 r2 r3 r4 r5 t0 t1 t2 t3 t4 t5 k0 k1 k2 k3 k4 k5 l0 l1 l2 l3 l4 l5 u0 u1 u2 u3 u4 u5 v0 v1 v2 v3 v4 v5 f0 f1 f2 f3 f4 f5 g0 g1 g2 g3 g4 g5; clear HP; have HP := HQ; clear HQ; obtain ⟨⟨p0, p1, p2, p3, p4, p5⟩, ⟨q0, q1, q2, q3, q4, q5⟩⟩ := pair_cells HP.out.1; obtain ⟨⟨r0, r1, r2, r3, r4, r5⟩, ⟨t0, t1, t2, t3, t4, t5⟩⟩ := pair_cells HP.out.2.1; obtain ⟨⟨k0, k1, k2, k3, k4, k5⟩, ⟨l0, l1, l2, l3, l4, l5⟩⟩ := pair_free HP.out.2.1; obtain ⟨⟨u0, u1, u2, u3, u4, u5⟩, ⟨v0, v1, v2, v3, v4, v5⟩⟩ := pair_cells HP.out.2.2.1; obtain ⟨⟨f0, f1, f2, f3, f4, f5⟩, ⟨g0, g1, g2, g3, g4, g5⟩⟩ := pair_free HP.out.2.2.1)
  have HQ := Lib.hid (pq_second HP.out b)
  clear p0 p1 p2 p3 p4 p5 q0 q1 q2 q3 q4 q5 r0 r1 r2 r3 r4 r5 t0 t1 t2 t3 t4 t5 k0 k1 k2 k3 k4 k5 l0 l1 l2 l3 l4 l5 u0 u1 u2 u3 u4 u5 v0 v1 v2 v3 v4 v5 f0 f1 f2 f3 f4 f5 g0 g1 g2 g3 g4 g5
  generalize World.setCell _ _ _ = W2 at HQ ⊢
  clear HP
  have HP := HQ
  clear HQ
  obtain ⟨⟨p0, p1, p2, p3, p4, p5⟩, ⟨q0, q1, q2, q3, q4, q5⟩⟩ := pair_cells HP.out.1
  obtain ⟨⟨r0, r1, r2, r3, r4, r5⟩, ⟨t0, t1, t2, t3, t4, t5⟩⟩ := pair_cells HP.out.2.1
  obtain ⟨⟨k0, k1, k2, k3, k4, k5⟩, ⟨l0, l1, l2, l3, l4, l5⟩⟩ := pair_free HP.out.2.1
  obtain ⟨⟨u0, u1, u2, u3, u4, u5⟩, ⟨v0, v1, v2, v3, v4, v5⟩⟩ := pair_cells HP.out.2.2.1
  obtain ⟨⟨f0, f1, f2, f3, f4, f5⟩, ⟨g0, g1, g2, g3, g4, g5⟩⟩ := pair_free HP.out.2.2.1
  go_wp2_with fail
  have HF := Lib.hid (pg_ret (pq_out HP.out) a b)
  clear p0 p1 p2 p3 p4 p5 q0 q1 q2 q3 q4 q5 r0 r1 r2 r3 r4 r5 t0 t1 t2 t3 t4 t5 k0 k1 k2 k3 k4 k5 l0 l1 l2 l3 l4 l5 u0 u1 u2 u3 u4 u5 v0 v1 v2 v3 v4 v5 f0 f1 f2 f3 f4 f5 g0 g1 g2 g3 g4 g5
  generalize World.setCell _ _ _ = Wf at HF ⊢
  obtain ⟨⟨r0, r1, r2, r3, r4, r5⟩, ⟨t0, t1, t2, t3, t4, t5⟩⟩ := pair_cells HF.out.2.1
  exact bodyPost_ret (v := .tuple #[pairV a b, .bool true]) (by unfold pairV pairC; simp [results, Try.results21, go_sem, r0, r1, r2, r3, r4, r5, t0, t1, t2, t3, t4, t5]) rfl ⟨rfl, HF.out.2.2.2⟩
theorem different_pair (x y : K) (w : World) : Calls Try.prog 21 #[pairV x y] w (Gives (.tuple #[pairV (diffT x y).x (diffT x y).y, .bool (diffT x y).ok]) w) := by
  unfold diffT
  by_cases hA : u y.m = 0 <;> by_cases hB : u x.m = 0
  · rw [if_pos hA, if_pos hB]; exact diff_yy x y w hA hB
  · rw [if_pos hA, if_neg hB]; exact diff_yn x y w hA hB
  · rw [if_neg hA, if_pos hB]; exact diff_ny x y w hA hB
  · rw [if_neg hA, if_neg hB]; exact diff_nn x y w hA hB
end Go.Proofs.Ytbljijbmjccalaa
