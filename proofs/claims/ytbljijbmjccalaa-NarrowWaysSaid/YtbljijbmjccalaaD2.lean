/-
  Proved here: what the document's holds of layer 9 tells of numbers that are the same. Conditions: none.
-/
import Derived.Test.YtbljijbmjccalaaD1
import Derived.Test.YtbljijbmjccalaaD0
import Derived.MapKept
import Derived.Maps.Own
namespace Go.Proofs.Ytbljijbmjccalaa
open Go.RowKit
attribute [local go_sem] u_and u_or u_xor u_andNot u_add u_sub s_conv u_conv max_u min_u max_s min_s u_inc u_less s_inc s_less s_inc64 s_less64
set_option linter.unusedSimpArgs false

set_option maxRecDepth 100000 in
set_option maxHeartbeats 8000000 in
theorem ho_same_no (x y : K) (w : World) (hok : x.okM y = false) : Calls Try.prog 16 #[.int .u8 16, .int .i64 0, numV x, numV y] w (Gives (backV x y (sameT x y)) w) := by
  refine hold_head 16 0 x y w _ ?_
  intro g h W hx
  intros
  have HW := Lib.hid hx
  clear hx
  unfold sameT
  have hm := fun W => refmeet_num x y W
  obtain ⟨z, hz⟩ : ∃ z, x.both y = z := ⟨_, rfl⟩
  rw [hz, hok] at hm ⊢
  clear hz hok
  have hb : backV x y ⟨false, z, z⟩ = .tuple #[numV x, numV y, .bool false] := by
    unfold backV Tw.good
    rw [if_neg (by simp)]
  rw [hb]
  clear hb
  unfold numV at hm
  obtain ⟨code, hcode⟩ : ∃ c, tl 2 (Try.f16.body.getD .skip) = c := ⟨_, rfl⟩
  rw [hcode]
  dsimp only [tl, Try.f16, Option.getD] at hcode
  subst hcode
  obtain ⟨a0, a1, a2, a3, a4, a5⟩ := num_cells HW.out.1.1.1
  obtain ⟨b0, b1, b2, b3, b4, b5⟩ := num_cells HW.out.1.1.2
  go_upto_region 22 with (go_at_call 33; refine (hm _).mono ?_; rintro e w1 ⟨rfl, hb⟩; have HV := Lib.hid (hx_keep HW.out hb); clear hb a0 a1 a2 a3 a4 a5 b0 b1 b2 b3 b4 b5; )
  have HU := Lib.hid (hx_keep HV.out (below_box w1 (.cells #[.int .u64 (u z.v), .int .u64 (u z.m), .int .u64 (u z.a), .int .u64 (u z.b), .int .i64 (s z.c), .int .i64 (s z.d)] 26)))
  have HZ := Lib.hid (num_new z w1)
  have HL1 := Lib.hid (num_lt HV.out.2.1)
  have HL2 := Lib.hid (num_lt HV.out.2.2.1)
  obtain ⟨n, hn⟩ : ∃ n, w1.heap.size = n := ⟨_, rfl⟩
  rw [hn] at HZ HL1 HL2 ⊢
  obtain ⟨W2, hW2⟩ : ∃ W2, w1.alloc (.cells #[.int .u64 (u z.v), .int .u64 (u z.m), .int .u64 (u z.a), .int .u64 (u z.b), .int .i64 (s z.c), .int .i64 (s z.d)] 26) = W2 := ⟨_, rfl⟩
  rw [hW2] at HU HZ ⊢
  clear hW2 hn HV HW
  have HW := HU
  clear HU
  obtain ⟨a0, a1, a2, a3, a4, a5⟩ := num_cells HW.out.1.1.1
  obtain ⟨b0, b1, b2, b3, b4, b5⟩ := num_cells HW.out.1.1.2
  obtain ⟨r0, r1, r2, r3, r4, r5⟩ := num_cells HW.out.1.2.1.1
  obtain ⟨t0, t1, t2, t3, t4, t5⟩ := num_cells HW.out.1.2.1.2
  obtain ⟨k0, k1, k2, k3, k4, k5⟩ := num_free HW.out.1.2.1.1
  obtain ⟨l0, l1, l2, l3, l4, l5⟩ := num_free HW.out.1.2.1.2
  go_wp2_with fail
  go_region
  all_goals
    first
      | (have HF := Lib.hid (h4_told (HW.out.1) (x) (y)); generalize World.setCell _ _ _ = Wf at HF ⊢; obtain ⟨Wg, hWg⟩ : ∃ Wg, Wf = Wg := ⟨_, rfl⟩; rw [hWg] at HF ⊢; clear hWg; obtain ⟨z0, z1, z2, z3, z4, z5⟩ := num_cells HF.out.1; obtain ⟨e0, e1, e2, e3, e4, e5⟩ := num_cells HF.out.2.1; go_wp2_with fail; exact bodyPost_ret (v := .tuple #[numV (x), numV (y), .bool false]) (by unfold numV; simp [results, Try.results16, go_sem, z0, z1, z2, z3, z4, z5, e0, e1, e2, e3, e4, e5]) rfl ⟨rfl, HF.out.2.2.drew⟩)
      | (have HF := Lib.hid (h4_told2 (HW.out.1) (x) (y)); generalize World.setCell _ _ _ = Wf at HF ⊢; obtain ⟨Wg, hWg⟩ : ∃ Wg, Wf = Wg := ⟨_, rfl⟩; rw [hWg] at HF ⊢; clear hWg; obtain ⟨z0, z1, z2, z3, z4, z5⟩ := num_cells HF.out.1; obtain ⟨e0, e1, e2, e3, e4, e5⟩ := num_cells HF.out.2.1; go_wp2_with fail; exact bodyPost_ret (v := .tuple #[numV (x), numV (y), .bool false]) (by unfold numV; simp [results, Try.results16, go_sem, z0, z1, z2, z3, z4, z5, e0, e1, e2, e3, e4, e5]) rfl ⟨rfl, HF.out.2.2.drew⟩)
set_option maxRecDepth 100000 in
set_option maxHeartbeats 8000000 in
theorem ho_same_yes (x y : K) (w : World) (hok : x.okM y = true) : Calls Try.prog 16 #[.int .u8 16, .int .i64 0, numV x, numV y] w (Gives (backV x y (sameT x y)) w) := by
  refine hold_head 16 0 x y w _ ?_
  intro g h W hx
  intros
  have HW := Lib.hid hx
  clear hx
  unfold sameT
  have hm := fun W => refmeet_num x y W
  obtain ⟨z, hz⟩ : ∃ z, x.both y = z := ⟨_, rfl⟩
  rw [hz, hok] at hm ⊢
  clear hz hok
  unfold numV at hm
  obtain ⟨code, hcode⟩ : ∃ c, tl 2 (Try.f16.body.getD .skip) = c := ⟨_, rfl⟩
  rw [hcode]
  dsimp only [tl, Try.f16, Option.getD] at hcode
  subst hcode
  obtain ⟨a0, a1, a2, a3, a4, a5⟩ := num_cells HW.out.1.1.1
  obtain ⟨b0, b1, b2, b3, b4, b5⟩ := num_cells HW.out.1.1.2
  go_upto_region 22 with (go_at_call 33; refine (hm _).mono ?_; rintro e w1 ⟨rfl, hb⟩; have HV := Lib.hid (hx_keep HW.out hb); clear hb a0 a1 a2 a3 a4 a5 b0 b1 b2 b3 b4 b5; )
  have HU := Lib.hid (hx_keep HV.out (below_box w1 (.cells #[.int .u64 (u z.v), .int .u64 (u z.m), .int .u64 (u z.a), .int .u64 (u z.b), .int .i64 (s z.c), .int .i64 (s z.d)] 26)))
  have HZ := Lib.hid (num_new z w1)
  have HL1 := Lib.hid (num_lt HV.out.2.1)
  have HL2 := Lib.hid (num_lt HV.out.2.2.1)
  obtain ⟨n, hn⟩ : ∃ n, w1.heap.size = n := ⟨_, rfl⟩
  rw [hn] at HZ HL1 HL2 ⊢
  obtain ⟨W2, hW2⟩ : ∃ W2, w1.alloc (.cells #[.int .u64 (u z.v), .int .u64 (u z.m), .int .u64 (u z.a), .int .u64 (u z.b), .int .i64 (s z.c), .int .i64 (s z.d)] 26) = W2 := ⟨_, rfl⟩
  rw [hW2] at HU HZ ⊢
  clear hW2 hn HV HW
  have HW := HU
  clear HU
  obtain ⟨n0, n1, n2, n3, n4, n5⟩ := num_cells HZ.out
  obtain ⟨x0, x1, x2, x3, x4, x5⟩ := num_cells HW.out.2.1
  obtain ⟨y0, y1, y2, y3, y4, y5⟩ := num_cells HW.out.2.2.1
  obtain ⟨i0, i1, i2, i3, i4, i5⟩ := num_free HW.out.2.1
  obtain ⟨j0, j1, j2, j3, j4, j5⟩ := num_free HW.out.2.2.1
  have nq1 : (n = g) = False := by have := HL1.out; simp; omega
  have nr1 : (g = n) = False := by have := HL1.out; simp; omega
  have nq2 : (n = h) = False := by have := HL2.out; simp; omega
  have nr2 : (h = n) = False := by have := HL2.out; simp; omega
  have nq3 : (g = h) = False := by have := HW.out.2.2.2.1; simp; omega
  have nr3 : (h = g) = False := by have := HW.out.2.2.2.1; simp; omega
  go_upto_region 58 with fail
  all_goals
    refine wp_first (c' := hdC (tl 3 (Try.f16.body.getD .skip))) (by kernel_rfl) ?_
    refine hold_end x y (z) (z) g h w _ ?_ _ (by intro a' w' h'; apply_assumption; exact h') _ _ _ _ _ _ _ _ _ _ _ _ _ _ _ _ _ _ _ _ _ _ _ _ _ _ _ _ _ _ _ _ _ _ _ _ _ _ _ _ _ _ _ _ _ _ _ _ _ _ _ _ _ _ _ _ _ _ _ _ _ _ _ _ _ _ _ _ _ _ _ _ _ _ _ _ _ _ _ _ _ _ _ _ _ _ _ _ _ _ _ _ _ _ _ _ _ _ _ _ _ _ _ _ _ _ _ _ _ _ _ _ _ _ _ _ _ _ _ _ _ _ _ _ _ _ _ _ _ _ _ _ _ _ _ _ _ _ _ _ _ _ _ _ _ _ _ _ _ _ _ _ _ _ _ _ _ _ _ _ _ _ _ _ _ _ _ _ _ _ _ _ _ _ _ _ _ _ _ _ _ _ _ _ _ _ _ _ _ _ _ _ _ _ _ _ _ _ _ _ _ _ _ _ _ _ _ _ _ _ _ _ _ _ _ _ _ _ _ _ _ _ _ _ _ _ _ _ _ _ _ _ _ _ _ _ _ _ _ _ _ _ _ _ _ _ _ _ _ _ _ _ _ _ _ _ _ _ _ _ _ _ _ _ _ _ _
    first
      | (exact hx_sixy (hx_sixx HW.out z) z)
end Go.Proofs.Ytbljijbmjccalaa

/-
  Proved here: what the document's holds of layer 9 tells of numbers that aren't the same. Conditions: none.
-/
namespace Go.Proofs.Ytbljijbmjccalaa
open Go.RowKit
attribute [local go_sem] u_and u_or u_xor u_andNot u_add u_sub s_conv u_conv max_u min_u max_s min_s u_inc u_less s_inc s_less s_inc64 s_less64
set_option linter.unusedSimpArgs false

/-- A number without an end, or as it was where nothing would be left. -/
def K.wo2 (k : K) (z : B64) : K := if ((u k.a == u z) && (u k.b == u z)) = true then k else k.wo z
def bothE (k : K) (z : B64) : Bool := (u k.a == u z) && (u k.b == u z)
theorem wout_any (k : K) (z : B64) (w : World) : Calls Try.prog 34 #[numV k, .int .u64 (u z)] w (Gives (.tuple #[numV (k.wo2 z), .bool (!bothE k z)]) w) := by
  unfold K.wo2 bothE
  by_cases h : ((u k.a == u z) && (u k.b == u z)) = true
  · rw [if_pos h, h]
    rw [Bool.and_eq_true] at h
    exact wout_both k z w h.1 h.2
  · rw [if_neg h]
    rw [Bool.not_eq_true] at h
    rw [h]
    exact wout_ref k z w h
/-- What is told of a number that isn't the other's, and whether anything is left. -/
def xA (x y : K) : K := bif decide (u y.m = 0) then x.wo2 y.v else x
def oA (x y : K) : Bool := !decide (u y.m = 0) || !bothE x y.v
theorem diff_yes {x y : K} (h : oA x y = true) (h' : oA y x = true) : diffT x y = ⟨true, xA x y, xA y x⟩ := by
  have key : ∀ a b : K, oA a b = true → (if u b.m = 0 then a.wo b.v else a) = xA a b := by
    intro a b hh
    unfold xA oA at *
    by_cases hb : u b.m = 0
    · rw [if_pos hb, decide_eq_true hb]
      rw [decide_eq_true hb] at hh
      unfold K.wo2
      rw [if_neg]
      · rfl
      · intro e
        unfold bothE at hh
        rw [e] at hh
        simp at hh
    · rw [if_neg hb, decide_eq_false hb]
      rfl
  unfold diffT
  rw [key x y h, key y x h']
theorem diff_no {x y : K} (h : oA x y = false ∨ oA y x = false) : backV x y (diffT x y) = .tuple #[numV x, numV y, .bool false] := by
  have key : ∀ a b : K, oA a b = false → (if u b.m = 0 then a.wo b.v else a).okF = false := by
    intro a b hh
    unfold oA bothE at hh
    rw [Bool.or_eq_false_iff, Bool.not_eq_false', Bool.not_eq_false', decide_eq_true_eq, Bool.and_eq_true, beq_iff_eq, beq_iff_eq] at hh
    rw [if_pos hh.1]
    exact wo_none hh.2.1 hh.2.2
  unfold backV Tw.good diffT
  rw [if_neg]
  rcases h with h | h
  · simp [key x y h]
  · simp [key y x h]
set_option maxRecDepth 100000 in
set_option maxHeartbeats 8000000 in
theorem ho_diff_no (x y : K) (w : World) (hn : oA x y = false ∨ oA y x = false) : Calls Try.prog 16 #[.int .u8 80, .int .i64 0, numV x, numV y] w (Gives (backV x y (diffT x y)) w) := by
  refine hold_head 80 0 x y w _ ?_
  intro g h W hx
  intros
  have HW := Lib.hid hx
  clear hx
  rw [diff_no hn]
  unfold oA at hn
  have ho1 := fun W => one_ref y W
  have ho2 := fun W => one_ref x W
  have hw1 := fun W => wout_any x y.v W
  have hw2 := fun W => wout_any y x.v W
  obtain ⟨p, hp⟩ : ∃ p, decide (u y.m = 0) = p := ⟨_, rfl⟩
  obtain ⟨q, hq⟩ : ∃ q, decide (u x.m = 0) = q := ⟨_, rfl⟩
  obtain ⟨A, hA⟩ : ∃ A, (!bothE x y.v) = A := ⟨_, rfl⟩
  obtain ⟨B, hB⟩ : ∃ B, (!bothE y x.v) = B := ⟨_, rfl⟩
  obtain ⟨X, hX⟩ : ∃ X, x.wo2 y.v = X := ⟨_, rfl⟩
  obtain ⟨Y, hY⟩ : ∃ Y, y.wo2 x.v = Y := ⟨_, rfl⟩
  rw [hp] at ho1
  rw [hq] at ho2
  rw [hX, hA] at hw1
  rw [hY, hB] at hw2
  rw [hp, hA] at hn
  rw [hq, hB] at hn
  obtain ⟨X1, hX1⟩ : ∃ z, (bif p then X else x) = z := ⟨_, rfl⟩
  obtain ⟨Y1, hY1⟩ : ∃ z, (bif q then Y else y) = z := ⟨_, rfl⟩
  have HX1 := Lib.hid hX1
  have HY1 := Lib.hid hY1
  clear hX1 hY1
  clear hp hq hA hB hX hY
  have HN := Lib.hid hn
  clear hn
  unfold numV at ho1 ho2 hw1 hw2
  obtain ⟨code, hcode⟩ : ∃ c, tl 2 (Try.f16.body.getD .skip) = c := ⟨_, rfl⟩
  rw [hcode]
  dsimp only [tl, Try.f16, Option.getD] at hcode
  subst hcode
  obtain ⟨a0, a1, a2, a3, a4, a5⟩ := num_cells HW.out.1.1.1
  obtain ⟨b0, b1, b2, b3, b4, b5⟩ := num_cells HW.out.1.1.2
  go_upto_if 126 with (go_at_call 31; refine (ho1 _).mono ?_; rintro e w1 ⟨rfl, hb⟩; have HV := Lib.hid (hx_keep HW.out hb); clear hb a0 a1 a2 a3 a4 a5 b0 b1 b2 b3 b4 b5; )
  clear HW
  have HW := HV
  clear HV
  go_cut [21] (fun s wx => s = .bool (!p || A) ∧ HX w x y X1 y g h wx)
  case first =>
    cases p
    · go_wp2_with fail
      go_meet
      exact ⟨rfl, by rw [← HX1.out]; exact HW.out⟩
    · obtain ⟨a0, a1, a2, a3, a4, a5⟩ := num_cells HW.out.1.1.1
      obtain ⟨b0, b1, b2, b3, b4, b5⟩ := num_cells HW.out.1.1.2
      obtain ⟨x0, x1, x2, x3, x4, x5⟩ := num_cells HW.out.2.1
      obtain ⟨y0, y1, y2, y3, y4, y5⟩ := num_cells HW.out.2.2.1
      obtain ⟨i0, i1, i2, i3, i4, i5⟩ := num_free HW.out.2.1
      obtain ⟨j0, j1, j2, j3, j4, j5⟩ := num_free HW.out.2.2.1
      go_wp2_with (go_at_call 34; refine (hw1 _).mono ?_; rintro e w1 ⟨rfl, hb⟩; have HV := Lib.hid (hx_keep HW.out hb); clear hb a0 a1 a2 a3 a4 a5 b0 b1 b2 b3 b4 b5 x0 x1 x2 x3 x4 x5 y0 y1 y2 y3 y4 y5 i0 i1 i2 i3 i4 i5 j0 j1 j2 j3 j4 j5; obtain ⟨x0, x1, x2, x3, x4, x5⟩ := num_cells HV.out.2.1; obtain ⟨i0, i1, i2, i3, i4, i5⟩ := num_free HV.out.2.1)
      go_meet
      exact ⟨rfl, by rw [← HX1.out]; exact hx_sixx HV.out _⟩
  case rest =>
    obtain ⟨rfl, hh⟩ := hcut
    clear HW ho1 hw1
    try clear x0 x1 x2 x3 x4 x5
    have HW := Lib.hid hh
    clear hh
    obtain ⟨f1, hf1⟩ : ∃ f, (!p || A) = f := ⟨_, rfl⟩
    rw [hf1]
    rw [hf1] at HN
    clear HX1 hf1 p A X
    obtain ⟨a0, a1, a2, a3, a4, a5⟩ := num_cells HW.out.1.1.1
    obtain ⟨b0, b1, b2, b3, b4, b5⟩ := num_cells HW.out.1.1.2
    go_upto_if 136 with (go_at_call 31; refine (ho2 _).mono ?_; rintro e w1 ⟨rfl, hb⟩; have HV := Lib.hid (hx_keep HW.out hb); clear hb a0 a1 a2 a3 a4 a5 b0 b1 b2 b3 b4 b5; )
    clear HW
    have HW := HV
    clear HV
    go_cut [22] (fun s wx => s = .bool (!q || B) ∧ HX w x y X1 Y1 g h wx)
    case first =>
      cases q
      · go_wp2_with fail
        go_meet
        exact ⟨rfl, by rw [← HY1.out]; exact HW.out⟩
      · obtain ⟨a0, a1, a2, a3, a4, a5⟩ := num_cells HW.out.1.1.1
        obtain ⟨b0, b1, b2, b3, b4, b5⟩ := num_cells HW.out.1.1.2
        obtain ⟨x0, x1, x2, x3, x4, x5⟩ := num_cells HW.out.2.1
        obtain ⟨y0, y1, y2, y3, y4, y5⟩ := num_cells HW.out.2.2.1
        obtain ⟨i0, i1, i2, i3, i4, i5⟩ := num_free HW.out.2.1
        obtain ⟨j0, j1, j2, j3, j4, j5⟩ := num_free HW.out.2.2.1
        go_wp2_with (go_at_call 34; refine (hw2 _).mono ?_; rintro e w1 ⟨rfl, hb⟩; have HV := Lib.hid (hx_keep HW.out hb); clear hb a0 a1 a2 a3 a4 a5 b0 b1 b2 b3 b4 b5 x0 x1 x2 x3 x4 x5 y0 y1 y2 y3 y4 y5 i0 i1 i2 i3 i4 i5 j0 j1 j2 j3 j4 j5; obtain ⟨y0, y1, y2, y3, y4, y5⟩ := num_cells HV.out.2.2.1; obtain ⟨j0, j1, j2, j3, j4, j5⟩ := num_free HV.out.2.2.1)
        go_meet
        exact ⟨rfl, by rw [← HY1.out]; exact hx_sixy HV.out _⟩
    case rest =>
      obtain ⟨rfl, hh⟩ := hcut
      clear HW ho2 hw2
      have HW := Lib.hid hh
      clear hh
      obtain ⟨f2, hf2⟩ : ∃ f, (!q || B) = f := ⟨_, rfl⟩
      rw [hf2]
      rw [hf2] at HN
      clear HY1 hf2 q B Y
      obtain ⟨a0, a1, a2, a3, a4, a5⟩ := num_cells HW.out.1.1.1
      obtain ⟨b0, b1, b2, b3, b4, b5⟩ := num_cells HW.out.1.1.2
      obtain ⟨r0, r1, r2, r3, r4, r5⟩ := num_cells HW.out.1.2.1.1
      obtain ⟨t0, t1, t2, t3, t4, t5⟩ := num_cells HW.out.1.2.1.2
      obtain ⟨k0, k1, k2, k3, k4, k5⟩ := num_free HW.out.1.2.1.1
      obtain ⟨l0, l1, l2, l3, l4, l5⟩ := num_free HW.out.1.2.1.2
      cases f1
      · go_wp2_with fail
        go_region
        all_goals
          first
            | (have HF := Lib.hid (h4_told (HW.out.1) (x) (y)); generalize World.setCell _ _ _ = Wf at HF ⊢; obtain ⟨Wg, hWg⟩ : ∃ Wg, Wf = Wg := ⟨_, rfl⟩; rw [hWg] at HF ⊢; clear hWg; obtain ⟨z0, z1, z2, z3, z4, z5⟩ := num_cells HF.out.1; obtain ⟨e0, e1, e2, e3, e4, e5⟩ := num_cells HF.out.2.1; go_wp2_with fail; exact bodyPost_ret (v := .tuple #[numV (x), numV (y), .bool false]) (by unfold numV; simp [results, Try.results16, go_sem, z0, z1, z2, z3, z4, z5, e0, e1, e2, e3, e4, e5]) rfl ⟨rfl, HF.out.2.2.drew⟩)
            | (have HF := Lib.hid (h4_told2 (HW.out.1) (x) (y)); generalize World.setCell _ _ _ = Wf at HF ⊢; obtain ⟨Wg, hWg⟩ : ∃ Wg, Wf = Wg := ⟨_, rfl⟩; rw [hWg] at HF ⊢; clear hWg; obtain ⟨z0, z1, z2, z3, z4, z5⟩ := num_cells HF.out.1; obtain ⟨e0, e1, e2, e3, e4, e5⟩ := num_cells HF.out.2.1; go_wp2_with fail; exact bodyPost_ret (v := .tuple #[numV (x), numV (y), .bool false]) (by unfold numV; simp [results, Try.results16, go_sem, z0, z1, z2, z3, z4, z5, e0, e1, e2, e3, e4, e5]) rfl ⟨rfl, HF.out.2.2.drew⟩)
      · cases f2
        · go_wp2_with fail
          go_region
          all_goals
            first
              | (have HF := Lib.hid (h4_told (HW.out.1) (x) (y)); generalize World.setCell _ _ _ = Wf at HF ⊢; obtain ⟨Wg, hWg⟩ : ∃ Wg, Wf = Wg := ⟨_, rfl⟩; rw [hWg] at HF ⊢; clear hWg; obtain ⟨z0, z1, z2, z3, z4, z5⟩ := num_cells HF.out.1; obtain ⟨e0, e1, e2, e3, e4, e5⟩ := num_cells HF.out.2.1; go_wp2_with fail; exact bodyPost_ret (v := .tuple #[numV (x), numV (y), .bool false]) (by unfold numV; simp [results, Try.results16, go_sem, z0, z1, z2, z3, z4, z5, e0, e1, e2, e3, e4, e5]) rfl ⟨rfl, HF.out.2.2.drew⟩)
              | (have HF := Lib.hid (h4_told2 (HW.out.1) (x) (y)); generalize World.setCell _ _ _ = Wf at HF ⊢; obtain ⟨Wg, hWg⟩ : ∃ Wg, Wf = Wg := ⟨_, rfl⟩; rw [hWg] at HF ⊢; clear hWg; obtain ⟨z0, z1, z2, z3, z4, z5⟩ := num_cells HF.out.1; obtain ⟨e0, e1, e2, e3, e4, e5⟩ := num_cells HF.out.2.1; go_wp2_with fail; exact bodyPost_ret (v := .tuple #[numV (x), numV (y), .bool false]) (by unfold numV; simp [results, Try.results16, go_sem, z0, z1, z2, z3, z4, z5, e0, e1, e2, e3, e4, e5]) rfl ⟨rfl, HF.out.2.2.drew⟩)
        · exact absurd HN.out (by simp)
set_option maxRecDepth 100000 in
set_option maxHeartbeats 8000000 in
theorem ho_diff_yes (x y : K) (w : World) (h1 : oA x y = true) (h2 : oA y x = true) : Calls Try.prog 16 #[.int .u8 80, .int .i64 0, numV x, numV y] w (Gives (backV x y (diffT x y)) w) := by
  refine hold_head 80 0 x y w _ ?_
  intro g h W hx
  intros
  have HW := Lib.hid hx
  clear hx
  rw [diff_yes h1 h2]
  unfold oA at h1 h2
  have ho1 := fun W => one_ref y W
  have ho2 := fun W => one_ref x W
  have hw1 := fun W => wout_any x y.v W
  have hw2 := fun W => wout_any y x.v W
  unfold xA
  obtain ⟨p, hp⟩ : ∃ p, decide (u y.m = 0) = p := ⟨_, rfl⟩
  obtain ⟨q, hq⟩ : ∃ q, decide (u x.m = 0) = q := ⟨_, rfl⟩
  obtain ⟨A, hA⟩ : ∃ A, (!bothE x y.v) = A := ⟨_, rfl⟩
  obtain ⟨B, hB⟩ : ∃ B, (!bothE y x.v) = B := ⟨_, rfl⟩
  obtain ⟨X, hX⟩ : ∃ X, x.wo2 y.v = X := ⟨_, rfl⟩
  obtain ⟨Y, hY⟩ : ∃ Y, y.wo2 x.v = Y := ⟨_, rfl⟩
  rw [hp] at ho1
  rw [hq] at ho2
  rw [hX, hA] at hw1
  rw [hY, hB] at hw2
  rw [hp, hA] at h1
  rw [hq, hB] at h2
  rw [hp, hq, hX, hY]
  obtain ⟨X1, hX1⟩ : ∃ z, (bif p then X else x) = z := ⟨_, rfl⟩
  obtain ⟨Y1, hY1⟩ : ∃ z, (bif q then Y else y) = z := ⟨_, rfl⟩
  rw [hX1, hY1]
  have HX1 := Lib.hid hX1
  have HY1 := Lib.hid hY1
  clear hX1 hY1
  clear hp hq hA hB hX hY
  have H1 := Lib.hid h1
  have H2 := Lib.hid h2
  clear h1 h2
  unfold numV at ho1 ho2 hw1 hw2
  obtain ⟨code, hcode⟩ : ∃ c, tl 2 (Try.f16.body.getD .skip) = c := ⟨_, rfl⟩
  rw [hcode]
  dsimp only [tl, Try.f16, Option.getD] at hcode
  subst hcode
  obtain ⟨a0, a1, a2, a3, a4, a5⟩ := num_cells HW.out.1.1.1
  obtain ⟨b0, b1, b2, b3, b4, b5⟩ := num_cells HW.out.1.1.2
  go_upto_if 126 with (go_at_call 31; refine (ho1 _).mono ?_; rintro e w1 ⟨rfl, hb⟩; have HV := Lib.hid (hx_keep HW.out hb); clear hb a0 a1 a2 a3 a4 a5 b0 b1 b2 b3 b4 b5; )
  clear HW
  have HW := HV
  clear HV
  go_cut [21] (fun s wx => s = .bool (!p || A) ∧ HX w x y X1 y g h wx)
  case first =>
    cases p
    · go_wp2_with fail
      go_meet
      exact ⟨rfl, by rw [← HX1.out]; exact HW.out⟩
    · obtain ⟨a0, a1, a2, a3, a4, a5⟩ := num_cells HW.out.1.1.1
      obtain ⟨b0, b1, b2, b3, b4, b5⟩ := num_cells HW.out.1.1.2
      obtain ⟨x0, x1, x2, x3, x4, x5⟩ := num_cells HW.out.2.1
      obtain ⟨y0, y1, y2, y3, y4, y5⟩ := num_cells HW.out.2.2.1
      obtain ⟨i0, i1, i2, i3, i4, i5⟩ := num_free HW.out.2.1
      obtain ⟨j0, j1, j2, j3, j4, j5⟩ := num_free HW.out.2.2.1
      go_wp2_with (go_at_call 34; refine (hw1 _).mono ?_; rintro e w1 ⟨rfl, hb⟩; have HV := Lib.hid (hx_keep HW.out hb); clear hb a0 a1 a2 a3 a4 a5 b0 b1 b2 b3 b4 b5 x0 x1 x2 x3 x4 x5 y0 y1 y2 y3 y4 y5 i0 i1 i2 i3 i4 i5 j0 j1 j2 j3 j4 j5; obtain ⟨x0, x1, x2, x3, x4, x5⟩ := num_cells HV.out.2.1; obtain ⟨i0, i1, i2, i3, i4, i5⟩ := num_free HV.out.2.1)
      go_meet
      exact ⟨rfl, by rw [← HX1.out]; exact hx_sixx HV.out _⟩
  case rest =>
    obtain ⟨rfl, hh⟩ := hcut
    clear HW ho1 hw1
    try clear x0 x1 x2 x3 x4 x5
    have HW := Lib.hid hh
    clear hh
    obtain ⟨f1, hf1⟩ : ∃ f, (!p || A) = f := ⟨_, rfl⟩
    rw [hf1]
    rw [hf1] at H1
    clear HX1 hf1 p A X
    obtain ⟨a0, a1, a2, a3, a4, a5⟩ := num_cells HW.out.1.1.1
    obtain ⟨b0, b1, b2, b3, b4, b5⟩ := num_cells HW.out.1.1.2
    go_upto_if 136 with (go_at_call 31; refine (ho2 _).mono ?_; rintro e w1 ⟨rfl, hb⟩; have HV := Lib.hid (hx_keep HW.out hb); clear hb a0 a1 a2 a3 a4 a5 b0 b1 b2 b3 b4 b5; )
    clear HW
    have HW := HV
    clear HV
    go_cut [22] (fun s wx => s = .bool (!q || B) ∧ HX w x y X1 Y1 g h wx)
    case first =>
      cases q
      · go_wp2_with fail
        go_meet
        exact ⟨rfl, by rw [← HY1.out]; exact HW.out⟩
      · obtain ⟨a0, a1, a2, a3, a4, a5⟩ := num_cells HW.out.1.1.1
        obtain ⟨b0, b1, b2, b3, b4, b5⟩ := num_cells HW.out.1.1.2
        obtain ⟨x0, x1, x2, x3, x4, x5⟩ := num_cells HW.out.2.1
        obtain ⟨y0, y1, y2, y3, y4, y5⟩ := num_cells HW.out.2.2.1
        obtain ⟨i0, i1, i2, i3, i4, i5⟩ := num_free HW.out.2.1
        obtain ⟨j0, j1, j2, j3, j4, j5⟩ := num_free HW.out.2.2.1
        go_wp2_with (go_at_call 34; refine (hw2 _).mono ?_; rintro e w1 ⟨rfl, hb⟩; have HV := Lib.hid (hx_keep HW.out hb); clear hb a0 a1 a2 a3 a4 a5 b0 b1 b2 b3 b4 b5 x0 x1 x2 x3 x4 x5 y0 y1 y2 y3 y4 y5 i0 i1 i2 i3 i4 i5 j0 j1 j2 j3 j4 j5; obtain ⟨y0, y1, y2, y3, y4, y5⟩ := num_cells HV.out.2.2.1; obtain ⟨j0, j1, j2, j3, j4, j5⟩ := num_free HV.out.2.2.1)
        go_meet
        exact ⟨rfl, by rw [← HY1.out]; exact hx_sixy HV.out _⟩
    case rest =>
      obtain ⟨rfl, hh⟩ := hcut
      clear HW ho2 hw2
      have HW := Lib.hid hh
      clear hh
      obtain ⟨f2, hf2⟩ : ∃ f, (!q || B) = f := ⟨_, rfl⟩
      rw [hf2]
      rw [hf2] at H2
      clear HY1 hf2 q B Y
      have e1 : f1 = true := H1.out
      have e2 : f2 = true := H2.out
      subst e1 e2
      go_upto_region 58 with fail
      all_goals
        refine wp_first (c' := hdC (tl 3 (Try.f16.body.getD .skip))) (by kernel_rfl) ?_
        refine hold_end x y (X1) (Y1) g h w _ ?_ _ (by intro a' w' h'; apply_assumption; exact h') _ _ _ _ _ _ _ _ _ _ _ _ _ _ _ _ _ _ _ _ _ _ _ _ _ _ _ _ _ _ _ _ _ _ _ _ _ _ _ _ _ _ _ _ _ _ _ _ _ _ _ _ _ _ _ _ _ _ _ _ _ _ _ _ _ _ _ _ _ _ _ _ _ _ _ _ _ _ _ _ _ _ _ _ _ _ _ _ _ _ _ _ _ _ _ _ _ _ _ _ _ _ _ _ _ _ _ _ _ _ _ _ _ _ _ _ _ _ _ _ _ _ _ _ _ _ _ _ _ _ _ _ _ _ _ _ _ _ _ _ _ _ _ _ _ _ _ _ _ _ _ _ _ _ _ _ _ _ _ _ _ _ _ _ _ _ _ _ _ _ _ _ _ _ _ _ _ _ _ _ _ _ _ _ _ _ _ _ _ _ _ _ _ _ _ _ _ _ _ _ _ _ _ _ _ _ _ _ _ _ _ _ _ _ _ _ _ _ _ _ _ _ _ _ _ _ _ _ _ _ _ _ _ _ _ _ _ _ _ _ _ _ _ _ _ _ _ _ _ _ _ _ _ _ _ _ _ _ _ _ _ _ _ _ _ _ _
        first
          | (exact HW.out)
end Go.Proofs.Ytbljijbmjccalaa

/-
  Proved here: what the document's holds of layer 9 tells of the conditions that are others', turned. Conditions: none.
-/
namespace Go.Proofs.Ytbljijbmjccalaa
open Go.RowKit Go.MapKept
attribute [local go_sem] u_and u_or u_xor u_andNot u_add u_sub s_conv u_conv max_u min_u max_s min_s u_inc u_less s_inc s_less s_inc64 s_less64
set_option linter.unusedSimpArgs false

def tabH : List (Int × Int) := [(160, 32), (176, 48), (192, 96), (208, 112)]
/-- The first n entries. -/
def entsH (n : Nat) : Array MapEntry := ((tabH.take n).mapIdx fun i f => { key := .int .u8 f.1, val := .int .u8 f.2, born := i }).toArray
theorem allocH_again (w : World) (o o' : Obj) : { w.alloc o with heap := (w.alloc o).heap.setIfInBounds w.heap.size o' } = w.alloc o' := by
  have e : (w.heap.push o).setIfInBounds w.heap.size o' = w.heap.push o' := by
    apply Array.ext_getElem?
    intro i
    rw [Array.getElem?_setIfInBounds, Array.getElem?_push, Array.getElem?_push, Array.size_push]
    by_cases h : w.heap.size = i
    · subst h; simp
    · rw [if_neg h, if_neg (Ne.symm h), if_neg (Ne.symm h)]
  show { w.alloc o with heap := (w.heap.push o).setIfInBounds w.heap.size o' } = w.alloc o'
  rw [e]
  rfl
theorem runH_put (w : World) (i : Nat) (es es' : Array MapEntry) (k : Int) (v : Value) (h1 : Instr.findNow (.int .u8) (.int .u8 k) es.toList 0 = some none) (h2 : es.push { key := .int .u8 k, val := v, born := i } = es') :
    (Instr.mapUpdate 65 (.map (some w.heap.size)) (.int .u8 k) v).run Try.prog (w.alloc (.map es i)) = .ok () (w.alloc (.map es' (i + 1))) := by
  have hb := (heap_alloc w (.map es i)).1
  have hk : IsKey (.int .u8) (.int .u8 k) := rfl
  have hd : Try.prog.underlying 5 = some (.int .u8) := Try.underlying5
  subst h2
  simp [Instr.mapUpdate, run_underlying Try.underlying65, MapKept.run_getObj_map hb, run_checkKey hd hk, run_findKey hd h1, run_setObj_map _ hb, Result.andThen]
  exact allocH_again _ _ _
theorem runH_look (w : World) (b j : Nat) (k : Int) (v : Value) (hb : w.heap[b]? = some (.map (entsH 4) 4)) (h1 : Instr.findNow (.int .u8) (.int .u8 k) (entsH 4).toList 0 = some (some (j, v))) :
    (Instr.lookup 65 (.map (some b)) (.int .u8 k) false).run Try.prog w = .ok v w := by
  have hk : IsKey (.int .u8) (.int .u8 k) := rfl
  have hd : Try.prog.underlying 5 = some (.int .u8) := Try.underlying5
  simp [Instr.lookup, run_underlying Try.underlying65, MapKept.run_getObj_map hb, run_checkKey hd hk, run_findKey hd h1, Result.andThen]
theorem back_parts (x y : K) (t : Tw) : ∃ c d ok, backV y x t = .tuple #[numV c, numV d, .bool ok] ∧ backV x y (swapT t) = .tuple #[numV d, numV c, .bool ok] := by
  unfold backV
  rw [swap_good]
  by_cases h : t.good = true
  · rw [if_pos h, if_pos h]
    exact ⟨_, _, _, rfl, rfl⟩
  · rw [if_neg h, if_neg h]
    exact ⟨_, _, _, rfl, rfl⟩
set_option maxRecDepth 100000 in
set_option maxHeartbeats 8000000 in
theorem ho_swap160 (x y : K) (w : World) : Calls Try.prog 16 #[.int .u8 160, .int .i64 0, numV x, numV y] w (Gives (backV x y (swapT (aboveT y x))) w) := by
  refine hold_head 160 0 x y w _ ?_
  intro g h W hx
  intros
  have HW := Lib.hid hx
  clear hx
  obtain ⟨c, d, ok, e1, e2⟩ := back_parts x y (aboveT y x)
  have hc := fun W => ho_above y x W
  rw [e1] at hc
  rw [e2]
  clear e1 e2
  unfold numV at hc
  have hmm := @run_makeMap Try.prog
  have e0 : (#[] : Array MapEntry) = entsH 0 := rfl
  have p0 := runH_put W 0 (entsH 0) (entsH 1) 160 (.int .u8 32) rfl rfl
  have p1 := runH_put W 1 (entsH 1) (entsH 2) 176 (.int .u8 48) rfl rfl
  have p2 := runH_put W 2 (entsH 2) (entsH 3) 192 (.int .u8 96) rfl rfl
  have p3 := runH_put W 3 (entsH 3) (entsH 4) 208 (.int .u8 112) rfl rfl
  rw [← e0] at p0
  clear e0
  have hl := runH_look (W.alloc (.map (entsH 4) 4)) W.heap.size 0 160 (.int .u8 32) (heap_alloc W _).1 rfl
  have HV0 := Lib.hid (hx_keep HW.out (below_box W (.map (entsH 4) 4)))
  obtain ⟨code, hcode⟩ : ∃ c, tl 2 (Try.f16.body.getD .skip) = c := ⟨_, rfl⟩
  rw [hcode]
  dsimp only [tl, Try.f16, Option.getD] at hcode
  subst hcode
  obtain ⟨a0, a1, a2, a3, a4, a5⟩ := num_cells HV0.out.1.1.1
  obtain ⟨b0, b1, b2, b3, b4, b5⟩ := num_cells HV0.out.1.1.2
  go_upto_region 3 with (go_at_call 16; refine (hc _).mono ?_; rintro e w1 ⟨rfl, hb⟩; have HV := Lib.hid (hx_keep HV0.out hb); clear hb a0 a1 a2 a3 a4 a5 b0 b1 b2 b3 b4 b5)
  have HU := Lib.hid (hx_keep (hx_keep HV.out (below_box w1 (.cells #[.int .u64 (u c.v), .int .u64 (u c.m), .int .u64 (u c.a), .int .u64 (u c.b), .int .i64 (s c.c), .int .i64 (s c.d)] 26))) (below_box _ (.cells #[.int .u64 (u d.v), .int .u64 (u d.m), .int .u64 (u d.a), .int .u64 (u d.b), .int .i64 (s d.c), .int .i64 (s d.d)] 26)))
  have HC := Lib.hid (num_keep (num_new c w1) (below_box _ (.cells #[.int .u64 (u d.v), .int .u64 (u d.m), .int .u64 (u d.a), .int .u64 (u d.b), .int .i64 (s d.c), .int .i64 (s d.d)] 26)))
  have hD := num_new d (w1.alloc (.cells #[.int .u64 (u c.v), .int .u64 (u c.m), .int .u64 (u c.a), .int .u64 (u c.b), .int .i64 (s c.c), .int .i64 (s c.d)] 26))
  have e1 : (w1.alloc (.cells #[.int .u64 (u c.v), .int .u64 (u c.m), .int .u64 (u c.a), .int .u64 (u c.b), .int .i64 (s c.c), .int .i64 (s c.d)] 26)).heap.size = w1.heap.size + 1 := by simp
  rw [e1] at hD
  have HD := Lib.hid hD
  clear hD e1
  have HL := Lib.hid (num_lt HV.out.1.2.1.2)
  try simp only [World.size_alloc] 
  obtain ⟨W2, hW2⟩ : ∃ W2, (w1.alloc (.cells #[.int .u64 (u c.v), .int .u64 (u c.m), .int .u64 (u c.a), .int .u64 (u c.b), .int .i64 (s c.c), .int .i64 (s c.d)] 26)).alloc (.cells #[.int .u64 (u d.v), .int .u64 (u d.m), .int .u64 (u d.a), .int .u64 (u d.b), .int .i64 (s d.c), .int .i64 (s d.d)] 26) = W2 := ⟨_, rfl⟩
  rw [hW2] at HU HC HD ⊢
  obtain ⟨nB, hn2⟩ : ∃ n, w1.heap.size + 1 = n := ⟨_, rfl⟩
  rw [hn2] at HD ⊢
  obtain ⟨n, hn⟩ : ∃ n, w1.heap.size = n := ⟨_, rfl⟩
  rw [hn] at HC HL hn2 ⊢
  clear hW2 hn HV HW HV0
  have HW := HU
  clear HU
  obtain ⟨cc0, cc1, cc2, cc3, cc4, cc5⟩ := num_cells HC.out
  obtain ⟨dd0, dd1, dd2, dd3, dd4, dd5⟩ := num_cells HD.out
  obtain ⟨r0, r1, r2, r3, r4, r5⟩ := num_cells HW.out.1.2.1.1
  obtain ⟨t0, t1, t2, t3, t4, t5⟩ := num_cells HW.out.1.2.1.2
  obtain ⟨k0, k1, k2, k3, k4, k5⟩ := num_free HW.out.1.2.1.1
  obtain ⟨l0, l1, l2, l3, l4, l5⟩ := num_free HW.out.1.2.1.2
  have n1q2 : (n = w.heap.size + 1 + 1) = False := by have := HL.out; simp; omega
  have n1r2 : (w.heap.size + 1 + 1 = n) = False := by have := HL.out; simp; omega
  have n1q3 : (n = w.heap.size + 1 + 1 + 1) = False := by have := HL.out; simp; omega
  have n1r3 : (w.heap.size + 1 + 1 + 1 = n) = False := by have := HL.out; simp; omega
  have n2q2 : (nB = w.heap.size + 1 + 1) = False := by have := HL.out; simp; omega
  have n2r2 : (w.heap.size + 1 + 1 = nB) = False := by have := HL.out; simp; omega
  have n2q3 : (nB = w.heap.size + 1 + 1 + 1) = False := by have := HL.out; simp; omega
  have n2r3 : (w.heap.size + 1 + 1 + 1 = nB) = False := by have := HL.out; simp; omega
  clear hn2
  go_wp2_with fail
  go_region
  all_goals
    first
      | (have HF := Lib.hid (h4_told (HW.out.1) (d) (c)); generalize World.setCell _ _ _ = Wf at HF ⊢; obtain ⟨Wg, hWg⟩ : ∃ Wg, Wf = Wg := ⟨_, rfl⟩; rw [hWg] at HF ⊢; clear hWg; obtain ⟨z0, z1, z2, z3, z4, z5⟩ := num_cells HF.out.1; obtain ⟨e0, e1, e2, e3, e4, e5⟩ := num_cells HF.out.2.1; go_wp2_with fail; exact bodyPost_ret (v := .tuple #[numV (d), numV (c), .bool ok]) (by unfold numV; simp [results, Try.results16, go_sem, z0, z1, z2, z3, z4, z5, e0, e1, e2, e3, e4, e5]) rfl ⟨rfl, HF.out.2.2.drew⟩)
      | (have HF := Lib.hid (h4_told2 (HW.out.1) (d) (c)); generalize World.setCell _ _ _ = Wf at HF ⊢; obtain ⟨Wg, hWg⟩ : ∃ Wg, Wf = Wg := ⟨_, rfl⟩; rw [hWg] at HF ⊢; clear hWg; obtain ⟨z0, z1, z2, z3, z4, z5⟩ := num_cells HF.out.1; obtain ⟨e0, e1, e2, e3, e4, e5⟩ := num_cells HF.out.2.1; go_wp2_with fail; exact bodyPost_ret (v := .tuple #[numV (d), numV (c), .bool ok]) (by unfold numV; simp [results, Try.results16, go_sem, z0, z1, z2, z3, z4, z5, e0, e1, e2, e3, e4, e5]) rfl ⟨rfl, HF.out.2.2.drew⟩)
set_option maxRecDepth 100000 in
set_option maxHeartbeats 8000000 in
theorem ho_swap176 (x y : K) (w : World) : Calls Try.prog 16 #[.int .u8 176, .int .i64 0, numV x, numV y] w (Gives (backV x y (swapT (levelT y x))) w) := by
  refine hold_head 176 0 x y w _ ?_
  intro g h W hx
  intros
  have HW := Lib.hid hx
  clear hx
  obtain ⟨c, d, ok, e1, e2⟩ := back_parts x y (levelT y x)
  have hc := fun W => ho_level y x W
  rw [e1] at hc
  rw [e2]
  clear e1 e2
  unfold numV at hc
  have hmm := @run_makeMap Try.prog
  have e0 : (#[] : Array MapEntry) = entsH 0 := rfl
  have p0 := runH_put W 0 (entsH 0) (entsH 1) 160 (.int .u8 32) rfl rfl
  have p1 := runH_put W 1 (entsH 1) (entsH 2) 176 (.int .u8 48) rfl rfl
  have p2 := runH_put W 2 (entsH 2) (entsH 3) 192 (.int .u8 96) rfl rfl
  have p3 := runH_put W 3 (entsH 3) (entsH 4) 208 (.int .u8 112) rfl rfl
  rw [← e0] at p0
  clear e0
  have hl := runH_look (W.alloc (.map (entsH 4) 4)) W.heap.size 1 176 (.int .u8 48) (heap_alloc W _).1 rfl
  have HV0 := Lib.hid (hx_keep HW.out (below_box W (.map (entsH 4) 4)))
  obtain ⟨code, hcode⟩ : ∃ c, tl 2 (Try.f16.body.getD .skip) = c := ⟨_, rfl⟩
  rw [hcode]
  dsimp only [tl, Try.f16, Option.getD] at hcode
  subst hcode
  obtain ⟨a0, a1, a2, a3, a4, a5⟩ := num_cells HV0.out.1.1.1
  obtain ⟨b0, b1, b2, b3, b4, b5⟩ := num_cells HV0.out.1.1.2
  go_upto_region 3 with (go_at_call 16; refine (hc _).mono ?_; rintro e w1 ⟨rfl, hb⟩; have HV := Lib.hid (hx_keep HV0.out hb); clear hb a0 a1 a2 a3 a4 a5 b0 b1 b2 b3 b4 b5)
  have HU := Lib.hid (hx_keep (hx_keep HV.out (below_box w1 (.cells #[.int .u64 (u c.v), .int .u64 (u c.m), .int .u64 (u c.a), .int .u64 (u c.b), .int .i64 (s c.c), .int .i64 (s c.d)] 26))) (below_box _ (.cells #[.int .u64 (u d.v), .int .u64 (u d.m), .int .u64 (u d.a), .int .u64 (u d.b), .int .i64 (s d.c), .int .i64 (s d.d)] 26)))
  have HC := Lib.hid (num_keep (num_new c w1) (below_box _ (.cells #[.int .u64 (u d.v), .int .u64 (u d.m), .int .u64 (u d.a), .int .u64 (u d.b), .int .i64 (s d.c), .int .i64 (s d.d)] 26)))
  have hD := num_new d (w1.alloc (.cells #[.int .u64 (u c.v), .int .u64 (u c.m), .int .u64 (u c.a), .int .u64 (u c.b), .int .i64 (s c.c), .int .i64 (s c.d)] 26))
  have e1 : (w1.alloc (.cells #[.int .u64 (u c.v), .int .u64 (u c.m), .int .u64 (u c.a), .int .u64 (u c.b), .int .i64 (s c.c), .int .i64 (s c.d)] 26)).heap.size = w1.heap.size + 1 := by simp
  rw [e1] at hD
  have HD := Lib.hid hD
  clear hD e1
  have HL := Lib.hid (num_lt HV.out.1.2.1.2)
  try simp only [World.size_alloc] 
  obtain ⟨W2, hW2⟩ : ∃ W2, (w1.alloc (.cells #[.int .u64 (u c.v), .int .u64 (u c.m), .int .u64 (u c.a), .int .u64 (u c.b), .int .i64 (s c.c), .int .i64 (s c.d)] 26)).alloc (.cells #[.int .u64 (u d.v), .int .u64 (u d.m), .int .u64 (u d.a), .int .u64 (u d.b), .int .i64 (s d.c), .int .i64 (s d.d)] 26) = W2 := ⟨_, rfl⟩
  rw [hW2] at HU HC HD ⊢
  obtain ⟨nB, hn2⟩ : ∃ n, w1.heap.size + 1 = n := ⟨_, rfl⟩
  rw [hn2] at HD ⊢
  obtain ⟨n, hn⟩ : ∃ n, w1.heap.size = n := ⟨_, rfl⟩
  rw [hn] at HC HL hn2 ⊢
  clear hW2 hn HV HW HV0
  have HW := HU
  clear HU
  obtain ⟨cc0, cc1, cc2, cc3, cc4, cc5⟩ := num_cells HC.out
  obtain ⟨dd0, dd1, dd2, dd3, dd4, dd5⟩ := num_cells HD.out
  obtain ⟨r0, r1, r2, r3, r4, r5⟩ := num_cells HW.out.1.2.1.1
  obtain ⟨t0, t1, t2, t3, t4, t5⟩ := num_cells HW.out.1.2.1.2
  obtain ⟨k0, k1, k2, k3, k4, k5⟩ := num_free HW.out.1.2.1.1
  obtain ⟨l0, l1, l2, l3, l4, l5⟩ := num_free HW.out.1.2.1.2
  have n1q2 : (n = w.heap.size + 1 + 1) = False := by have := HL.out; simp; omega
  have n1r2 : (w.heap.size + 1 + 1 = n) = False := by have := HL.out; simp; omega
  have n1q3 : (n = w.heap.size + 1 + 1 + 1) = False := by have := HL.out; simp; omega
  have n1r3 : (w.heap.size + 1 + 1 + 1 = n) = False := by have := HL.out; simp; omega
  have n2q2 : (nB = w.heap.size + 1 + 1) = False := by have := HL.out; simp; omega
  have n2r2 : (w.heap.size + 1 + 1 = nB) = False := by have := HL.out; simp; omega
  have n2q3 : (nB = w.heap.size + 1 + 1 + 1) = False := by have := HL.out; simp; omega
  have n2r3 : (w.heap.size + 1 + 1 + 1 = nB) = False := by have := HL.out; simp; omega
  clear hn2
  go_wp2_with fail
  go_region
  all_goals
    first
      | (have HF := Lib.hid (h4_told (HW.out.1) (d) (c)); generalize World.setCell _ _ _ = Wf at HF ⊢; obtain ⟨Wg, hWg⟩ : ∃ Wg, Wf = Wg := ⟨_, rfl⟩; rw [hWg] at HF ⊢; clear hWg; obtain ⟨z0, z1, z2, z3, z4, z5⟩ := num_cells HF.out.1; obtain ⟨e0, e1, e2, e3, e4, e5⟩ := num_cells HF.out.2.1; go_wp2_with fail; exact bodyPost_ret (v := .tuple #[numV (d), numV (c), .bool ok]) (by unfold numV; simp [results, Try.results16, go_sem, z0, z1, z2, z3, z4, z5, e0, e1, e2, e3, e4, e5]) rfl ⟨rfl, HF.out.2.2.drew⟩)
      | (have HF := Lib.hid (h4_told2 (HW.out.1) (d) (c)); generalize World.setCell _ _ _ = Wf at HF ⊢; obtain ⟨Wg, hWg⟩ : ∃ Wg, Wf = Wg := ⟨_, rfl⟩; rw [hWg] at HF ⊢; clear hWg; obtain ⟨z0, z1, z2, z3, z4, z5⟩ := num_cells HF.out.1; obtain ⟨e0, e1, e2, e3, e4, e5⟩ := num_cells HF.out.2.1; go_wp2_with fail; exact bodyPost_ret (v := .tuple #[numV (d), numV (c), .bool ok]) (by unfold numV; simp [results, Try.results16, go_sem, z0, z1, z2, z3, z4, z5, e0, e1, e2, e3, e4, e5]) rfl ⟨rfl, HF.out.2.2.drew⟩)
set_option maxRecDepth 100000 in
set_option maxHeartbeats 8000000 in
theorem ho_swap192 (x y : K) (w : World) : Calls Try.prog 16 #[.int .u8 192, .int .i64 0, numV x, numV y] w (Gives (backV x y (swapT (aboveST y x))) w) := by
  refine hold_head 192 0 x y w _ ?_
  intro g h W hx
  intros
  have HW := Lib.hid hx
  clear hx
  obtain ⟨c, d, ok, e1, e2⟩ := back_parts x y (aboveST y x)
  have hc := fun W => ho_aboveS y x W
  rw [e1] at hc
  rw [e2]
  clear e1 e2
  unfold numV at hc
  have hmm := @run_makeMap Try.prog
  have e0 : (#[] : Array MapEntry) = entsH 0 := rfl
  have p0 := runH_put W 0 (entsH 0) (entsH 1) 160 (.int .u8 32) rfl rfl
  have p1 := runH_put W 1 (entsH 1) (entsH 2) 176 (.int .u8 48) rfl rfl
  have p2 := runH_put W 2 (entsH 2) (entsH 3) 192 (.int .u8 96) rfl rfl
  have p3 := runH_put W 3 (entsH 3) (entsH 4) 208 (.int .u8 112) rfl rfl
  rw [← e0] at p0
  clear e0
  have hl := runH_look (W.alloc (.map (entsH 4) 4)) W.heap.size 2 192 (.int .u8 96) (heap_alloc W _).1 rfl
  have HV0 := Lib.hid (hx_keep HW.out (below_box W (.map (entsH 4) 4)))
  obtain ⟨code, hcode⟩ : ∃ c, tl 2 (Try.f16.body.getD .skip) = c := ⟨_, rfl⟩
  rw [hcode]
  dsimp only [tl, Try.f16, Option.getD] at hcode
  subst hcode
  obtain ⟨a0, a1, a2, a3, a4, a5⟩ := num_cells HV0.out.1.1.1
  obtain ⟨b0, b1, b2, b3, b4, b5⟩ := num_cells HV0.out.1.1.2
  go_upto_region 3 with (go_at_call 16; refine (hc _).mono ?_; rintro e w1 ⟨rfl, hb⟩; have HV := Lib.hid (hx_keep HV0.out hb); clear hb a0 a1 a2 a3 a4 a5 b0 b1 b2 b3 b4 b5)
  have HU := Lib.hid (hx_keep (hx_keep HV.out (below_box w1 (.cells #[.int .u64 (u c.v), .int .u64 (u c.m), .int .u64 (u c.a), .int .u64 (u c.b), .int .i64 (s c.c), .int .i64 (s c.d)] 26))) (below_box _ (.cells #[.int .u64 (u d.v), .int .u64 (u d.m), .int .u64 (u d.a), .int .u64 (u d.b), .int .i64 (s d.c), .int .i64 (s d.d)] 26)))
  have HC := Lib.hid (num_keep (num_new c w1) (below_box _ (.cells #[.int .u64 (u d.v), .int .u64 (u d.m), .int .u64 (u d.a), .int .u64 (u d.b), .int .i64 (s d.c), .int .i64 (s d.d)] 26)))
  have hD := num_new d (w1.alloc (.cells #[.int .u64 (u c.v), .int .u64 (u c.m), .int .u64 (u c.a), .int .u64 (u c.b), .int .i64 (s c.c), .int .i64 (s c.d)] 26))
  have e1 : (w1.alloc (.cells #[.int .u64 (u c.v), .int .u64 (u c.m), .int .u64 (u c.a), .int .u64 (u c.b), .int .i64 (s c.c), .int .i64 (s c.d)] 26)).heap.size = w1.heap.size + 1 := by simp
  rw [e1] at hD
  have HD := Lib.hid hD
  clear hD e1
  have HL := Lib.hid (num_lt HV.out.1.2.1.2)
  try simp only [World.size_alloc] 
  obtain ⟨W2, hW2⟩ : ∃ W2, (w1.alloc (.cells #[.int .u64 (u c.v), .int .u64 (u c.m), .int .u64 (u c.a), .int .u64 (u c.b), .int .i64 (s c.c), .int .i64 (s c.d)] 26)).alloc (.cells #[.int .u64 (u d.v), .int .u64 (u d.m), .int .u64 (u d.a), .int .u64 (u d.b), .int .i64 (s d.c), .int .i64 (s d.d)] 26) = W2 := ⟨_, rfl⟩
  rw [hW2] at HU HC HD ⊢
  obtain ⟨nB, hn2⟩ : ∃ n, w1.heap.size + 1 = n := ⟨_, rfl⟩
  rw [hn2] at HD ⊢
  obtain ⟨n, hn⟩ : ∃ n, w1.heap.size = n := ⟨_, rfl⟩
  rw [hn] at HC HL hn2 ⊢
  clear hW2 hn HV HW HV0
  have HW := HU
  clear HU
  obtain ⟨cc0, cc1, cc2, cc3, cc4, cc5⟩ := num_cells HC.out
  obtain ⟨dd0, dd1, dd2, dd3, dd4, dd5⟩ := num_cells HD.out
  obtain ⟨r0, r1, r2, r3, r4, r5⟩ := num_cells HW.out.1.2.1.1
  obtain ⟨t0, t1, t2, t3, t4, t5⟩ := num_cells HW.out.1.2.1.2
  obtain ⟨k0, k1, k2, k3, k4, k5⟩ := num_free HW.out.1.2.1.1
  obtain ⟨l0, l1, l2, l3, l4, l5⟩ := num_free HW.out.1.2.1.2
  have n1q2 : (n = w.heap.size + 1 + 1) = False := by have := HL.out; simp; omega
  have n1r2 : (w.heap.size + 1 + 1 = n) = False := by have := HL.out; simp; omega
  have n1q3 : (n = w.heap.size + 1 + 1 + 1) = False := by have := HL.out; simp; omega
  have n1r3 : (w.heap.size + 1 + 1 + 1 = n) = False := by have := HL.out; simp; omega
  have n2q2 : (nB = w.heap.size + 1 + 1) = False := by have := HL.out; simp; omega
  have n2r2 : (w.heap.size + 1 + 1 = nB) = False := by have := HL.out; simp; omega
  have n2q3 : (nB = w.heap.size + 1 + 1 + 1) = False := by have := HL.out; simp; omega
  have n2r3 : (w.heap.size + 1 + 1 + 1 = nB) = False := by have := HL.out; simp; omega
  clear hn2
  go_wp2_with fail
  go_region
  all_goals
    first
      | (have HF := Lib.hid (h4_told (HW.out.1) (d) (c)); generalize World.setCell _ _ _ = Wf at HF ⊢; obtain ⟨Wg, hWg⟩ : ∃ Wg, Wf = Wg := ⟨_, rfl⟩; rw [hWg] at HF ⊢; clear hWg; obtain ⟨z0, z1, z2, z3, z4, z5⟩ := num_cells HF.out.1; obtain ⟨e0, e1, e2, e3, e4, e5⟩ := num_cells HF.out.2.1; go_wp2_with fail; exact bodyPost_ret (v := .tuple #[numV (d), numV (c), .bool ok]) (by unfold numV; simp [results, Try.results16, go_sem, z0, z1, z2, z3, z4, z5, e0, e1, e2, e3, e4, e5]) rfl ⟨rfl, HF.out.2.2.drew⟩)
      | (have HF := Lib.hid (h4_told2 (HW.out.1) (d) (c)); generalize World.setCell _ _ _ = Wf at HF ⊢; obtain ⟨Wg, hWg⟩ : ∃ Wg, Wf = Wg := ⟨_, rfl⟩; rw [hWg] at HF ⊢; clear hWg; obtain ⟨z0, z1, z2, z3, z4, z5⟩ := num_cells HF.out.1; obtain ⟨e0, e1, e2, e3, e4, e5⟩ := num_cells HF.out.2.1; go_wp2_with fail; exact bodyPost_ret (v := .tuple #[numV (d), numV (c), .bool ok]) (by unfold numV; simp [results, Try.results16, go_sem, z0, z1, z2, z3, z4, z5, e0, e1, e2, e3, e4, e5]) rfl ⟨rfl, HF.out.2.2.drew⟩)
set_option maxRecDepth 100000 in
set_option maxHeartbeats 8000000 in
theorem ho_swap208 (x y : K) (w : World) : Calls Try.prog 16 #[.int .u8 208, .int .i64 0, numV x, numV y] w (Gives (backV x y (swapT (levelST y x))) w) := by
  refine hold_head 208 0 x y w _ ?_
  intro g h W hx
  intros
  have HW := Lib.hid hx
  clear hx
  obtain ⟨c, d, ok, e1, e2⟩ := back_parts x y (levelST y x)
  have hc := fun W => ho_levelS y x W
  rw [e1] at hc
  rw [e2]
  clear e1 e2
  unfold numV at hc
  have hmm := @run_makeMap Try.prog
  have e0 : (#[] : Array MapEntry) = entsH 0 := rfl
  have p0 := runH_put W 0 (entsH 0) (entsH 1) 160 (.int .u8 32) rfl rfl
  have p1 := runH_put W 1 (entsH 1) (entsH 2) 176 (.int .u8 48) rfl rfl
  have p2 := runH_put W 2 (entsH 2) (entsH 3) 192 (.int .u8 96) rfl rfl
  have p3 := runH_put W 3 (entsH 3) (entsH 4) 208 (.int .u8 112) rfl rfl
  rw [← e0] at p0
  clear e0
  have hl := runH_look (W.alloc (.map (entsH 4) 4)) W.heap.size 3 208 (.int .u8 112) (heap_alloc W _).1 rfl
  have HV0 := Lib.hid (hx_keep HW.out (below_box W (.map (entsH 4) 4)))
  obtain ⟨code, hcode⟩ : ∃ c, tl 2 (Try.f16.body.getD .skip) = c := ⟨_, rfl⟩
  rw [hcode]
  dsimp only [tl, Try.f16, Option.getD] at hcode
  subst hcode
  obtain ⟨a0, a1, a2, a3, a4, a5⟩ := num_cells HV0.out.1.1.1
  obtain ⟨b0, b1, b2, b3, b4, b5⟩ := num_cells HV0.out.1.1.2
  go_upto_region 3 with (go_at_call 16; refine (hc _).mono ?_; rintro e w1 ⟨rfl, hb⟩; have HV := Lib.hid (hx_keep HV0.out hb); clear hb a0 a1 a2 a3 a4 a5 b0 b1 b2 b3 b4 b5)
  have HU := Lib.hid (hx_keep (hx_keep HV.out (below_box w1 (.cells #[.int .u64 (u c.v), .int .u64 (u c.m), .int .u64 (u c.a), .int .u64 (u c.b), .int .i64 (s c.c), .int .i64 (s c.d)] 26))) (below_box _ (.cells #[.int .u64 (u d.v), .int .u64 (u d.m), .int .u64 (u d.a), .int .u64 (u d.b), .int .i64 (s d.c), .int .i64 (s d.d)] 26)))
  have HC := Lib.hid (num_keep (num_new c w1) (below_box _ (.cells #[.int .u64 (u d.v), .int .u64 (u d.m), .int .u64 (u d.a), .int .u64 (u d.b), .int .i64 (s d.c), .int .i64 (s d.d)] 26)))
  have hD := num_new d (w1.alloc (.cells #[.int .u64 (u c.v), .int .u64 (u c.m), .int .u64 (u c.a), .int .u64 (u c.b), .int .i64 (s c.c), .int .i64 (s c.d)] 26))
  have e1 : (w1.alloc (.cells #[.int .u64 (u c.v), .int .u64 (u c.m), .int .u64 (u c.a), .int .u64 (u c.b), .int .i64 (s c.c), .int .i64 (s c.d)] 26)).heap.size = w1.heap.size + 1 := by simp
  rw [e1] at hD
  have HD := Lib.hid hD
  clear hD e1
  have HL := Lib.hid (num_lt HV.out.1.2.1.2)
  try simp only [World.size_alloc] 
  obtain ⟨W2, hW2⟩ : ∃ W2, (w1.alloc (.cells #[.int .u64 (u c.v), .int .u64 (u c.m), .int .u64 (u c.a), .int .u64 (u c.b), .int .i64 (s c.c), .int .i64 (s c.d)] 26)).alloc (.cells #[.int .u64 (u d.v), .int .u64 (u d.m), .int .u64 (u d.a), .int .u64 (u d.b), .int .i64 (s d.c), .int .i64 (s d.d)] 26) = W2 := ⟨_, rfl⟩
  rw [hW2] at HU HC HD ⊢
  obtain ⟨nB, hn2⟩ : ∃ n, w1.heap.size + 1 = n := ⟨_, rfl⟩
  rw [hn2] at HD ⊢
  obtain ⟨n, hn⟩ : ∃ n, w1.heap.size = n := ⟨_, rfl⟩
  rw [hn] at HC HL hn2 ⊢
  clear hW2 hn HV HW HV0
  have HW := HU
  clear HU
  obtain ⟨cc0, cc1, cc2, cc3, cc4, cc5⟩ := num_cells HC.out
  obtain ⟨dd0, dd1, dd2, dd3, dd4, dd5⟩ := num_cells HD.out
  obtain ⟨r0, r1, r2, r3, r4, r5⟩ := num_cells HW.out.1.2.1.1
  obtain ⟨t0, t1, t2, t3, t4, t5⟩ := num_cells HW.out.1.2.1.2
  obtain ⟨k0, k1, k2, k3, k4, k5⟩ := num_free HW.out.1.2.1.1
  obtain ⟨l0, l1, l2, l3, l4, l5⟩ := num_free HW.out.1.2.1.2
  have n1q2 : (n = w.heap.size + 1 + 1) = False := by have := HL.out; simp; omega
  have n1r2 : (w.heap.size + 1 + 1 = n) = False := by have := HL.out; simp; omega
  have n1q3 : (n = w.heap.size + 1 + 1 + 1) = False := by have := HL.out; simp; omega
  have n1r3 : (w.heap.size + 1 + 1 + 1 = n) = False := by have := HL.out; simp; omega
  have n2q2 : (nB = w.heap.size + 1 + 1) = False := by have := HL.out; simp; omega
  have n2r2 : (w.heap.size + 1 + 1 = nB) = False := by have := HL.out; simp; omega
  have n2q3 : (nB = w.heap.size + 1 + 1 + 1) = False := by have := HL.out; simp; omega
  have n2r3 : (w.heap.size + 1 + 1 + 1 = nB) = False := by have := HL.out; simp; omega
  clear hn2
  go_wp2_with fail
  go_region
  all_goals
    first
      | (have HF := Lib.hid (h4_told (HW.out.1) (d) (c)); generalize World.setCell _ _ _ = Wf at HF ⊢; obtain ⟨Wg, hWg⟩ : ∃ Wg, Wf = Wg := ⟨_, rfl⟩; rw [hWg] at HF ⊢; clear hWg; obtain ⟨z0, z1, z2, z3, z4, z5⟩ := num_cells HF.out.1; obtain ⟨e0, e1, e2, e3, e4, e5⟩ := num_cells HF.out.2.1; go_wp2_with fail; exact bodyPost_ret (v := .tuple #[numV (d), numV (c), .bool ok]) (by unfold numV; simp [results, Try.results16, go_sem, z0, z1, z2, z3, z4, z5, e0, e1, e2, e3, e4, e5]) rfl ⟨rfl, HF.out.2.2.drew⟩)
      | (have HF := Lib.hid (h4_told2 (HW.out.1) (d) (c)); generalize World.setCell _ _ _ = Wf at HF ⊢; obtain ⟨Wg, hWg⟩ : ∃ Wg, Wf = Wg := ⟨_, rfl⟩; rw [hWg] at HF ⊢; clear hWg; obtain ⟨z0, z1, z2, z3, z4, z5⟩ := num_cells HF.out.1; obtain ⟨e0, e1, e2, e3, e4, e5⟩ := num_cells HF.out.2.1; go_wp2_with fail; exact bodyPost_ret (v := .tuple #[numV (d), numV (c), .bool ok]) (by unfold numV; simp [results, Try.results16, go_sem, z0, z1, z2, z3, z4, z5, e0, e1, e2, e3, e4, e5]) rfl ⟨rfl, HF.out.2.2.drew⟩)
end Go.Proofs.Ytbljijbmjccalaa
