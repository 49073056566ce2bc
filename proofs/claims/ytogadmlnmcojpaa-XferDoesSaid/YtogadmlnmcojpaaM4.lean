/-
  Proved here: rows of package xfer: Xor, And, Or, Mov. Conditions: none.
-/
import Derived.Test.YtogadmlnmcojpaaG3
import Derived.RegionTactic
import Derived.BigRegion
import Derived.Deep.QuietTactic
import Derived.BigQuiet
import Derived.Laws.Externs
import Derived.Deep.RegionHeld3
import Derived.Deep.RegionWith
namespace Go.Proofs.Ytogadmlnmcojpaa
open Go.RowKit
attribute [local go_sem] u_and u_or u_xor u_andNot u_add u_sub s_conv u_conv max_u min_u max_s min_s
set_option maxHeartbeats 1000000 in
theorem xr_xor (a b : K) (one : Bool) (c k : B64) (w : World) : Calls Try.prog 60 #[pairV a b one c k] w (Gives (numV (rowXor a b)) w) := by
  have hR := Lib.hid (wr2_new w a b one c k)
  unfold Gives pairV pairC
  unfold pairC at hR
  have hun := fun W => xr_unknown W
  unfold numV at hun
  obtain ⟨A, hA⟩ : ∃ A, allK = A := ⟨_, rfl⟩
  rw [hA] at hun
  have HA := Lib.hid hA
  clear hA
  go_enter Try.func60, Try.ntmps60
  go_upto_region 2 with (go_at_call 29; refine (hun _).mono ?_; rintro e w1 ⟨rfl, hb⟩; have HB := Lib.hid (wr_new hR.out hb A); clear hb)
  generalize w1.alloc _ = W at HB ⊢
  generalize w1.heap.size = m at HB ⊢
  clear hun hR w1
  have htw := fun W => xor_tnum a.v a.m b.v b.m W
  obtain ⟨tv, ht⟩ : ∃ t, twoV 4 a.v a.m b.v b.m = t := ⟨_, rfl⟩
  obtain ⟨tm, hm⟩ : ∃ t, twoM 4 a.v a.m b.v b.m = t := ⟨_, rfl⟩
  rw [ht, hm] at htw
  have HT := Lib.hid ht
  have HM := Lib.hid hm
  clear ht hm
  unfold tnV at htw
  obtain ⟨⟨p0, p1, p2, p3, p4, p5⟩, ⟨q0, q1, q2, q3, q4, q5⟩, po, pc, pk⟩ := pair_cells HB.out.1
  go_upto_region 3 with (go_at_call 79; refine (htw _).mono ?_; rintro e w2 ⟨rfl, hb⟩; have HC := Lib.hid (wr_keep2 HB.out hb); clear hb; clear p0 p1 p2 p3 p4 p5 q0 q1 q2 q3 q4 q5 po pc pk; obtain ⟨⟨r0, r1, r2, r3, r4, r5⟩, ⟨f0, f1, f2, f3, f4, f5⟩, -, -⟩ := wr_facts HC.out)
  have HD := Lib.hid (wr_vm HC.out tv tm)
  generalize World.setCell _ _ _ = W2 at HD ⊢
  obtain ⟨r, hr⟩ : ∃ r, (⟨tv, tm, A.a, A.b, A.c, A.d⟩ : K) = r := ⟨_, rfl⟩
  rw [hr] at HD
  clear r0 r1 r2 r3 r4 r5 f0 f1 f2 f3 f4 f5
  clear htw HB HC w2
  have HB := HD
  clear HD
  subst hr
  obtain ⟨⟨r0, r1, r2, r3, r4, r5⟩, ⟨f0, f1, f2, f3, f4, f5⟩, ⟨g0, g1, g2, g3, g4, g5⟩, ⟨z0, z1, z2, z3, z4, z5⟩⟩ := wr_facts HB.out
  go_wp2
  exact bodyPost_ret (v := numV ⟨tv, tm, A.a, A.b, A.c, A.d⟩) (by unfold numV; simp [results, Try.results60, go_sem, z0, z1, z2, z3, z4, z5]) rfl ⟨by rw [← HA.out, ← HT.out, ← HM.out]; rfl, below_out HB.out.2.2.2.2 _ _ _ _ _ _⟩
set_option maxHeartbeats 1000000 in
theorem xr_and (a b : K) (one : Bool) (c k : B64) (w : World) : Calls Try.prog 55 #[pairV a b one c k] w (Gives (numV (rowAnd a b)) w) := by
  have hR := Lib.hid (wr2_new w a b one c k)
  unfold Gives pairV pairC
  unfold pairC at hR
  have hun := fun W => xr_unknown W
  unfold numV at hun
  obtain ⟨A, hA⟩ : ∃ A, allK = A := ⟨_, rfl⟩
  rw [hA] at hun
  have HA := Lib.hid hA
  clear hA
  go_enter Try.func55, Try.ntmps55
  go_upto_region 2 with (go_at_call 29; refine (hun _).mono ?_; rintro e w1 ⟨rfl, hb⟩; have HB := Lib.hid (wr_new hR.out hb A); clear hb)
  generalize w1.alloc _ = W at HB ⊢
  generalize w1.heap.size = m at HB ⊢
  clear hun hR w1
  have htw := fun W => and_tnum a.v a.m b.v b.m W
  obtain ⟨tv, ht⟩ : ∃ t, twoV 2 a.v a.m b.v b.m = t := ⟨_, rfl⟩
  obtain ⟨tm, hm⟩ : ∃ t, twoM 2 a.v a.m b.v b.m = t := ⟨_, rfl⟩
  rw [ht, hm] at htw
  have HT := Lib.hid ht
  have HM := Lib.hid hm
  clear ht hm
  unfold tnV at htw
  obtain ⟨⟨p0, p1, p2, p3, p4, p5⟩, ⟨q0, q1, q2, q3, q4, q5⟩, po, pc, pk⟩ := pair_cells HB.out.1
  go_upto_region 3 with (go_at_call 76; refine (htw _).mono ?_; rintro e w2 ⟨rfl, hb⟩; have HC := Lib.hid (wr_keep2 HB.out hb); clear hb; clear p0 p1 p2 p3 p4 p5 q0 q1 q2 q3 q4 q5 po pc pk; obtain ⟨⟨r0, r1, r2, r3, r4, r5⟩, ⟨f0, f1, f2, f3, f4, f5⟩, -, -⟩ := wr_facts HC.out)
  have HD := Lib.hid (wr_vm HC.out tv tm)
  generalize World.setCell _ _ _ = W2 at HD ⊢
  obtain ⟨r, hr⟩ : ∃ r, (⟨tv, tm, A.a, A.b, A.c, A.d⟩ : K) = r := ⟨_, rfl⟩
  rw [hr] at HD
  clear r0 r1 r2 r3 r4 r5 f0 f1 f2 f3 f4 f5
  clear htw HB HC w2
  have HB := HD
  clear HD
  obtain ⟨⟨p0, p1, p2, p3, p4, p5⟩, ⟨q0, q1, q2, q3, q4, q5⟩, po, pc, pk⟩ := pair_cells HB.out.1
  obtain ⟨⟨r0, r1, r2, r3, r4, r5⟩, ⟨f0, f1, f2, f3, f4, f5⟩, -, -⟩ := wr_facts HB.out
  go_upto_region 4 with fail
  have HD := Lib.hid (wr_b HB.out (minU a.b b.b))
  generalize World.setCell _ _ _ = W3 at HD ⊢
  clear p0 p1 p2 p3 p4 p5 q0 q1 q2 q3 q4 q5 po pc pk
  clear r0 r1 r2 r3 r4 r5 f0 f1 f2 f3 f4 f5
  clear HB
  have HB := HD
  clear HD
  subst hr
  obtain ⟨⟨r0, r1, r2, r3, r4, r5⟩, ⟨f0, f1, f2, f3, f4, f5⟩, ⟨g0, g1, g2, g3, g4, g5⟩, ⟨z0, z1, z2, z3, z4, z5⟩⟩ := wr_facts HB.out
  go_wp2
  exact bodyPost_ret (v := numV ⟨tv, tm, A.a, minU a.b b.b, A.c, A.d⟩) (by unfold numV; simp [results, Try.results55, go_sem, z0, z1, z2, z3, z4, z5]) rfl ⟨by rw [← HA.out, ← HT.out, ← HM.out]; rfl, below_out HB.out.2.2.2.2 _ _ _ _ _ _⟩
set_option maxHeartbeats 1000000 in
theorem xr_or (a b : K) (one : Bool) (c k : B64) (w : World) : Calls Try.prog 54 #[pairV a b one c k] w (Gives (numV (rowOr a b)) w) := by
  have hR := Lib.hid (wr2_new w a b one c k)
  unfold Gives pairV pairC
  unfold pairC at hR
  have hun := fun W => xr_unknown W
  unfold numV at hun
  obtain ⟨A, hA⟩ : ∃ A, allK = A := ⟨_, rfl⟩
  rw [hA] at hun
  have HA := Lib.hid hA
  clear hA
  go_enter Try.func54, Try.ntmps54
  go_upto_region 2 with (go_at_call 29; refine (hun _).mono ?_; rintro e w1 ⟨rfl, hb⟩; have HB := Lib.hid (wr_new hR.out hb A); clear hb)
  generalize w1.alloc _ = W at HB ⊢
  generalize w1.heap.size = m at HB ⊢
  clear hun hR w1
  have htw := fun W => or_tnum a.v a.m b.v b.m W
  obtain ⟨tv, ht⟩ : ∃ t, twoV 3 a.v a.m b.v b.m = t := ⟨_, rfl⟩
  obtain ⟨tm, hm⟩ : ∃ t, twoM 3 a.v a.m b.v b.m = t := ⟨_, rfl⟩
  rw [ht, hm] at htw
  have HT := Lib.hid ht
  have HM := Lib.hid hm
  clear ht hm
  unfold tnV at htw
  obtain ⟨⟨p0, p1, p2, p3, p4, p5⟩, ⟨q0, q1, q2, q3, q4, q5⟩, po, pc, pk⟩ := pair_cells HB.out.1
  go_upto_region 3 with (go_at_call 75; refine (htw _).mono ?_; rintro e w2 ⟨rfl, hb⟩; have HC := Lib.hid (wr_keep2 HB.out hb); clear hb; clear p0 p1 p2 p3 p4 p5 q0 q1 q2 q3 q4 q5 po pc pk; obtain ⟨⟨r0, r1, r2, r3, r4, r5⟩, ⟨f0, f1, f2, f3, f4, f5⟩, -, -⟩ := wr_facts HC.out)
  have HD := Lib.hid (wr_vm HC.out tv tm)
  generalize World.setCell _ _ _ = W2 at HD ⊢
  obtain ⟨r, hr⟩ : ∃ r, (⟨tv, tm, A.a, A.b, A.c, A.d⟩ : K) = r := ⟨_, rfl⟩
  rw [hr] at HD
  clear r0 r1 r2 r3 r4 r5 f0 f1 f2 f3 f4 f5
  clear htw HB HC w2
  have HB := HD
  clear HD
  obtain ⟨⟨p0, p1, p2, p3, p4, p5⟩, ⟨q0, q1, q2, q3, q4, q5⟩, po, pc, pk⟩ := pair_cells HB.out.1
  obtain ⟨⟨r0, r1, r2, r3, r4, r5⟩, ⟨f0, f1, f2, f3, f4, f5⟩, -, -⟩ := wr_facts HB.out
  go_upto_region 4 with fail
  have HD := Lib.hid (wr_a HB.out (maxU a.a b.a))
  generalize World.setCell _ _ _ = W3 at HD ⊢
  clear p0 p1 p2 p3 p4 p5 q0 q1 q2 q3 q4 q5 po pc pk
  clear r0 r1 r2 r3 r4 r5 f0 f1 f2 f3 f4 f5
  clear HB
  have HB := HD
  clear HD
  subst hr
  obtain ⟨⟨r0, r1, r2, r3, r4, r5⟩, ⟨f0, f1, f2, f3, f4, f5⟩, ⟨g0, g1, g2, g3, g4, g5⟩, ⟨z0, z1, z2, z3, z4, z5⟩⟩ := wr_facts HB.out
  go_wp2
  exact bodyPost_ret (v := numV ⟨tv, tm, maxU a.a b.a, A.b, A.c, A.d⟩) (by unfold numV; simp [results, Try.results54, go_sem, z0, z1, z2, z3, z4, z5]) rfl ⟨by rw [← HA.out, ← HT.out, ← HM.out]; rfl, below_out HB.out.2.2.2.2 _ _ _ _ _ _⟩
theorem xr_mov (a b : K) (one : Bool) (c k : B64) (w : World) : Calls Try.prog 61 #[pairV a b one c k] w (Gives (numV b) w) := by
  have hR := wr2_new w a b one c k
  have hl := hR.2.2.2
  unfold Gives pairV pairC
  unfold pairC at hR hl
  have HB := Lib.hid hl
  clear hR hl
  go_enter Try.func61, Try.ntmps61
  go_wp2
  exact bodyPost_ret (v := numV b) (by unfold numV; simp [results, Try.results61, go_sem]) rfl ⟨rfl, (below_box _ _).alloc (by simp) _⟩
theorem xr_none (a b : K) (one : Bool) (c k : B64) (w : World) : Calls Try.prog 28 #[pairV a b one c k] w (Gives (numV allK) w) := by
  have hR := Lib.hid (wr2_new w a b one c k)
  unfold Gives pairV pairC
  unfold pairC at hR
  have hun := fun W => xr_unknown W
  unfold numV at hun
  obtain ⟨A, hA⟩ : ∃ A, allK = A := ⟨_, rfl⟩
  rw [hA] at hun ⊢
  clear hA
  go_enter Try.func28, Try.ntmps28
  go_wp2_with (go_at_call 29; refine (hun _).mono ?_; rintro e w1 ⟨rfl, hb⟩; have H1 := Lib.hid (out_keep hR.out.2.1 hb); have H2 := Lib.hid (hR.out.2.2.2.trans (hb.mono (by rw [hR.out.2.2.1]; omega))); obtain ⟨f0, f1, f2, f3, f4, f5⟩ := out_free H1.out; obtain ⟨z0, z1, z2, z3, z4, z5⟩ := out_cells H1.out; clear hb)
  exact bodyPost_ret (v := numV A) (by unfold numV; simp [results, Try.results28, go_sem, z0, z1, z2, z3, z4, z5]) rfl ⟨rfl, below_out H2.out _ _ _ _ _ _⟩
end Go.Proofs.Ytogadmlnmcojpaa

/-
  Proved here: rows of package xfer: Mul, Div, Mod. Conditions: none.
-/
namespace Go.Proofs.Ytogadmlnmcojpaa
open Go.RowKit
attribute [local go_sem] u_and u_or u_xor u_andNot u_add u_sub s_conv u_conv max_u min_u max_s min_s
theorem u_mul (x y : B64) : IntKind.u64.wrap (u x * u y) = u (x * y) := by rw [wrap_u, u_mulv]
theorem u_div2 (x y : B64) : IntKind.u64.wrap ((u x).tdiv (u y)) = u (x / y) := by
  have h := u_bd (x / y)
  rw [wrap_u, Int.tdiv_eq_ediv_of_nonneg (u_bd x).1, ← u_divv]
  omega
attribute [local go_sem] u_mul u_div2
theorem mul_yes {a b : K} (h1 : u a.b ≤ 4294967295) (h2 : u b.b ≤ 4294967295) : mulU a b = true := by
  unfold mulU
  rw [Bool.and_eq_true, decide_eq_true_eq, decide_eq_true_eq]
  omega
theorem mul_no {a b : K} (h : ¬ u a.b ≤ 4294967295 ∨ ¬ u b.b ≤ 4294967295) : mulU a b = false := by
  unfold mulU
  rw [Bool.and_eq_false_iff, decide_eq_false_iff_not, decide_eq_false_iff_not]
  omega
set_option maxHeartbeats 2000000 in
theorem xr_mul_yes (a b : K) (one : Bool) (c k : B64) (w : World) (h1 : u a.b ≤ 4294967295) (h2 : u b.b ≤ 4294967295) : Calls Try.prog 52 #[pairV a b one c k] w (Gives (numV (rowMul a b)) w) := by
  have hR := Lib.hid (wr2_new w a b one c k)
  unfold Gives pairV pairC
  unfold pairC at hR
  have hun := fun W => xr_unknown W
  unfold numV at hun
  obtain ⟨A, hA⟩ : ∃ A, allK = A := ⟨_, rfl⟩
  rw [hA] at hun
  have HA := Lib.hid hA
  clear hA
  go_enter Try.func52, Try.ntmps52
  go_upto_region 2 with (go_at_call 29; refine (hun _).mono ?_; rintro e w1 ⟨rfl, hb⟩; have HB := Lib.hid (wr_new hR.out hb A); clear hb)
  generalize w1.alloc _ = W at HB ⊢
  generalize w1.heap.size = m at HB ⊢
  clear hun hR w1
  obtain ⟨⟨p0, p1, p2, p3, p4, p5⟩, ⟨q0, q1, q2, q3, q4, q5⟩, po, pc, pk⟩ := pair_cells HB.out.1
  go_upto_region 3 with fail
  obtain ⟨⟨r0, r1, r2, r3, r4, r5⟩, ⟨f0, f1, f2, f3, f4, f5⟩, -, -⟩ := wr_facts HB.out
  go_region
  all_goals
    have HD := Lib.hid (wr_drew (wr_ab HB.out (a.a * b.a) (a.b * b.b)))
    generalize World.drew _ = W3 at HD ⊢
    clear p0 p1 p2 p3 p4 p5 q0 q1 q2 q3 q4 q5 po pc pk
    clear r0 r1 r2 r3 r4 r5 f0 f1 f2 f3 f4 f5
    clear HB
    have HB := HD
    clear HD
    obtain ⟨⟨r0, r1, r2, r3, r4, r5⟩, ⟨f0, f1, f2, f3, f4, f5⟩, ⟨g0, g1, g2, g3, g4, g5⟩, ⟨z0, z1, z2, z3, z4, z5⟩⟩ := wr_facts HB.out
    go_wp2
    exact bodyPost_ret (v := numV ⟨A.v, A.m, a.a * b.a, a.b * b.b, A.c, A.d⟩) (by unfold numV; simp [results, Try.results52, go_sem, z0, z1, z2, z3, z4, z5]) rfl ⟨by rw [← HA.out]; unfold rowMul; rw [mul_yes h1 h2]; rfl, below_out HB.out.2.2.2.2 _ _ _ _ _ _⟩
set_option maxHeartbeats 2000000 in
theorem xr_mul_no1 (a b : K) (one : Bool) (c k : B64) (w : World) (h1 : ¬ u a.b ≤ 4294967295) : Calls Try.prog 52 #[pairV a b one c k] w (Gives (numV (rowMul a b)) w) := by
  have hR := Lib.hid (wr2_new w a b one c k)
  unfold Gives pairV pairC
  unfold pairC at hR
  have hun := fun W => xr_unknown W
  unfold numV at hun
  obtain ⟨A, hA⟩ : ∃ A, allK = A := ⟨_, rfl⟩
  rw [hA] at hun
  have HA := Lib.hid hA
  clear hA
  go_enter Try.func52, Try.ntmps52
  go_upto_region 2 with (go_at_call 29; refine (hun _).mono ?_; rintro e w1 ⟨rfl, hb⟩; have HB := Lib.hid (wr_new hR.out hb A); clear hb)
  generalize w1.alloc _ = W at HB ⊢
  generalize w1.heap.size = m at HB ⊢
  clear hun hR w1
  obtain ⟨⟨p0, p1, p2, p3, p4, p5⟩, ⟨q0, q1, q2, q3, q4, q5⟩, po, pc, pk⟩ := pair_cells HB.out.1
  go_upto_region 4 with fail
  obtain ⟨⟨r0, r1, r2, r3, r4, r5⟩, ⟨f0, f1, f2, f3, f4, f5⟩, ⟨g0, g1, g2, g3, g4, g5⟩, ⟨z0, z1, z2, z3, z4, z5⟩⟩ := wr_facts HB.out
  go_wp2
  exact bodyPost_ret (v := numV A) (by unfold numV; simp [results, Try.results52, go_sem, z0, z1, z2, z3, z4, z5]) rfl ⟨by rw [← HA.out]; unfold rowMul; rw [mul_no (.inl (by omega))]; rfl, below_out HB.out.2.2.2.2 _ _ _ _ _ _⟩
set_option maxHeartbeats 2000000 in
theorem xr_mul_no2 (a b : K) (one : Bool) (c k : B64) (w : World) (h1 : u a.b ≤ 4294967295) (h2 : ¬ u b.b ≤ 4294967295) : Calls Try.prog 52 #[pairV a b one c k] w (Gives (numV (rowMul a b)) w) := by
  have hR := Lib.hid (wr2_new w a b one c k)
  unfold Gives pairV pairC
  unfold pairC at hR
  have hun := fun W => xr_unknown W
  unfold numV at hun
  obtain ⟨A, hA⟩ : ∃ A, allK = A := ⟨_, rfl⟩
  rw [hA] at hun
  have HA := Lib.hid hA
  clear hA
  go_enter Try.func52, Try.ntmps52
  go_upto_region 2 with (go_at_call 29; refine (hun _).mono ?_; rintro e w1 ⟨rfl, hb⟩; have HB := Lib.hid (wr_new hR.out hb A); clear hb)
  generalize w1.alloc _ = W at HB ⊢
  generalize w1.heap.size = m at HB ⊢
  clear hun hR w1
  obtain ⟨⟨p0, p1, p2, p3, p4, p5⟩, ⟨q0, q1, q2, q3, q4, q5⟩, po, pc, pk⟩ := pair_cells HB.out.1
  go_upto_region 4 with fail
  obtain ⟨⟨r0, r1, r2, r3, r4, r5⟩, ⟨f0, f1, f2, f3, f4, f5⟩, ⟨g0, g1, g2, g3, g4, g5⟩, ⟨z0, z1, z2, z3, z4, z5⟩⟩ := wr_facts HB.out
  go_wp2
  exact bodyPost_ret (v := numV A) (by unfold numV; simp [results, Try.results52, go_sem, z0, z1, z2, z3, z4, z5]) rfl ⟨by rw [← HA.out]; unfold rowMul; rw [mul_no (.inr (by omega))]; rfl, below_out HB.out.2.2.2.2 _ _ _ _ _ _⟩
theorem xr_mul (a b : K) (one : Bool) (c k : B64) (w : World) : Calls Try.prog 52 #[pairV a b one c k] w (Gives (numV (rowMul a b)) w) := by
  by_cases h1 : u a.b ≤ 4294967295
  · by_cases h2 : u b.b ≤ 4294967295
    · exact xr_mul_yes a b one c k w h1 h2
    · exact xr_mul_no2 a b one c k w h1 h2
  · exact xr_mul_no1 a b one c k w h1
set_option maxHeartbeats 2000000 in
theorem xr_div_yes (a b : K) (one : Bool) (c k : B64) (w : World) (h1 : 0 < u c) : Calls Try.prog 53 #[pairV a b one c k] w (Gives (numV (⟨0#64, full, a.a / c, a.b / c, half, most⟩)) w) := by
  have hR := Lib.hid (wr2_new w a b one c k)
  unfold Gives pairV pairC
  unfold pairC at hR
  have hun := fun W => xr_unknown W
  unfold numV at hun
  obtain ⟨A, hA⟩ : ∃ A, allK = A := ⟨_, rfl⟩
  rw [hA] at hun
  have HA := Lib.hid hA
  clear hA
  go_enter Try.func53, Try.ntmps53
  go_upto_region 2 with (go_at_call 29; refine (hun _).mono ?_; rintro e w1 ⟨rfl, hb⟩; have HB := Lib.hid (wr_new hR.out hb A); clear hb)
  generalize w1.alloc _ = W at HB ⊢
  generalize w1.heap.size = m at HB ⊢
  clear hun hR w1
  obtain ⟨⟨p0, p1, p2, p3, p4, p5⟩, ⟨q0, q1, q2, q3, q4, q5⟩, po, pc, pk⟩ := pair_cells HB.out.1
  obtain ⟨⟨r0, r1, r2, r3, r4, r5⟩, ⟨f0, f1, f2, f3, f4, f5⟩, -, -⟩ := wr_facts HB.out
  go_upto_region 3 with fail
  have HD := Lib.hid (wr_b HB.out (a.b))
  generalize World.setCell _ _ _ = W3 at HD ⊢
  obtain ⟨r, hr⟩ : ∃ r, (⟨A.v, A.m, A.a, a.b, A.c, A.d⟩ : K) = r := ⟨_, rfl⟩
  rw [hr] at HD
  clear p0 p1 p2 p3 p4 p5 q0 q1 q2 q3 q4 q5 po pc pk
  clear r0 r1 r2 r3 r4 r5 f0 f1 f2 f3 f4 f5
  clear HB
  have HB := HD
  clear HD
  obtain ⟨⟨p0, p1, p2, p3, p4, p5⟩, ⟨q0, q1, q2, q3, q4, q5⟩, po, pc, pk⟩ := pair_cells HB.out.1
  go_upto_region 4 with fail
  have h0 : ¬ u c = 0 := by omega
  obtain ⟨⟨r0, r1, r2, r3, r4, r5⟩, ⟨f0, f1, f2, f3, f4, f5⟩, -, -⟩ := wr_facts HB.out
  go_region
  all_goals
    have HD := Lib.hid (wr_drew (wr_ab HB.out (a.a / c) (a.b / c)))
    generalize World.drew _ = W3 at HD ⊢
    clear p0 p1 p2 p3 p4 p5 q0 q1 q2 q3 q4 q5 po pc pk
    clear r0 r1 r2 r3 r4 r5 f0 f1 f2 f3 f4 f5
    clear HB
    have HB := HD
    clear HD
    subst hr
    obtain ⟨⟨r0, r1, r2, r3, r4, r5⟩, ⟨f0, f1, f2, f3, f4, f5⟩, ⟨g0, g1, g2, g3, g4, g5⟩, ⟨z0, z1, z2, z3, z4, z5⟩⟩ := wr_facts HB.out
    go_wp2
    exact bodyPost_ret (v := numV ⟨A.v, A.m, a.a / c, a.b / c, A.c, A.d⟩) (by unfold numV; simp [results, Try.results53, go_sem, z0, z1, z2, z3, z4, z5]) rfl ⟨by rw [← HA.out]; rfl, below_out HB.out.2.2.2.2 _ _ _ _ _ _⟩
set_option maxHeartbeats 2000000 in
theorem xr_div_no (a b : K) (one : Bool) (c k : B64) (w : World) (h1 : ¬ 0 < u c) : Calls Try.prog 53 #[pairV a b one c k] w (Gives (numV (⟨0#64, full, 0#64, a.b, half, most⟩)) w) := by
  have hR := Lib.hid (wr2_new w a b one c k)
  unfold Gives pairV pairC
  unfold pairC at hR
  have hun := fun W => xr_unknown W
  unfold numV at hun
  obtain ⟨A, hA⟩ : ∃ A, allK = A := ⟨_, rfl⟩
  rw [hA] at hun
  have HA := Lib.hid hA
  clear hA
  go_enter Try.func53, Try.ntmps53
  go_upto_region 2 with (go_at_call 29; refine (hun _).mono ?_; rintro e w1 ⟨rfl, hb⟩; have HB := Lib.hid (wr_new hR.out hb A); clear hb)
  generalize w1.alloc _ = W at HB ⊢
  generalize w1.heap.size = m at HB ⊢
  clear hun hR w1
  obtain ⟨⟨p0, p1, p2, p3, p4, p5⟩, ⟨q0, q1, q2, q3, q4, q5⟩, po, pc, pk⟩ := pair_cells HB.out.1
  obtain ⟨⟨r0, r1, r2, r3, r4, r5⟩, ⟨f0, f1, f2, f3, f4, f5⟩, -, -⟩ := wr_facts HB.out
  go_upto_region 3 with fail
  have HD := Lib.hid (wr_b HB.out (a.b))
  generalize World.setCell _ _ _ = W3 at HD ⊢
  obtain ⟨r, hr⟩ : ∃ r, (⟨A.v, A.m, A.a, a.b, A.c, A.d⟩ : K) = r := ⟨_, rfl⟩
  rw [hr] at HD
  clear p0 p1 p2 p3 p4 p5 q0 q1 q2 q3 q4 q5 po pc pk
  clear r0 r1 r2 r3 r4 r5 f0 f1 f2 f3 f4 f5
  clear HB
  have HB := HD
  clear HD
  obtain ⟨⟨p0, p1, p2, p3, p4, p5⟩, ⟨q0, q1, q2, q3, q4, q5⟩, po, pc, pk⟩ := pair_cells HB.out.1
  go_upto_region 5 with fail
  subst hr
  obtain ⟨⟨r0, r1, r2, r3, r4, r5⟩, ⟨f0, f1, f2, f3, f4, f5⟩, ⟨g0, g1, g2, g3, g4, g5⟩, ⟨z0, z1, z2, z3, z4, z5⟩⟩ := wr_facts HB.out
  go_wp2
  exact bodyPost_ret (v := numV ⟨A.v, A.m, A.a, a.b, A.c, A.d⟩) (by unfold numV; simp [results, Try.results53, go_sem, z0, z1, z2, z3, z4, z5]) rfl ⟨by rw [← HA.out]; rfl, below_out HB.out.2.2.2.2 _ _ _ _ _ _⟩
set_option maxHeartbeats 2000000 in
theorem xr_mod_yes (a b : K) (one : Bool) (c k : B64) (w : World) (h1 : 0 < u c) : Calls Try.prog 59 #[pairV a b one c k] w (Gives (numV (⟨0#64, full, 0#64, minU a.b (c - 1#64), half, most⟩)) w) := by
  have hR := Lib.hid (wr2_new w a b one c k)
  unfold Gives pairV pairC
  unfold pairC at hR
  have hun := fun W => xr_unknown W
  unfold numV at hun
  obtain ⟨A, hA⟩ : ∃ A, allK = A := ⟨_, rfl⟩
  rw [hA] at hun
  have HA := Lib.hid hA
  clear hA
  go_enter Try.func59, Try.ntmps59
  go_upto_region 2 with (go_at_call 29; refine (hun _).mono ?_; rintro e w1 ⟨rfl, hb⟩; have HB := Lib.hid (wr_new hR.out hb A); clear hb)
  generalize w1.alloc _ = W at HB ⊢
  generalize w1.heap.size = m at HB ⊢
  clear hun hR w1
  obtain ⟨⟨p0, p1, p2, p3, p4, p5⟩, ⟨q0, q1, q2, q3, q4, q5⟩, po, pc, pk⟩ := pair_cells HB.out.1
  obtain ⟨⟨r0, r1, r2, r3, r4, r5⟩, ⟨f0, f1, f2, f3, f4, f5⟩, -, -⟩ := wr_facts HB.out
  go_upto_region 3 with fail
  have HD := Lib.hid (wr_b HB.out (a.b))
  generalize World.setCell _ _ _ = W3 at HD ⊢
  obtain ⟨r, hr⟩ : ∃ r, (⟨A.v, A.m, A.a, a.b, A.c, A.d⟩ : K) = r := ⟨_, rfl⟩
  rw [hr] at HD
  clear p0 p1 p2 p3 p4 p5 q0 q1 q2 q3 q4 q5 po pc pk
  clear r0 r1 r2 r3 r4 r5 f0 f1 f2 f3 f4 f5
  clear HB
  have HB := HD
  clear HD
  obtain ⟨⟨p0, p1, p2, p3, p4, p5⟩, ⟨q0, q1, q2, q3, q4, q5⟩, po, pc, pk⟩ := pair_cells HB.out.1
  have e1 : IntKind.u64.wrap (u c - 1) = u (c - 1#64) := u_sub c 1#64
  go_upto_region 4 with fail
  obtain ⟨⟨r0, r1, r2, r3, r4, r5⟩, ⟨f0, f1, f2, f3, f4, f5⟩, -, -⟩ := wr_facts HB.out
  go_upto_region 5 with fail
  have HD := Lib.hid (wr_b HB.out (minU a.b (c - 1#64)))
  generalize World.setCell _ _ _ = W4 at HD ⊢
  clear p0 p1 p2 p3 p4 p5 q0 q1 q2 q3 q4 q5 po pc pk
  clear r0 r1 r2 r3 r4 r5 f0 f1 f2 f3 f4 f5
  clear HB
  have HB := HD
  clear HD
  subst hr
  obtain ⟨⟨r0, r1, r2, r3, r4, r5⟩, ⟨f0, f1, f2, f3, f4, f5⟩, ⟨g0, g1, g2, g3, g4, g5⟩, ⟨z0, z1, z2, z3, z4, z5⟩⟩ := wr_facts HB.out
  go_wp2
  exact bodyPost_ret (v := numV ⟨A.v, A.m, A.a, minU a.b (c - 1#64), A.c, A.d⟩) (by unfold numV; simp [results, Try.results59, go_sem, z0, z1, z2, z3, z4, z5]) rfl ⟨by rw [← HA.out]; rfl, below_out HB.out.2.2.2.2 _ _ _ _ _ _⟩
set_option maxHeartbeats 2000000 in
theorem xr_mod_no (a b : K) (one : Bool) (c k : B64) (w : World) (h1 : ¬ 0 < u c) : Calls Try.prog 59 #[pairV a b one c k] w (Gives (numV (⟨0#64, full, 0#64, a.b, half, most⟩)) w) := by
  have hR := Lib.hid (wr2_new w a b one c k)
  unfold Gives pairV pairC
  unfold pairC at hR
  have hun := fun W => xr_unknown W
  unfold numV at hun
  obtain ⟨A, hA⟩ : ∃ A, allK = A := ⟨_, rfl⟩
  rw [hA] at hun
  have HA := Lib.hid hA
  clear hA
  go_enter Try.func59, Try.ntmps59
  go_upto_region 2 with (go_at_call 29; refine (hun _).mono ?_; rintro e w1 ⟨rfl, hb⟩; have HB := Lib.hid (wr_new hR.out hb A); clear hb)
  generalize w1.alloc _ = W at HB ⊢
  generalize w1.heap.size = m at HB ⊢
  clear hun hR w1
  obtain ⟨⟨p0, p1, p2, p3, p4, p5⟩, ⟨q0, q1, q2, q3, q4, q5⟩, po, pc, pk⟩ := pair_cells HB.out.1
  obtain ⟨⟨r0, r1, r2, r3, r4, r5⟩, ⟨f0, f1, f2, f3, f4, f5⟩, -, -⟩ := wr_facts HB.out
  go_upto_region 3 with fail
  have HD := Lib.hid (wr_b HB.out (a.b))
  generalize World.setCell _ _ _ = W3 at HD ⊢
  obtain ⟨r, hr⟩ : ∃ r, (⟨A.v, A.m, A.a, a.b, A.c, A.d⟩ : K) = r := ⟨_, rfl⟩
  rw [hr] at HD
  clear p0 p1 p2 p3 p4 p5 q0 q1 q2 q3 q4 q5 po pc pk
  clear r0 r1 r2 r3 r4 r5 f0 f1 f2 f3 f4 f5
  clear HB
  have HB := HD
  clear HD
  obtain ⟨⟨p0, p1, p2, p3, p4, p5⟩, ⟨q0, q1, q2, q3, q4, q5⟩, po, pc, pk⟩ := pair_cells HB.out.1
  go_upto_region 5 with fail
  subst hr
  obtain ⟨⟨r0, r1, r2, r3, r4, r5⟩, ⟨f0, f1, f2, f3, f4, f5⟩, ⟨g0, g1, g2, g3, g4, g5⟩, ⟨z0, z1, z2, z3, z4, z5⟩⟩ := wr_facts HB.out
  go_wp2
  exact bodyPost_ret (v := numV ⟨A.v, A.m, A.a, a.b, A.c, A.d⟩) (by unfold numV; simp [results, Try.results59, go_sem, z0, z1, z2, z3, z4, z5]) rfl ⟨by rw [← HA.out]; rfl, below_out HB.out.2.2.2.2 _ _ _ _ _ _⟩
theorem xr_div (a b : K) (one : Bool) (c k : B64) (w : World) (h : one = false → c = 0#64) : Calls Try.prog 53 #[pairV a b one c k] w (Gives (numV (rowDiv a one c)) w) := by
  have e : divU one c = decide (0 < u c) := by
    unfold divU
    cases one
    · rw [h rfl]; rfl
    · rfl
  unfold rowDiv
  rw [e]
  by_cases h1 : 0 < u c
  · rw [decide_eq_true h1]; exact xr_div_yes a b one c k w h1
  · rw [decide_eq_false h1]; exact xr_div_no a b one c k w h1
theorem xr_mod (a b : K) (one : Bool) (c k : B64) (w : World) (h : one = false → c = 0#64) : Calls Try.prog 59 #[pairV a b one c k] w (Gives (numV (rowMod a one c)) w) := by
  have e : divU one c = decide (0 < u c) := by
    unfold divU
    cases one
    · rw [h rfl]; rfl
    · rfl
  unfold rowMod
  rw [e]
  by_cases h1 : 0 < u c
  · rw [decide_eq_true h1]; exact xr_mod_yes a b one c k w h1
  · rw [decide_eq_false h1]; exact xr_mod_no a b one c k w h1
end Go.Proofs.Ytogadmlnmcojpaa

/-
  Proved here: rows of package xfer: Lsh, Rsh, Arsh. Conditions: none.
-/
namespace Go.Proofs.Ytogadmlnmcojpaa
open Go.RowKit
theorem u_toNat (x : B64) : (u x).toNat = x.toNat := rfl
theorem wrap_shr (x : B64) (k : Nat) : IntKind.u64.wrap (u x / 2 ^ k) = u (x >>> k) := by
  have h := u_bd (x >>> k)
  rw [u_shr, wrap_u]
  omega
theorem wrap_uu (x : B64) : IntKind.u64.wrap (u x) = u x := by
  have h := u_bd x
  rw [wrap_u]
  omega
theorem wrap_ss (x : B64) : IntKind.i64.wrap (s x) = s x := by
  have h := s_bd x
  rw [wrap_s]
  omega
theorem s_sar2 (x : B64) (k : Nat) : s x / 2 ^ k = s (x.sshiftRight k) := (s_sar x k).symm
theorem wrap_sar (x : B64) (k : Nat) : IntKind.i64.wrap (s x / 2 ^ k) = s (x.sshiftRight k) := by
  have h := s_bd (x.sshiftRight k)
  rw [s_sar2, wrap_s]
  omega
attribute [local go_sem] u_and u_or u_xor u_andNot u_add u_sub s_conv u_conv max_u min_u max_s min_s u_shl u_shr wrap_shr s_sar2 wrap_sar u_toNat wrap_uu wrap_ss
theorem s_00 : s 0#64 = 0 := rfl
theorem s_m1 : s full = -1 := by decide
theorem wrap_64 {k : B64} (h : k.toNat < 64) : IntKind.u64.wrap (64 - u k) = 64 - u k := by
  rw [wrap_u]
  unfold u
  omega
theorem to_64 (k : B64) : (64 - u k).toNat = 64 - k.toNat := by
  unfold u
  omega
set_option maxHeartbeats 2000000 in
theorem xr_lsh_none (a b : K) (c k : B64) (w : World) : Calls Try.prog 56 #[pairV a b false c k] w (Gives (numV (allK)) w) := by
  have hR := Lib.hid (wr2_new w a b false c k)
  unfold Gives pairV pairC
  unfold pairC at hR
  have hun := fun W => xr_unknown W
  unfold numV at hun
  obtain ⟨A, hA⟩ : ∃ A, allK = A := ⟨_, rfl⟩
  rw [hA] at hun
  have HA := Lib.hid hA
  clear hA
  go_enter Try.func56, Try.ntmps56
  go_upto_region 2 with (go_at_call 29; refine (hun _).mono ?_; rintro e w1 ⟨rfl, hb⟩; have HB := Lib.hid (wr_new hR.out hb A); clear hb)
  generalize w1.alloc _ = W at HB ⊢
  generalize w1.heap.size = m at HB ⊢
  clear hun hR w1
  obtain ⟨⟨p0, p1, p2, p3, p4, p5⟩, ⟨q0, q1, q2, q3, q4, q5⟩, po, pc, pk⟩ := pair_cells HB.out.1
  go_upto_region 3 with fail
  obtain ⟨⟨r0, r1, r2, r3, r4, r5⟩, ⟨f0, f1, f2, f3, f4, f5⟩, ⟨g0, g1, g2, g3, g4, g5⟩, ⟨z0, z1, z2, z3, z4, z5⟩⟩ := wr_facts HB.out
  go_wp2
  exact bodyPost_ret (v := numV A) (by unfold numV; simp [results, Try.results56, go_sem, z0, z1, z2, z3, z4, z5]) rfl ⟨by rw [HA.out], below_out HB.out.2.2.2.2 _ _ _ _ _ _⟩
set_option maxHeartbeats 2000000 in
theorem xr_lsh_yes (a b : K) (c k : B64) (w : World) (hk : k.toNat < 64) (h1 : u (a.b >>> (64 - k.toNat)) = 0) : Calls Try.prog 56 #[pairV a b true c k] w (Gives (numV (⟨pv (shX 0 a.v k.toNat) (shX 0 a.m k.toNat), shX 0 a.m k.toNat, a.a <<< k.toNat, a.b <<< k.toNat, half, most⟩)) w) := by
  have hR := Lib.hid (wr2_new w a b true c k)
  unfold Gives pairV pairC
  unfold pairC at hR
  have hun := fun W => xr_unknown W
  unfold numV at hun
  obtain ⟨A, hA⟩ : ∃ A, allK = A := ⟨_, rfl⟩
  rw [hA] at hun
  have HA := Lib.hid hA
  clear hA
  go_enter Try.func56, Try.ntmps56
  go_upto_region 2 with (go_at_call 29; refine (hun _).mono ?_; rintro e w1 ⟨rfl, hb⟩; have HB := Lib.hid (wr_new hR.out hb A); clear hb)
  generalize w1.alloc _ = W at HB ⊢
  generalize w1.heap.size = m at HB ⊢
  clear hun hR w1
  obtain ⟨⟨p0, p1, p2, p3, p4, p5⟩, ⟨q0, q1, q2, q3, q4, q5⟩, po, pc, pk⟩ := pair_cells HB.out.1
  have htw := fun W => lsh_tnum a.v a.m k W
  rw [Nat.mod_eq_of_lt hk] at htw
  obtain ⟨tv, ht⟩ : ∃ t, pv (shX 0 a.v k.toNat) (shX 0 a.m k.toNat) = t := ⟨_, rfl⟩
  obtain ⟨tm, hm⟩ : ∃ t, shX 0 a.m k.toNat = t := ⟨_, rfl⟩
  rw [ht, hm] at htw
  have HT := Lib.hid ht
  have HM := Lib.hid hm
  clear ht hm
  unfold tnV at htw
  go_upto_region 5 with (go_at_call 77; refine (htw _).mono ?_; rintro e w2 ⟨rfl, hb⟩; have HC := Lib.hid (wr_keep2 HB.out hb); clear hb; clear p0 p1 p2 p3 p4 p5 q0 q1 q2 q3 q4 q5 po pc pk; obtain ⟨⟨r0, r1, r2, r3, r4, r5⟩, ⟨f0, f1, f2, f3, f4, f5⟩, -, -⟩ := wr_facts HC.out)
  have HD := Lib.hid (wr_vm HC.out tv tm)
  generalize World.setCell _ _ _ = W2 at HD ⊢
  obtain ⟨r, hr⟩ : ∃ r, (⟨tv, tm, A.a, A.b, A.c, A.d⟩ : K) = r := ⟨_, rfl⟩
  rw [hr] at HD
  clear r0 r1 r2 r3 r4 r5 f0 f1 f2 f3 f4 f5
  clear htw HB HC w2
  have HB := HD
  clear HD
  obtain ⟨⟨p0, p1, p2, p3, p4, p5⟩, ⟨q0, q1, q2, q3, q4, q5⟩, po, pc, pk⟩ := pair_cells HB.out.1
  have e1 : IntKind.u64.wrap (64 - u k) = 64 - u k := wrap_64 hk
  have e2 : (64 - u k).toNat = 64 - k.toNat := to_64 k
  go_upto_region 6 with fail
  obtain ⟨⟨r0, r1, r2, r3, r4, r5⟩, ⟨f0, f1, f2, f3, f4, f5⟩, -, -⟩ := wr_facts HB.out
  go_region
  all_goals
    have HD := Lib.hid (wr_drew (wr_ab HB.out (a.a <<< k.toNat) (a.b <<< k.toNat)))
    generalize World.drew _ = W3 at HD ⊢
    clear p0 p1 p2 p3 p4 p5 q0 q1 q2 q3 q4 q5 po pc pk
    clear r0 r1 r2 r3 r4 r5 f0 f1 f2 f3 f4 f5
    clear HB
    have HB := HD
    clear HD
    subst hr
    obtain ⟨⟨r0, r1, r2, r3, r4, r5⟩, ⟨f0, f1, f2, f3, f4, f5⟩, ⟨g0, g1, g2, g3, g4, g5⟩, ⟨z0, z1, z2, z3, z4, z5⟩⟩ := wr_facts HB.out
    go_wp2
    exact bodyPost_ret (v := numV ⟨tv, tm, a.a <<< k.toNat, a.b <<< k.toNat, A.c, A.d⟩) (by unfold numV; simp [results, Try.results56, go_sem, z0, z1, z2, z3, z4, z5]) rfl ⟨by rw [← HA.out, ← HT.out, ← HM.out]; rfl, below_out HB.out.2.2.2.2 _ _ _ _ _ _⟩
set_option maxHeartbeats 2000000 in
theorem xr_lsh_no (a b : K) (c k : B64) (w : World) (hk : k.toNat < 64) (h1 : ¬ u (a.b >>> (64 - k.toNat)) = 0) : Calls Try.prog 56 #[pairV a b true c k] w (Gives (numV (⟨pv (shX 0 a.v k.toNat) (shX 0 a.m k.toNat), shX 0 a.m k.toNat, 0#64, full, half, most⟩)) w) := by
  have hR := Lib.hid (wr2_new w a b true c k)
  unfold Gives pairV pairC
  unfold pairC at hR
  have hun := fun W => xr_unknown W
  unfold numV at hun
  obtain ⟨A, hA⟩ : ∃ A, allK = A := ⟨_, rfl⟩
  rw [hA] at hun
  have HA := Lib.hid hA
  clear hA
  go_enter Try.func56, Try.ntmps56
  go_upto_region 2 with (go_at_call 29; refine (hun _).mono ?_; rintro e w1 ⟨rfl, hb⟩; have HB := Lib.hid (wr_new hR.out hb A); clear hb)
  generalize w1.alloc _ = W at HB ⊢
  generalize w1.heap.size = m at HB ⊢
  clear hun hR w1
  obtain ⟨⟨p0, p1, p2, p3, p4, p5⟩, ⟨q0, q1, q2, q3, q4, q5⟩, po, pc, pk⟩ := pair_cells HB.out.1
  have htw := fun W => lsh_tnum a.v a.m k W
  rw [Nat.mod_eq_of_lt hk] at htw
  obtain ⟨tv, ht⟩ : ∃ t, pv (shX 0 a.v k.toNat) (shX 0 a.m k.toNat) = t := ⟨_, rfl⟩
  obtain ⟨tm, hm⟩ : ∃ t, shX 0 a.m k.toNat = t := ⟨_, rfl⟩
  rw [ht, hm] at htw
  have HT := Lib.hid ht
  have HM := Lib.hid hm
  clear ht hm
  unfold tnV at htw
  go_upto_region 5 with (go_at_call 77; refine (htw _).mono ?_; rintro e w2 ⟨rfl, hb⟩; have HC := Lib.hid (wr_keep2 HB.out hb); clear hb; clear p0 p1 p2 p3 p4 p5 q0 q1 q2 q3 q4 q5 po pc pk; obtain ⟨⟨r0, r1, r2, r3, r4, r5⟩, ⟨f0, f1, f2, f3, f4, f5⟩, -, -⟩ := wr_facts HC.out)
  have HD := Lib.hid (wr_vm HC.out tv tm)
  generalize World.setCell _ _ _ = W2 at HD ⊢
  obtain ⟨r, hr⟩ : ∃ r, (⟨tv, tm, A.a, A.b, A.c, A.d⟩ : K) = r := ⟨_, rfl⟩
  rw [hr] at HD
  clear r0 r1 r2 r3 r4 r5 f0 f1 f2 f3 f4 f5
  clear htw HB HC w2
  have HB := HD
  clear HD
  obtain ⟨⟨p0, p1, p2, p3, p4, p5⟩, ⟨q0, q1, q2, q3, q4, q5⟩, po, pc, pk⟩ := pair_cells HB.out.1
  have e1 : IntKind.u64.wrap (64 - u k) = 64 - u k := wrap_64 hk
  have e2 : (64 - u k).toNat = 64 - k.toNat := to_64 k
  go_upto_region 7 with fail
  subst hr
  obtain ⟨⟨r0, r1, r2, r3, r4, r5⟩, ⟨f0, f1, f2, f3, f4, f5⟩, ⟨g0, g1, g2, g3, g4, g5⟩, ⟨z0, z1, z2, z3, z4, z5⟩⟩ := wr_facts HB.out
  go_wp2
  exact bodyPost_ret (v := numV ⟨tv, tm, A.a, A.b, A.c, A.d⟩) (by unfold numV; simp [results, Try.results56, go_sem, z0, z1, z2, z3, z4, z5]) rfl ⟨by rw [← HA.out, ← HT.out, ← HM.out]; rfl, below_out HB.out.2.2.2.2 _ _ _ _ _ _⟩
set_option maxHeartbeats 2000000 in
theorem xr_rsh_none (a b : K) (c k : B64) (w : World) : Calls Try.prog 57 #[pairV a b false c k] w (Gives (numV (⟨0#64, full, 0#64, a.b, half, most⟩)) w) := by
  have hR := Lib.hid (wr2_new w a b false c k)
  unfold Gives pairV pairC
  unfold pairC at hR
  have hun := fun W => xr_unknown W
  unfold numV at hun
  obtain ⟨A, hA⟩ : ∃ A, allK = A := ⟨_, rfl⟩
  rw [hA] at hun
  have HA := Lib.hid hA
  clear hA
  go_enter Try.func57, Try.ntmps57
  go_upto_region 2 with (go_at_call 29; refine (hun _).mono ?_; rintro e w1 ⟨rfl, hb⟩; have HB := Lib.hid (wr_new hR.out hb A); clear hb)
  generalize w1.alloc _ = W at HB ⊢
  generalize w1.heap.size = m at HB ⊢
  clear hun hR w1
  obtain ⟨⟨p0, p1, p2, p3, p4, p5⟩, ⟨q0, q1, q2, q3, q4, q5⟩, po, pc, pk⟩ := pair_cells HB.out.1
  obtain ⟨⟨r0, r1, r2, r3, r4, r5⟩, ⟨f0, f1, f2, f3, f4, f5⟩, -, -⟩ := wr_facts HB.out
  go_upto_region 4 with fail
  have HD := Lib.hid (wr_b HB.out (a.b))
  generalize World.setCell _ _ _ = W3 at HD ⊢
  obtain ⟨r, hr⟩ : ∃ r, (⟨A.v, A.m, A.a, a.b, A.c, A.d⟩ : K) = r := ⟨_, rfl⟩
  rw [hr] at HD
  clear p0 p1 p2 p3 p4 p5 q0 q1 q2 q3 q4 q5 po pc pk
  clear r0 r1 r2 r3 r4 r5 f0 f1 f2 f3 f4 f5
  clear HB
  have HB := HD
  clear HD
  subst hr
  obtain ⟨⟨r0, r1, r2, r3, r4, r5⟩, ⟨f0, f1, f2, f3, f4, f5⟩, ⟨g0, g1, g2, g3, g4, g5⟩, ⟨z0, z1, z2, z3, z4, z5⟩⟩ := wr_facts HB.out
  go_wp2
  exact bodyPost_ret (v := numV ⟨A.v, A.m, A.a, a.b, A.c, A.d⟩) (by unfold numV; simp [results, Try.results57, go_sem, z0, z1, z2, z3, z4, z5]) rfl ⟨by rw [← HA.out]; rfl, below_out HB.out.2.2.2.2 _ _ _ _ _ _⟩
set_option maxHeartbeats 2000000 in
theorem xr_rsh_one (a b : K) (c k : B64) (w : World) (hk : k.toNat < 64) : Calls Try.prog 57 #[pairV a b true c k] w (Gives (numV (⟨pv (shX 1 a.v k.toNat) (shX 1 a.m k.toNat), shX 1 a.m k.toNat, a.a >>> k.toNat, a.b >>> k.toNat, half, most⟩)) w) := by
  have hR := Lib.hid (wr2_new w a b true c k)
  unfold Gives pairV pairC
  unfold pairC at hR
  have hun := fun W => xr_unknown W
  unfold numV at hun
  obtain ⟨A, hA⟩ : ∃ A, allK = A := ⟨_, rfl⟩
  rw [hA] at hun
  have HA := Lib.hid hA
  clear hA
  go_enter Try.func57, Try.ntmps57
  go_upto_region 2 with (go_at_call 29; refine (hun _).mono ?_; rintro e w1 ⟨rfl, hb⟩; have HB := Lib.hid (wr_new hR.out hb A); clear hb)
  generalize w1.alloc _ = W at HB ⊢
  generalize w1.heap.size = m at HB ⊢
  clear hun hR w1
  obtain ⟨⟨p0, p1, p2, p3, p4, p5⟩, ⟨q0, q1, q2, q3, q4, q5⟩, po, pc, pk⟩ := pair_cells HB.out.1
  have htw := fun W => rsh_tnum a.v a.m k W
  rw [Nat.mod_eq_of_lt hk] at htw
  obtain ⟨tv, ht⟩ : ∃ t, pv (shX 1 a.v k.toNat) (shX 1 a.m k.toNat) = t := ⟨_, rfl⟩
  obtain ⟨tm, hm⟩ : ∃ t, shX 1 a.m k.toNat = t := ⟨_, rfl⟩
  rw [ht, hm] at htw
  have HT := Lib.hid ht
  have HM := Lib.hid hm
  clear ht hm
  unfold tnV at htw
  go_upto_region 6 with (go_at_call 78; refine (htw _).mono ?_; rintro e w2 ⟨rfl, hb⟩; have HC := Lib.hid (wr_keep2 HB.out hb); clear hb; clear p0 p1 p2 p3 p4 p5 q0 q1 q2 q3 q4 q5 po pc pk; obtain ⟨⟨r0, r1, r2, r3, r4, r5⟩, ⟨f0, f1, f2, f3, f4, f5⟩, -, -⟩ := wr_facts HC.out)
  have HD := Lib.hid (wr_vm HC.out tv tm)
  generalize World.setCell _ _ _ = W2 at HD ⊢
  obtain ⟨r, hr⟩ : ∃ r, (⟨tv, tm, A.a, A.b, A.c, A.d⟩ : K) = r := ⟨_, rfl⟩
  rw [hr] at HD
  clear r0 r1 r2 r3 r4 r5 f0 f1 f2 f3 f4 f5
  clear htw HB HC w2
  have HB := HD
  clear HD
  obtain ⟨⟨p0, p1, p2, p3, p4, p5⟩, ⟨q0, q1, q2, q3, q4, q5⟩, po, pc, pk⟩ := pair_cells HB.out.1
  have k0 := u_bd k
  have m0 : min k.toNat 64 = k.toNat := by omega
  obtain ⟨⟨r0, r1, r2, r3, r4, r5⟩, ⟨f0, f1, f2, f3, f4, f5⟩, -, -⟩ := wr_facts HB.out
  go_region
  all_goals
    have HD := Lib.hid (wr_drew (wr_ab HB.out (a.a >>> k.toNat) (a.b >>> k.toNat)))
    generalize World.drew _ = W3 at HD ⊢
    clear p0 p1 p2 p3 p4 p5 q0 q1 q2 q3 q4 q5 po pc pk
    clear r0 r1 r2 r3 r4 r5 f0 f1 f2 f3 f4 f5
    clear HB
    have HB := HD
    clear HD
    subst hr
    obtain ⟨⟨r0, r1, r2, r3, r4, r5⟩, ⟨f0, f1, f2, f3, f4, f5⟩, ⟨g0, g1, g2, g3, g4, g5⟩, ⟨z0, z1, z2, z3, z4, z5⟩⟩ := wr_facts HB.out
    go_wp2
    exact bodyPost_ret (v := numV ⟨tv, tm, a.a >>> k.toNat, a.b >>> k.toNat, A.c, A.d⟩) (by unfold numV; simp [results, Try.results57, go_sem, z0, z1, z2, z3, z4, z5]) rfl ⟨by rw [← HA.out, ← HT.out, ← HM.out]; rfl, below_out HB.out.2.2.2.2 _ _ _ _ _ _⟩
set_option maxHeartbeats 2000000 in
theorem xr_arsh_none (a b : K) (c k : B64) (w : World) : Calls Try.prog 62 #[pairV a b false c k] w (Gives (numV (⟨0#64, full, 0#64, full, minS a.c 0#64, maxS a.d full⟩)) w) := by
  have hR := Lib.hid (wr2_new w a b false c k)
  unfold Gives pairV pairC
  unfold pairC at hR
  have hun := fun W => xr_unknown W
  unfold numV at hun
  obtain ⟨A, hA⟩ : ∃ A, allK = A := ⟨_, rfl⟩
  rw [hA] at hun
  have HA := Lib.hid hA
  clear hA
  go_enter Try.func62, Try.ntmps62
  go_upto_region 2 with (go_at_call 29; refine (hun _).mono ?_; rintro e w1 ⟨rfl, hb⟩; have HB := Lib.hid (wr_new hR.out hb A); clear hb)
  generalize w1.alloc _ = W at HB ⊢
  generalize w1.heap.size = m at HB ⊢
  clear hun hR w1
  obtain ⟨⟨p0, p1, p2, p3, p4, p5⟩, ⟨q0, q1, q2, q3, q4, q5⟩, po, pc, pk⟩ := pair_cells HB.out.1
  have e1 : min (s a.c) 0 = s (minS a.c 0#64) := by rw [← min_s, s_00]
  have e2 : max (s a.d) (-1) = s (maxS a.d full) := by rw [← max_s, s_m1]
  obtain ⟨X, hX⟩ : ∃ X, minS a.c 0#64 = X := ⟨_, rfl⟩
  obtain ⟨Y, hY⟩ : ∃ Y, maxS a.d full = Y := ⟨_, rfl⟩
  rw [hX] at e1
  rw [hY] at e2
  have HX := Lib.hid hX
  have HY := Lib.hid hY
  clear hX hY
  go_upto_region 3 with fail
  obtain ⟨⟨r0, r1, r2, r3, r4, r5⟩, ⟨f0, f1, f2, f3, f4, f5⟩, -, -⟩ := wr_facts HB.out
  obtain ⟨x0, hx0⟩ : ∃ t, s a.c = t := ⟨_, rfl⟩
  obtain ⟨x1, hx1⟩ : ∃ t, s a.d = t := ⟨_, rfl⟩
  obtain ⟨x2, hx2⟩ : ∃ t, s A.c = t := ⟨_, rfl⟩
  obtain ⟨x3, hx3⟩ : ∃ t, s A.d = t := ⟨_, rfl⟩
  obtain ⟨x4, hx4⟩ : ∃ t, s X = t := ⟨_, rfl⟩
  obtain ⟨x5, hx5⟩ : ∃ t, s Y = t := ⟨_, rfl⟩
  rw [hx0, hx4] at e1
  rw [hx1, hx5] at e2
  rw [hx0] at p4
  rw [hx1] at p5
  rw [hx2] at r4
  rw [hx3] at r5
  have H4 := Lib.hid hx4
  have H5 := Lib.hid hx5
  clear hx0 hx1 hx2 hx3 hx4 hx5
  go_region
  all_goals
    have HD := wr_drew (wr_cd HB.out X Y)
    rw [H4.out, H5.out] at HD
    have HD := Lib.hid HD
    generalize World.drew _ = W3 at HD ⊢
    clear p0 p1 p2 p3 p4 p5 q0 q1 q2 q3 q4 q5 po pc pk
    clear r0 r1 r2 r3 r4 r5 f0 f1 f2 f3 f4 f5
    clear HB e1 e2
    have HB := HD
    clear HD
    obtain ⟨⟨r0, r1, r2, r3, r4, r5⟩, ⟨f0, f1, f2, f3, f4, f5⟩, ⟨g0, g1, g2, g3, g4, g5⟩, ⟨z0, z1, z2, z3, z4, z5⟩⟩ := wr_facts HB.out
    go_wp2
    exact bodyPost_ret (v := numV ⟨A.v, A.m, A.a, A.b, X, Y⟩) (by unfold numV; simp [results, Try.results62, go_sem, z0, z1, z2, z3, z4, z5]) rfl ⟨by rw [← HA.out, HX.out, HY.out]; rfl, below_out HB.out.2.2.2.2 _ _ _ _ _ _⟩
set_option maxHeartbeats 2000000 in
theorem xr_arsh_one (a b : K) (c k : B64) (w : World) (hk : k.toNat < 64) : Calls Try.prog 62 #[pairV a b true c k] w (Gives (numV (⟨pv (shX 2 a.v k.toNat) (shX 2 a.m k.toNat), shX 2 a.m k.toNat, 0#64, full, a.c.sshiftRight k.toNat, a.d.sshiftRight k.toNat⟩)) w) := by
  have hR := Lib.hid (wr2_new w a b true c k)
  unfold Gives pairV pairC
  unfold pairC at hR
  have hun := fun W => xr_unknown W
  unfold numV at hun
  obtain ⟨A, hA⟩ : ∃ A, allK = A := ⟨_, rfl⟩
  rw [hA] at hun
  have HA := Lib.hid hA
  clear hA
  go_enter Try.func62, Try.ntmps62
  go_upto_region 2 with (go_at_call 29; refine (hun _).mono ?_; rintro e w1 ⟨rfl, hb⟩; have HB := Lib.hid (wr_new hR.out hb A); clear hb)
  generalize w1.alloc _ = W at HB ⊢
  generalize w1.heap.size = m at HB ⊢
  clear hun hR w1
  obtain ⟨⟨p0, p1, p2, p3, p4, p5⟩, ⟨q0, q1, q2, q3, q4, q5⟩, po, pc, pk⟩ := pair_cells HB.out.1
  have htw := fun W => arsh_tnum a.v a.m k W
  rw [Nat.mod_eq_of_lt hk] at htw
  obtain ⟨tv, ht⟩ : ∃ t, pv (shX 2 a.v k.toNat) (shX 2 a.m k.toNat) = t := ⟨_, rfl⟩
  obtain ⟨tm, hm⟩ : ∃ t, shX 2 a.m k.toNat = t := ⟨_, rfl⟩
  rw [ht, hm] at htw
  have HT := Lib.hid ht
  have HM := Lib.hid hm
  clear ht hm
  unfold tnV at htw
  go_upto_region 6 with (go_at_call 80; refine (htw _).mono ?_; rintro e w2 ⟨rfl, hb⟩; have HC := Lib.hid (wr_keep2 HB.out hb); clear hb; clear p0 p1 p2 p3 p4 p5 q0 q1 q2 q3 q4 q5 po pc pk; obtain ⟨⟨r0, r1, r2, r3, r4, r5⟩, ⟨f0, f1, f2, f3, f4, f5⟩, -, -⟩ := wr_facts HC.out)
  have HD := Lib.hid (wr_vm HC.out tv tm)
  generalize World.setCell _ _ _ = W2 at HD ⊢
  obtain ⟨r, hr⟩ : ∃ r, (⟨tv, tm, A.a, A.b, A.c, A.d⟩ : K) = r := ⟨_, rfl⟩
  rw [hr] at HD
  clear r0 r1 r2 r3 r4 r5 f0 f1 f2 f3 f4 f5
  clear htw HB HC w2
  have HB := HD
  clear HD
  obtain ⟨⟨p0, p1, p2, p3, p4, p5⟩, ⟨q0, q1, q2, q3, q4, q5⟩, po, pc, pk⟩ := pair_cells HB.out.1
  have k0 := u_bd k
  have m0 : min k.toNat 64 = k.toNat := by omega
  have e1 : s a.c / 2 ^ k.toNat = s (a.c.sshiftRight k.toNat) := (s_sar _ _).symm
  have e2 : s a.d / 2 ^ k.toNat = s (a.d.sshiftRight k.toNat) := (s_sar _ _).symm
  obtain ⟨X, hX⟩ : ∃ X, a.c.sshiftRight k.toNat = X := ⟨_, rfl⟩
  obtain ⟨Y, hY⟩ : ∃ Y, a.d.sshiftRight k.toNat = Y := ⟨_, rfl⟩
  rw [hX] at e1
  rw [hY] at e2
  have HX := Lib.hid hX
  have HY := Lib.hid hY
  clear hX hY
  obtain ⟨⟨r0, r1, r2, r3, r4, r5⟩, ⟨f0, f1, f2, f3, f4, f5⟩, -, -⟩ := wr_facts HB.out
  obtain ⟨x0, hx0⟩ : ∃ t, s a.c = t := ⟨_, rfl⟩
  obtain ⟨x1, hx1⟩ : ∃ t, s a.d = t := ⟨_, rfl⟩
  obtain ⟨x2, hx2⟩ : ∃ t, s r.c = t := ⟨_, rfl⟩
  obtain ⟨x3, hx3⟩ : ∃ t, s r.d = t := ⟨_, rfl⟩
  obtain ⟨x4, hx4⟩ : ∃ t, s X = t := ⟨_, rfl⟩
  obtain ⟨x5, hx5⟩ : ∃ t, s Y = t := ⟨_, rfl⟩
  rw [hx0, hx4] at e1
  rw [hx1, hx5] at e2
  rw [hx0] at p4
  rw [hx1] at p5
  rw [hx2] at r4
  rw [hx3] at r5
  have H4 := Lib.hid hx4
  have H5 := Lib.hid hx5
  clear hx0 hx1 hx2 hx3 hx4 hx5
  go_region
  all_goals
    have HD := wr_drew (wr_cd HB.out X Y)
    rw [H4.out, H5.out] at HD
    have HD := Lib.hid HD
    generalize World.drew _ = W3 at HD ⊢
    clear p0 p1 p2 p3 p4 p5 q0 q1 q2 q3 q4 q5 po pc pk
    clear r0 r1 r2 r3 r4 r5 f0 f1 f2 f3 f4 f5
    clear HB e1 e2
    have HB := HD
    clear HD
    subst hr
    obtain ⟨⟨r0, r1, r2, r3, r4, r5⟩, ⟨f0, f1, f2, f3, f4, f5⟩, ⟨g0, g1, g2, g3, g4, g5⟩, ⟨z0, z1, z2, z3, z4, z5⟩⟩ := wr_facts HB.out
    go_wp2
    exact bodyPost_ret (v := numV ⟨tv, tm, A.a, A.b, X, Y⟩) (by unfold numV; simp [results, Try.results62, go_sem, z0, z1, z2, z3, z4, z5]) rfl ⟨by rw [← HA.out, ← HT.out, ← HM.out, HX.out, HY.out]; rfl, below_out HB.out.2.2.2.2 _ _ _ _ _ _⟩
theorem lsh_dec (a : K) (k : B64) : lshU a k.toNat = decide (u (a.b >>> (64 - k.toNat)) = 0) := by
  unfold lshU
  rw [decide_eq_decide, ← u_shr]
  have p0 : (0 : Int) < 2 ^ (64 - k.toNat) := Int.pow_pos (by decide)
  have hb := u_bd a.b
  constructor
  · exact fun g => Int.ediv_eq_zero_of_lt hb.1 g
  · intro g
    have h1 := Int.mul_ediv_add_emod (u a.b) (2 ^ (64 - k.toNat))
    have h2 := Int.emod_lt_of_pos (u a.b) p0
    rw [g, Int.mul_zero] at h1
    omega
theorem xr_lsh (a b : K) (one : Bool) (c k : B64) (w : World) (hk : k.toNat < 64) : Calls Try.prog 56 #[pairV a b one c k] w (Gives (numV (rowLsh a one k.toNat)) w) := by
  unfold rowLsh
  cases one
  · rw [if_neg Bool.false_ne_true]; exact xr_lsh_none a b c k w
  · rw [if_pos rfl, lsh_dec a k]
    by_cases h : u (a.b >>> (64 - k.toNat)) = 0
    · rw [decide_eq_true h, if_pos rfl, if_pos rfl]; exact xr_lsh_yes a b c k w hk h
    · rw [decide_eq_false h, if_neg Bool.false_ne_true, if_neg Bool.false_ne_true]; exact xr_lsh_no a b c k w hk h
theorem xr_rsh (a b : K) (one : Bool) (c k : B64) (w : World) (hk : k.toNat < 64) : Calls Try.prog 57 #[pairV a b one c k] w (Gives (numV (rowRsh a one k.toNat)) w) := by
  unfold rowRsh
  cases one
  · rw [if_neg Bool.false_ne_true]; exact xr_rsh_none a b c k w
  · rw [if_pos rfl]; exact xr_rsh_one a b c k w hk
theorem xr_arsh (a b : K) (one : Bool) (c k : B64) (w : World) (hk : k.toNat < 64) : Calls Try.prog 62 #[pairV a b one c k] w (Gives (numV (rowArsh a one true k.toNat)) w) := by
  unfold rowArsh
  rw [if_neg (by decide)]
  cases one
  · rw [if_neg Bool.false_ne_true]; exact xr_arsh_none a b c k w
  · rw [if_pos rfl]; exact xr_arsh_one a b c k w hk
end Go.Proofs.Ytogadmlnmcojpaa

/-
  Proved here: rows of package xfer: Add. Conditions: none.
-/
namespace Go.Proofs.Ytogadmlnmcojpaa
open Go.RowKit
attribute [local go_sem] u_and u_or u_xor u_andNot u_add u_sub s_conv u_conv max_u min_u max_s min_s
theorem s_addw (x y : B64) : IntKind.i64.wrap (s x + s y) = s (x + y) := by
  have hx := u_bd x
  have hy := u_bd y
  have e1 : s x = u x ∨ s x = u x - 18446744073709551616 := by rw [s_eq]; split <;> omega
  have e2 : s y = u y ∨ s y = u y - 18446744073709551616 := by rw [s_eq]; split <;> omega
  rw [wrap_s, s_eq (x + y), u_addv]
  split <;> omega
theorem s_subw (x y : B64) : IntKind.i64.wrap (s x - s y) = s (x - y) := by
  have hx := u_bd x
  have hy := u_bd y
  have e1 : s x = u x ∨ s x = u x - 18446744073709551616 := by rw [s_eq]; split <;> omega
  have e2 : s y = u y ∨ s y = u y - 18446744073709551616 := by rw [s_eq]; split <;> omega
  rw [wrap_s, s_eq (x - y), u_subv]
  split <;> omega
theorem sum_fit (x y : B64) : (decide (s (x + y) < s x) == decide (s y < 0)) = fitS (s x + s y) := by
  have hx := s_bd x
  have hy := s_bd y
  rw [← s_addw, wrap_s, Bool.eq_iff_iff, fit_iff, beq_iff_eq, decide_eq_decide]
  omega
theorem dif_fit (x y : B64) : (decide (s (x - y) < s x) == decide (0 < s y)) = fitS (s x - s y) := by
  have hx := s_bd x
  have hy := s_bd y
  rw [← s_subw, wrap_s, Bool.eq_iff_iff, fit_iff, beq_iff_eq, decide_eq_decide]
  omega
theorem sum_x (x y : B64) (w : World) : Calls Try.prog 72 #[.int .i64 (s x), .int .i64 (s y)] w (Ret (.tuple #[.int .i64 (s (x + y)), .bool (fitS (s x + s y))]) w) := by
  have e1 := s_addw x y
  have e2 := sum_fit x y
  unfold Ret
  obtain ⟨z, hz⟩ : ∃ t, s (x + y) = t := ⟨_, rfl⟩
  obtain ⟨a, ha⟩ : ∃ t, s x = t := ⟨_, rfl⟩
  obtain ⟨b, hb⟩ : ∃ t, s y = t := ⟨_, rfl⟩
  rw [hz] at e1 e2 ⊢
  rw [ha, hb] at e1 e2 ⊢
  rw [← e2]
  clear hz ha hb e2
  go_enter Try.func72, Try.ntmps72
  go_wp2
  go_ret2
  exact ⟨rfl, rfl⟩
theorem dif_x (x y : B64) (w : World) : Calls Try.prog 74 #[.int .i64 (s x), .int .i64 (s y)] w (Ret (.tuple #[.int .i64 (s (x - y)), .bool (fitS (s x - s y))]) w) := by
  have e1 := s_subw x y
  have e2 := dif_fit x y
  unfold Ret
  obtain ⟨z, hz⟩ : ∃ t, s (x - y) = t := ⟨_, rfl⟩
  obtain ⟨a, ha⟩ : ∃ t, s x = t := ⟨_, rfl⟩
  obtain ⟨b, hb⟩ : ∃ t, s y = t := ⟨_, rfl⟩
  rw [hz] at e1 e2 ⊢
  rw [ha, hb] at e1 e2 ⊢
  rw [← e2]
  clear hz ha hb e2
  go_enter Try.func74, Try.ntmps74
  go_wp2
  go_ret2
  exact ⟨rfl, rfl⟩
theorem add64_x (x y : B64) (w : World) : (callFunc 71 #[.int .u64 (u x), .int .u64 (u y), .int .u64 0]).run Try.prog w = .ok (.value (.tuple #[.int .u64 (u (x + y)), .int .u64 ((u x + u y) / 18446744073709551616)])) w := by
  have hx := u_bd x
  have hy := u_bd y
  rw [run_callFunc_extern Try.func71 (by kernel_rfl) (by kernel_rfl) (by kernel_rfl) (e := add64Entry) (by kernel_rfl), run_add64 (u x) (u y) 0 hx.1 hy.1 (Int.le_refl 0) (by decide)]
  simp only [Result.andThen, Int.add_zero]
  rw [u_addv]
set_option maxHeartbeats 4000000 in
theorem xr_add_u_yy (a b : K) (one : Bool) (c k : B64) (w : World) (hu : u a.b + u b.b ≤ 18446744073709551615) (h1 : fitS (s a.c + s b.c) = true) (h2 : fitS (s a.d + s b.d) = true) : Calls Try.prog 50 #[pairV a b one c k] w (Gives (numV (⟨twoV 0 a.v a.m b.v b.m, twoM 0 a.v a.m b.v b.m, a.a + b.a, a.b + b.b, a.c + b.c, a.d + b.d⟩)) w) := by
  have hR := Lib.hid (wr2_new w a b one c k)
  unfold Gives pairV pairC
  unfold pairC at hR
  have hun := fun W => xr_unknown W
  unfold numV at hun
  obtain ⟨A, hA⟩ : ∃ A, allK = A := ⟨_, rfl⟩
  rw [hA] at hun
  have HA := Lib.hid hA
  clear hA
  go_enter Try.func50, Try.ntmps50
  go_upto_region 2 with (go_at_call 29; refine (hun _).mono ?_; rintro e w1 ⟨rfl, hb⟩; have HB := Lib.hid (wr_new hR.out hb A); clear hb)
  generalize w1.alloc _ = W at HB ⊢
  generalize w1.heap.size = m at HB ⊢
  clear hun hR w1
  have htw := fun W => add_tnum a.v a.m b.v b.m W
  obtain ⟨tv, ht⟩ : ∃ t, twoV 0 a.v a.m b.v b.m = t := ⟨_, rfl⟩
  obtain ⟨tm, hm⟩ : ∃ t, twoM 0 a.v a.m b.v b.m = t := ⟨_, rfl⟩
  rw [ht, hm] at htw
  have HT := Lib.hid ht
  have HM := Lib.hid hm
  clear ht hm
  unfold tnV at htw
  obtain ⟨⟨p0, p1, p2, p3, p4, p5⟩, ⟨q0, q1, q2, q3, q4, q5⟩, po, pc, pk⟩ := pair_cells HB.out.1
  go_upto_region 3 with (go_at_call 70; refine (htw _).mono ?_; rintro e w2 ⟨rfl, hb⟩; have HC := Lib.hid (wr_keep2 HB.out hb); clear hb; clear p0 p1 p2 p3 p4 p5 q0 q1 q2 q3 q4 q5 po pc pk; obtain ⟨⟨r0, r1, r2, r3, r4, r5⟩, ⟨f0, f1, f2, f3, f4, f5⟩, -, -⟩ := wr_facts HC.out)
  have HD := Lib.hid (wr_vm HC.out tv tm)
  generalize World.setCell _ _ _ = W2 at HD ⊢
  obtain ⟨r, hr⟩ : ∃ r, (⟨tv, tm, A.a, A.b, A.c, A.d⟩ : K) = r := ⟨_, rfl⟩
  rw [hr] at HD
  clear r0 r1 r2 r3 r4 r5 f0 f1 f2 f3 f4 f5
  clear htw HB HC w2
  have HB := HD
  clear HD
  obtain ⟨⟨p0, p1, p2, p3, p4, p5⟩, ⟨q0, q1, q2, q3, q4, q5⟩, po, pc, pk⟩ := pair_cells HB.out.1
  obtain ⟨⟨r0, r1, r2, r3, r4, r5⟩, ⟨f0, f1, f2, f3, f4, f5⟩, -, -⟩ := wr_facts HB.out
  have hadd := fun W => add64_x a.b b.b W
  have hov : (u a.b + u b.b) / 18446744073709551616 = 0 := by have := u_bd a.b; have := u_bd b.b; omega
  rw [hov] at hadd
  clear hov hu
  go_upto_region 5 with (simp only [hadd])
  go_upto_region 6 with fail
  have HD := Lib.hid (wr_ab HB.out (a.a + b.a) (a.b + b.b))
  generalize World.setCell _ _ _ = W3 at HD ⊢
  obtain ⟨q, hq⟩ : ∃ q, (⟨tv, tm, a.a + b.a, a.b + b.b, A.c, A.d⟩ : K) = q := ⟨_, rfl⟩
  subst hr
  rw [hq] at HD
  have hr := hq
  clear hq
  clear p0 p1 p2 p3 p4 p5 q0 q1 q2 q3 q4 q5 po pc pk
  clear r0 r1 r2 r3 r4 r5 f0 f1 f2 f3 f4 f5
  clear HB
  have HB := HD
  clear HD
  obtain ⟨⟨p0, p1, p2, p3, p4, p5⟩, ⟨q0, q1, q2, q3, q4, q5⟩, po, pc, pk⟩ := pair_cells HB.out.1
  have hs1 := fun W => sum_x a.c b.c W
  have hs2 := fun W => sum_x a.d b.d W
  rw [h1] at hs1
  rw [h2] at hs2
  clear h2
  clear h1
  obtain ⟨x0, hx0⟩ : ∃ t, s a.c = t := ⟨_, rfl⟩
  obtain ⟨x1, hx1⟩ : ∃ t, s a.d = t := ⟨_, rfl⟩
  obtain ⟨y0, hy0⟩ : ∃ t, s b.c = t := ⟨_, rfl⟩
  obtain ⟨y1, hy1⟩ : ∃ t, s b.d = t := ⟨_, rfl⟩
  obtain ⟨z0, hz0⟩ : ∃ t, s (a.c + b.c) = t := ⟨_, rfl⟩
  obtain ⟨z1, hz1⟩ : ∃ t, s (a.d + b.d) = t := ⟨_, rfl⟩
  rw [hx0] at p4 hs1
  rw [hx1] at p5 hs2
  rw [hy0] at q4 hs1
  rw [hy1] at q5 hs2
  rw [hz0] at hs1
  rw [hz1] at hs2
  have H0 := Lib.hid hz0
  have H1 := Lib.hid hz1
  clear hx0 hx1 hy0 hy1 hz0 hz1
  obtain ⟨⟨r0, r1, r2, r3, r4, r5⟩, ⟨f0, f1, f2, f3, f4, f5⟩, -, -⟩ := wr_facts HB.out
  go_upto_region 9 with (first | (go_at_call_of 72 (Value.int .i64 x0); refine (hs1 _).mono ?_; rintro e w7 ⟨rfl, rfl⟩) | (go_at_call_of 72 (Value.int .i64 x1); refine (hs2 _).mono ?_; rintro e w7 ⟨rfl, rfl⟩))
  go_upto_region 10 with fail
  have HD := wr_cd HB.out (a.c + b.c) (a.d + b.d)
  rw [H0.out, H1.out] at HD
  have HD := Lib.hid HD
  generalize World.setCell _ _ _ = W4 at HD ⊢
  clear p0 p1 p2 p3 p4 p5 q0 q1 q2 q3 q4 q5 po pc pk
  clear r0 r1 r2 r3 r4 r5 f0 f1 f2 f3 f4 f5
  clear HB hs1 hs2
  have HB := HD
  clear HD
  subst hr
  obtain ⟨⟨r0, r1, r2, r3, r4, r5⟩, ⟨f0, f1, f2, f3, f4, f5⟩, ⟨g0, g1, g2, g3, g4, g5⟩, ⟨z0, z1, z2, z3, z4, z5⟩⟩ := wr_facts HB.out
  go_wp2
  exact bodyPost_ret (v := numV ⟨tv, tm, a.a + b.a, a.b + b.b, a.c + b.c, a.d + b.d⟩) (by unfold numV; simp [results, Try.results50, go_sem, z0, z1, z2, z3, z4, z5]) rfl ⟨by rw [← HT.out, ← HM.out], below_out HB.out.2.2.2.2 _ _ _ _ _ _⟩
set_option maxHeartbeats 4000000 in
theorem xr_add_u_yn (a b : K) (one : Bool) (c k : B64) (w : World) (hu : u a.b + u b.b ≤ 18446744073709551615) (h1 : fitS (s a.c + s b.c) = true) (h2 : fitS (s a.d + s b.d) = false) : Calls Try.prog 50 #[pairV a b one c k] w (Gives (numV (⟨twoV 0 a.v a.m b.v b.m, twoM 0 a.v a.m b.v b.m, a.a + b.a, a.b + b.b, half, most⟩)) w) := by
  have hR := Lib.hid (wr2_new w a b one c k)
  unfold Gives pairV pairC
  unfold pairC at hR
  have hun := fun W => xr_unknown W
  unfold numV at hun
  obtain ⟨A, hA⟩ : ∃ A, allK = A := ⟨_, rfl⟩
  rw [hA] at hun
  have HA := Lib.hid hA
  clear hA
  go_enter Try.func50, Try.ntmps50
  go_upto_region 2 with (go_at_call 29; refine (hun _).mono ?_; rintro e w1 ⟨rfl, hb⟩; have HB := Lib.hid (wr_new hR.out hb A); clear hb)
  generalize w1.alloc _ = W at HB ⊢
  generalize w1.heap.size = m at HB ⊢
  clear hun hR w1
  have htw := fun W => add_tnum a.v a.m b.v b.m W
  obtain ⟨tv, ht⟩ : ∃ t, twoV 0 a.v a.m b.v b.m = t := ⟨_, rfl⟩
  obtain ⟨tm, hm⟩ : ∃ t, twoM 0 a.v a.m b.v b.m = t := ⟨_, rfl⟩
  rw [ht, hm] at htw
  have HT := Lib.hid ht
  have HM := Lib.hid hm
  clear ht hm
  unfold tnV at htw
  obtain ⟨⟨p0, p1, p2, p3, p4, p5⟩, ⟨q0, q1, q2, q3, q4, q5⟩, po, pc, pk⟩ := pair_cells HB.out.1
  go_upto_region 3 with (go_at_call 70; refine (htw _).mono ?_; rintro e w2 ⟨rfl, hb⟩; have HC := Lib.hid (wr_keep2 HB.out hb); clear hb; clear p0 p1 p2 p3 p4 p5 q0 q1 q2 q3 q4 q5 po pc pk; obtain ⟨⟨r0, r1, r2, r3, r4, r5⟩, ⟨f0, f1, f2, f3, f4, f5⟩, -, -⟩ := wr_facts HC.out)
  have HD := Lib.hid (wr_vm HC.out tv tm)
  generalize World.setCell _ _ _ = W2 at HD ⊢
  obtain ⟨r, hr⟩ : ∃ r, (⟨tv, tm, A.a, A.b, A.c, A.d⟩ : K) = r := ⟨_, rfl⟩
  rw [hr] at HD
  clear r0 r1 r2 r3 r4 r5 f0 f1 f2 f3 f4 f5
  clear htw HB HC w2
  have HB := HD
  clear HD
  obtain ⟨⟨p0, p1, p2, p3, p4, p5⟩, ⟨q0, q1, q2, q3, q4, q5⟩, po, pc, pk⟩ := pair_cells HB.out.1
  obtain ⟨⟨r0, r1, r2, r3, r4, r5⟩, ⟨f0, f1, f2, f3, f4, f5⟩, -, -⟩ := wr_facts HB.out
  have hadd := fun W => add64_x a.b b.b W
  have hov : (u a.b + u b.b) / 18446744073709551616 = 0 := by have := u_bd a.b; have := u_bd b.b; omega
  rw [hov] at hadd
  clear hov hu
  go_upto_region 5 with (simp only [hadd])
  go_upto_region 6 with fail
  have HD := Lib.hid (wr_ab HB.out (a.a + b.a) (a.b + b.b))
  generalize World.setCell _ _ _ = W3 at HD ⊢
  obtain ⟨q, hq⟩ : ∃ q, (⟨tv, tm, a.a + b.a, a.b + b.b, A.c, A.d⟩ : K) = q := ⟨_, rfl⟩
  subst hr
  rw [hq] at HD
  have hr := hq
  clear hq
  clear p0 p1 p2 p3 p4 p5 q0 q1 q2 q3 q4 q5 po pc pk
  clear r0 r1 r2 r3 r4 r5 f0 f1 f2 f3 f4 f5
  clear HB
  have HB := HD
  clear HD
  obtain ⟨⟨p0, p1, p2, p3, p4, p5⟩, ⟨q0, q1, q2, q3, q4, q5⟩, po, pc, pk⟩ := pair_cells HB.out.1
  have hs1 := fun W => sum_x a.c b.c W
  have hs2 := fun W => sum_x a.d b.d W
  rw [h1] at hs1
  rw [h2] at hs2
  clear h2
  clear h1
  obtain ⟨x0, hx0⟩ : ∃ t, s a.c = t := ⟨_, rfl⟩
  obtain ⟨x1, hx1⟩ : ∃ t, s a.d = t := ⟨_, rfl⟩
  obtain ⟨y0, hy0⟩ : ∃ t, s b.c = t := ⟨_, rfl⟩
  obtain ⟨y1, hy1⟩ : ∃ t, s b.d = t := ⟨_, rfl⟩
  obtain ⟨z0, hz0⟩ : ∃ t, s (a.c + b.c) = t := ⟨_, rfl⟩
  obtain ⟨z1, hz1⟩ : ∃ t, s (a.d + b.d) = t := ⟨_, rfl⟩
  rw [hx0] at p4 hs1
  rw [hx1] at p5 hs2
  rw [hy0] at q4 hs1
  rw [hy1] at q5 hs2
  rw [hz0] at hs1
  rw [hz1] at hs2
  have H0 := Lib.hid hz0
  have H1 := Lib.hid hz1
  clear hx0 hx1 hy0 hy1 hz0 hz1
  go_upto_region 10 with (first | (go_at_call_of 72 (Value.int .i64 x0); refine (hs1 _).mono ?_; rintro e w7 ⟨rfl, rfl⟩) | (go_at_call_of 72 (Value.int .i64 x1); refine (hs2 _).mono ?_; rintro e w7 ⟨rfl, rfl⟩))
  clear p0 p1 p2 p3 p4 p5 q0 q1 q2 q3 q4 q5 po pc pk
  clear hs1 hs2
  subst hr
  obtain ⟨⟨r0, r1, r2, r3, r4, r5⟩, ⟨f0, f1, f2, f3, f4, f5⟩, ⟨g0, g1, g2, g3, g4, g5⟩, ⟨z0, z1, z2, z3, z4, z5⟩⟩ := wr_facts HB.out
  go_wp2
  exact bodyPost_ret (v := numV ⟨tv, tm, a.a + b.a, a.b + b.b, A.c, A.d⟩) (by unfold numV; simp [results, Try.results50, go_sem, z0, z1, z2, z3, z4, z5]) rfl ⟨by rw [← HA.out, ← HT.out, ← HM.out]; rfl, below_out HB.out.2.2.2.2 _ _ _ _ _ _⟩
set_option maxHeartbeats 4000000 in
theorem xr_add_u_n (a b : K) (one : Bool) (c k : B64) (w : World) (hu : u a.b + u b.b ≤ 18446744073709551615) (h1 : fitS (s a.c + s b.c) = false) : Calls Try.prog 50 #[pairV a b one c k] w (Gives (numV (⟨twoV 0 a.v a.m b.v b.m, twoM 0 a.v a.m b.v b.m, a.a + b.a, a.b + b.b, half, most⟩)) w) := by
  have hR := Lib.hid (wr2_new w a b one c k)
  unfold Gives pairV pairC
  unfold pairC at hR
  have hun := fun W => xr_unknown W
  unfold numV at hun
  obtain ⟨A, hA⟩ : ∃ A, allK = A := ⟨_, rfl⟩
  rw [hA] at hun
  have HA := Lib.hid hA
  clear hA
  go_enter Try.func50, Try.ntmps50
  go_upto_region 2 with (go_at_call 29; refine (hun _).mono ?_; rintro e w1 ⟨rfl, hb⟩; have HB := Lib.hid (wr_new hR.out hb A); clear hb)
  generalize w1.alloc _ = W at HB ⊢
  generalize w1.heap.size = m at HB ⊢
  clear hun hR w1
  have htw := fun W => add_tnum a.v a.m b.v b.m W
  obtain ⟨tv, ht⟩ : ∃ t, twoV 0 a.v a.m b.v b.m = t := ⟨_, rfl⟩
  obtain ⟨tm, hm⟩ : ∃ t, twoM 0 a.v a.m b.v b.m = t := ⟨_, rfl⟩
  rw [ht, hm] at htw
  have HT := Lib.hid ht
  have HM := Lib.hid hm
  clear ht hm
  unfold tnV at htw
  obtain ⟨⟨p0, p1, p2, p3, p4, p5⟩, ⟨q0, q1, q2, q3, q4, q5⟩, po, pc, pk⟩ := pair_cells HB.out.1
  go_upto_region 3 with (go_at_call 70; refine (htw _).mono ?_; rintro e w2 ⟨rfl, hb⟩; have HC := Lib.hid (wr_keep2 HB.out hb); clear hb; clear p0 p1 p2 p3 p4 p5 q0 q1 q2 q3 q4 q5 po pc pk; obtain ⟨⟨r0, r1, r2, r3, r4, r5⟩, ⟨f0, f1, f2, f3, f4, f5⟩, -, -⟩ := wr_facts HC.out)
  have HD := Lib.hid (wr_vm HC.out tv tm)
  generalize World.setCell _ _ _ = W2 at HD ⊢
  obtain ⟨r, hr⟩ : ∃ r, (⟨tv, tm, A.a, A.b, A.c, A.d⟩ : K) = r := ⟨_, rfl⟩
  rw [hr] at HD
  clear r0 r1 r2 r3 r4 r5 f0 f1 f2 f3 f4 f5
  clear htw HB HC w2
  have HB := HD
  clear HD
  obtain ⟨⟨p0, p1, p2, p3, p4, p5⟩, ⟨q0, q1, q2, q3, q4, q5⟩, po, pc, pk⟩ := pair_cells HB.out.1
  obtain ⟨⟨r0, r1, r2, r3, r4, r5⟩, ⟨f0, f1, f2, f3, f4, f5⟩, -, -⟩ := wr_facts HB.out
  have hadd := fun W => add64_x a.b b.b W
  have hov : (u a.b + u b.b) / 18446744073709551616 = 0 := by have := u_bd a.b; have := u_bd b.b; omega
  rw [hov] at hadd
  clear hov hu
  go_upto_region 5 with (simp only [hadd])
  go_upto_region 6 with fail
  have HD := Lib.hid (wr_ab HB.out (a.a + b.a) (a.b + b.b))
  generalize World.setCell _ _ _ = W3 at HD ⊢
  obtain ⟨q, hq⟩ : ∃ q, (⟨tv, tm, a.a + b.a, a.b + b.b, A.c, A.d⟩ : K) = q := ⟨_, rfl⟩
  subst hr
  rw [hq] at HD
  have hr := hq
  clear hq
  clear p0 p1 p2 p3 p4 p5 q0 q1 q2 q3 q4 q5 po pc pk
  clear r0 r1 r2 r3 r4 r5 f0 f1 f2 f3 f4 f5
  clear HB
  have HB := HD
  clear HD
  obtain ⟨⟨p0, p1, p2, p3, p4, p5⟩, ⟨q0, q1, q2, q3, q4, q5⟩, po, pc, pk⟩ := pair_cells HB.out.1
  have hs1 := fun W => sum_x a.c b.c W
  have hs2 := fun W => sum_x a.d b.d W
  rw [h1] at hs1
  clear h1
  obtain ⟨b2, hb2⟩ : ∃ t, fitS (s a.d + s b.d) = t := ⟨_, rfl⟩
  rw [hb2] at hs2
  clear hb2
  obtain ⟨x0, hx0⟩ : ∃ t, s a.c = t := ⟨_, rfl⟩
  obtain ⟨x1, hx1⟩ : ∃ t, s a.d = t := ⟨_, rfl⟩
  obtain ⟨y0, hy0⟩ : ∃ t, s b.c = t := ⟨_, rfl⟩
  obtain ⟨y1, hy1⟩ : ∃ t, s b.d = t := ⟨_, rfl⟩
  obtain ⟨z0, hz0⟩ : ∃ t, s (a.c + b.c) = t := ⟨_, rfl⟩
  obtain ⟨z1, hz1⟩ : ∃ t, s (a.d + b.d) = t := ⟨_, rfl⟩
  rw [hx0] at p4 hs1
  rw [hx1] at p5 hs2
  rw [hy0] at q4 hs1
  rw [hy1] at q5 hs2
  rw [hz0] at hs1
  rw [hz1] at hs2
  have H0 := Lib.hid hz0
  have H1 := Lib.hid hz1
  clear hx0 hx1 hy0 hy1 hz0 hz1
  go_upto_region 10 with (first | (go_at_call_of 72 (Value.int .i64 x0); refine (hs1 _).mono ?_; rintro e w7 ⟨rfl, rfl⟩) | (go_at_call_of 72 (Value.int .i64 x1); refine (hs2 _).mono ?_; rintro e w7 ⟨rfl, rfl⟩))
  clear p0 p1 p2 p3 p4 p5 q0 q1 q2 q3 q4 q5 po pc pk
  clear hs1 hs2
  subst hr
  obtain ⟨⟨r0, r1, r2, r3, r4, r5⟩, ⟨f0, f1, f2, f3, f4, f5⟩, ⟨g0, g1, g2, g3, g4, g5⟩, ⟨z0, z1, z2, z3, z4, z5⟩⟩ := wr_facts HB.out
  go_wp2
  exact bodyPost_ret (v := numV ⟨tv, tm, a.a + b.a, a.b + b.b, A.c, A.d⟩) (by unfold numV; simp [results, Try.results50, go_sem, z0, z1, z2, z3, z4, z5]) rfl ⟨by rw [← HA.out, ← HT.out, ← HM.out]; rfl, below_out HB.out.2.2.2.2 _ _ _ _ _ _⟩
set_option maxHeartbeats 4000000 in
theorem xr_add_o_yy (a b : K) (one : Bool) (c k : B64) (w : World) (hu : ¬ u a.b + u b.b ≤ 18446744073709551615) (h1 : fitS (s a.c + s b.c) = true) (h2 : fitS (s a.d + s b.d) = true) : Calls Try.prog 50 #[pairV a b one c k] w (Gives (numV (⟨twoV 0 a.v a.m b.v b.m, twoM 0 a.v a.m b.v b.m, 0#64, full, a.c + b.c, a.d + b.d⟩)) w) := by
  have hR := Lib.hid (wr2_new w a b one c k)
  unfold Gives pairV pairC
  unfold pairC at hR
  have hun := fun W => xr_unknown W
  unfold numV at hun
  obtain ⟨A, hA⟩ : ∃ A, allK = A := ⟨_, rfl⟩
  rw [hA] at hun
  have HA := Lib.hid hA
  clear hA
  go_enter Try.func50, Try.ntmps50
  go_upto_region 2 with (go_at_call 29; refine (hun _).mono ?_; rintro e w1 ⟨rfl, hb⟩; have HB := Lib.hid (wr_new hR.out hb A); clear hb)
  generalize w1.alloc _ = W at HB ⊢
  generalize w1.heap.size = m at HB ⊢
  clear hun hR w1
  have htw := fun W => add_tnum a.v a.m b.v b.m W
  obtain ⟨tv, ht⟩ : ∃ t, twoV 0 a.v a.m b.v b.m = t := ⟨_, rfl⟩
  obtain ⟨tm, hm⟩ : ∃ t, twoM 0 a.v a.m b.v b.m = t := ⟨_, rfl⟩
  rw [ht, hm] at htw
  have HT := Lib.hid ht
  have HM := Lib.hid hm
  clear ht hm
  unfold tnV at htw
  obtain ⟨⟨p0, p1, p2, p3, p4, p5⟩, ⟨q0, q1, q2, q3, q4, q5⟩, po, pc, pk⟩ := pair_cells HB.out.1
  go_upto_region 3 with (go_at_call 70; refine (htw _).mono ?_; rintro e w2 ⟨rfl, hb⟩; have HC := Lib.hid (wr_keep2 HB.out hb); clear hb; clear p0 p1 p2 p3 p4 p5 q0 q1 q2 q3 q4 q5 po pc pk; obtain ⟨⟨r0, r1, r2, r3, r4, r5⟩, ⟨f0, f1, f2, f3, f4, f5⟩, -, -⟩ := wr_facts HC.out)
  have HD := Lib.hid (wr_vm HC.out tv tm)
  generalize World.setCell _ _ _ = W2 at HD ⊢
  obtain ⟨r, hr⟩ : ∃ r, (⟨tv, tm, A.a, A.b, A.c, A.d⟩ : K) = r := ⟨_, rfl⟩
  rw [hr] at HD
  clear r0 r1 r2 r3 r4 r5 f0 f1 f2 f3 f4 f5
  clear htw HB HC w2
  have HB := HD
  clear HD
  obtain ⟨⟨p0, p1, p2, p3, p4, p5⟩, ⟨q0, q1, q2, q3, q4, q5⟩, po, pc, pk⟩ := pair_cells HB.out.1
  obtain ⟨⟨r0, r1, r2, r3, r4, r5⟩, ⟨f0, f1, f2, f3, f4, f5⟩, -, -⟩ := wr_facts HB.out
  have hadd := fun W => add64_x a.b b.b W
  have hov : (u a.b + u b.b) / 18446744073709551616 = 1 := by have := u_bd a.b; have := u_bd b.b; omega
  rw [hov] at hadd
  clear hov hu
  go_upto_region 6 with (simp only [hadd])
  clear r0 r1 r2 r3 r4 r5 f0 f1 f2 f3 f4 f5
  have hs1 := fun W => sum_x a.c b.c W
  have hs2 := fun W => sum_x a.d b.d W
  rw [h1] at hs1
  rw [h2] at hs2
  clear h2
  clear h1
  obtain ⟨x0, hx0⟩ : ∃ t, s a.c = t := ⟨_, rfl⟩
  obtain ⟨x1, hx1⟩ : ∃ t, s a.d = t := ⟨_, rfl⟩
  obtain ⟨y0, hy0⟩ : ∃ t, s b.c = t := ⟨_, rfl⟩
  obtain ⟨y1, hy1⟩ : ∃ t, s b.d = t := ⟨_, rfl⟩
  obtain ⟨z0, hz0⟩ : ∃ t, s (a.c + b.c) = t := ⟨_, rfl⟩
  obtain ⟨z1, hz1⟩ : ∃ t, s (a.d + b.d) = t := ⟨_, rfl⟩
  rw [hx0] at p4 hs1
  rw [hx1] at p5 hs2
  rw [hy0] at q4 hs1
  rw [hy1] at q5 hs2
  rw [hz0] at hs1
  rw [hz1] at hs2
  have H0 := Lib.hid hz0
  have H1 := Lib.hid hz1
  clear hx0 hx1 hy0 hy1 hz0 hz1
  obtain ⟨⟨r0, r1, r2, r3, r4, r5⟩, ⟨f0, f1, f2, f3, f4, f5⟩, -, -⟩ := wr_facts HB.out
  go_upto_region 9 with (first | (go_at_call_of 72 (Value.int .i64 x0); refine (hs1 _).mono ?_; rintro e w7 ⟨rfl, rfl⟩) | (go_at_call_of 72 (Value.int .i64 x1); refine (hs2 _).mono ?_; rintro e w7 ⟨rfl, rfl⟩))
  go_upto_region 10 with fail
  have HD := wr_cd HB.out (a.c + b.c) (a.d + b.d)
  rw [H0.out, H1.out] at HD
  have HD := Lib.hid HD
  generalize World.setCell _ _ _ = W4 at HD ⊢
  clear p0 p1 p2 p3 p4 p5 q0 q1 q2 q3 q4 q5 po pc pk
  clear r0 r1 r2 r3 r4 r5 f0 f1 f2 f3 f4 f5
  clear HB hs1 hs2
  have HB := HD
  clear HD
  subst hr
  obtain ⟨⟨r0, r1, r2, r3, r4, r5⟩, ⟨f0, f1, f2, f3, f4, f5⟩, ⟨g0, g1, g2, g3, g4, g5⟩, ⟨z0, z1, z2, z3, z4, z5⟩⟩ := wr_facts HB.out
  go_wp2
  exact bodyPost_ret (v := numV ⟨tv, tm, A.a, A.b, a.c + b.c, a.d + b.d⟩) (by unfold numV; simp [results, Try.results50, go_sem, z0, z1, z2, z3, z4, z5]) rfl ⟨by rw [← HA.out, ← HT.out, ← HM.out]; rfl, below_out HB.out.2.2.2.2 _ _ _ _ _ _⟩
set_option maxHeartbeats 4000000 in
theorem xr_add_o_yn (a b : K) (one : Bool) (c k : B64) (w : World) (hu : ¬ u a.b + u b.b ≤ 18446744073709551615) (h1 : fitS (s a.c + s b.c) = true) (h2 : fitS (s a.d + s b.d) = false) : Calls Try.prog 50 #[pairV a b one c k] w (Gives (numV (⟨twoV 0 a.v a.m b.v b.m, twoM 0 a.v a.m b.v b.m, 0#64, full, half, most⟩)) w) := by
  have hR := Lib.hid (wr2_new w a b one c k)
  unfold Gives pairV pairC
  unfold pairC at hR
  have hun := fun W => xr_unknown W
  unfold numV at hun
  obtain ⟨A, hA⟩ : ∃ A, allK = A := ⟨_, rfl⟩
  rw [hA] at hun
  have HA := Lib.hid hA
  clear hA
  go_enter Try.func50, Try.ntmps50
  go_upto_region 2 with (go_at_call 29; refine (hun _).mono ?_; rintro e w1 ⟨rfl, hb⟩; have HB := Lib.hid (wr_new hR.out hb A); clear hb)
  generalize w1.alloc _ = W at HB ⊢
  generalize w1.heap.size = m at HB ⊢
  clear hun hR w1
  have htw := fun W => add_tnum a.v a.m b.v b.m W
  obtain ⟨tv, ht⟩ : ∃ t, twoV 0 a.v a.m b.v b.m = t := ⟨_, rfl⟩
  obtain ⟨tm, hm⟩ : ∃ t, twoM 0 a.v a.m b.v b.m = t := ⟨_, rfl⟩
  rw [ht, hm] at htw
  have HT := Lib.hid ht
  have HM := Lib.hid hm
  clear ht hm
  unfold tnV at htw
  obtain ⟨⟨p0, p1, p2, p3, p4, p5⟩, ⟨q0, q1, q2, q3, q4, q5⟩, po, pc, pk⟩ := pair_cells HB.out.1
  go_upto_region 3 with (go_at_call 70; refine (htw _).mono ?_; rintro e w2 ⟨rfl, hb⟩; have HC := Lib.hid (wr_keep2 HB.out hb); clear hb; clear p0 p1 p2 p3 p4 p5 q0 q1 q2 q3 q4 q5 po pc pk; obtain ⟨⟨r0, r1, r2, r3, r4, r5⟩, ⟨f0, f1, f2, f3, f4, f5⟩, -, -⟩ := wr_facts HC.out)
  have HD := Lib.hid (wr_vm HC.out tv tm)
  generalize World.setCell _ _ _ = W2 at HD ⊢
  obtain ⟨r, hr⟩ : ∃ r, (⟨tv, tm, A.a, A.b, A.c, A.d⟩ : K) = r := ⟨_, rfl⟩
  rw [hr] at HD
  clear r0 r1 r2 r3 r4 r5 f0 f1 f2 f3 f4 f5
  clear htw HB HC w2
  have HB := HD
  clear HD
  obtain ⟨⟨p0, p1, p2, p3, p4, p5⟩, ⟨q0, q1, q2, q3, q4, q5⟩, po, pc, pk⟩ := pair_cells HB.out.1
  obtain ⟨⟨r0, r1, r2, r3, r4, r5⟩, ⟨f0, f1, f2, f3, f4, f5⟩, -, -⟩ := wr_facts HB.out
  have hadd := fun W => add64_x a.b b.b W
  have hov : (u a.b + u b.b) / 18446744073709551616 = 1 := by have := u_bd a.b; have := u_bd b.b; omega
  rw [hov] at hadd
  clear hov hu
  go_upto_region 6 with (simp only [hadd])
  clear r0 r1 r2 r3 r4 r5 f0 f1 f2 f3 f4 f5
  have hs1 := fun W => sum_x a.c b.c W
  have hs2 := fun W => sum_x a.d b.d W
  rw [h1] at hs1
  rw [h2] at hs2
  clear h2
  clear h1
  obtain ⟨x0, hx0⟩ : ∃ t, s a.c = t := ⟨_, rfl⟩
  obtain ⟨x1, hx1⟩ : ∃ t, s a.d = t := ⟨_, rfl⟩
  obtain ⟨y0, hy0⟩ : ∃ t, s b.c = t := ⟨_, rfl⟩
  obtain ⟨y1, hy1⟩ : ∃ t, s b.d = t := ⟨_, rfl⟩
  obtain ⟨z0, hz0⟩ : ∃ t, s (a.c + b.c) = t := ⟨_, rfl⟩
  obtain ⟨z1, hz1⟩ : ∃ t, s (a.d + b.d) = t := ⟨_, rfl⟩
  rw [hx0] at p4 hs1
  rw [hx1] at p5 hs2
  rw [hy0] at q4 hs1
  rw [hy1] at q5 hs2
  rw [hz0] at hs1
  rw [hz1] at hs2
  have H0 := Lib.hid hz0
  have H1 := Lib.hid hz1
  clear hx0 hx1 hy0 hy1 hz0 hz1
  go_upto_region 10 with (first | (go_at_call_of 72 (Value.int .i64 x0); refine (hs1 _).mono ?_; rintro e w7 ⟨rfl, rfl⟩) | (go_at_call_of 72 (Value.int .i64 x1); refine (hs2 _).mono ?_; rintro e w7 ⟨rfl, rfl⟩))
  clear p0 p1 p2 p3 p4 p5 q0 q1 q2 q3 q4 q5 po pc pk
  clear hs1 hs2
  subst hr
  obtain ⟨⟨r0, r1, r2, r3, r4, r5⟩, ⟨f0, f1, f2, f3, f4, f5⟩, ⟨g0, g1, g2, g3, g4, g5⟩, ⟨z0, z1, z2, z3, z4, z5⟩⟩ := wr_facts HB.out
  go_wp2
  exact bodyPost_ret (v := numV ⟨tv, tm, A.a, A.b, A.c, A.d⟩) (by unfold numV; simp [results, Try.results50, go_sem, z0, z1, z2, z3, z4, z5]) rfl ⟨by rw [← HA.out, ← HT.out, ← HM.out]; rfl, below_out HB.out.2.2.2.2 _ _ _ _ _ _⟩
set_option maxHeartbeats 4000000 in
theorem xr_add_o_n (a b : K) (one : Bool) (c k : B64) (w : World) (hu : ¬ u a.b + u b.b ≤ 18446744073709551615) (h1 : fitS (s a.c + s b.c) = false) : Calls Try.prog 50 #[pairV a b one c k] w (Gives (numV (⟨twoV 0 a.v a.m b.v b.m, twoM 0 a.v a.m b.v b.m, 0#64, full, half, most⟩)) w) := by
  have hR := Lib.hid (wr2_new w a b one c k)
  unfold Gives pairV pairC
  unfold pairC at hR
  have hun := fun W => xr_unknown W
  unfold numV at hun
  obtain ⟨A, hA⟩ : ∃ A, allK = A := ⟨_, rfl⟩
  rw [hA] at hun
  have HA := Lib.hid hA
  clear hA
  go_enter Try.func50, Try.ntmps50
  go_upto_region 2 with (go_at_call 29; refine (hun _).mono ?_; rintro e w1 ⟨rfl, hb⟩; have HB := Lib.hid (wr_new hR.out hb A); clear hb)
  generalize w1.alloc _ = W at HB ⊢
  generalize w1.heap.size = m at HB ⊢
  clear hun hR w1
  have htw := fun W => add_tnum a.v a.m b.v b.m W
  obtain ⟨tv, ht⟩ : ∃ t, twoV 0 a.v a.m b.v b.m = t := ⟨_, rfl⟩
  obtain ⟨tm, hm⟩ : ∃ t, twoM 0 a.v a.m b.v b.m = t := ⟨_, rfl⟩
  rw [ht, hm] at htw
  have HT := Lib.hid ht
  have HM := Lib.hid hm
  clear ht hm
  unfold tnV at htw
  obtain ⟨⟨p0, p1, p2, p3, p4, p5⟩, ⟨q0, q1, q2, q3, q4, q5⟩, po, pc, pk⟩ := pair_cells HB.out.1
  go_upto_region 3 with (go_at_call 70; refine (htw _).mono ?_; rintro e w2 ⟨rfl, hb⟩; have HC := Lib.hid (wr_keep2 HB.out hb); clear hb; clear p0 p1 p2 p3 p4 p5 q0 q1 q2 q3 q4 q5 po pc pk; obtain ⟨⟨r0, r1, r2, r3, r4, r5⟩, ⟨f0, f1, f2, f3, f4, f5⟩, -, -⟩ := wr_facts HC.out)
  have HD := Lib.hid (wr_vm HC.out tv tm)
  generalize World.setCell _ _ _ = W2 at HD ⊢
  obtain ⟨r, hr⟩ : ∃ r, (⟨tv, tm, A.a, A.b, A.c, A.d⟩ : K) = r := ⟨_, rfl⟩
  rw [hr] at HD
  clear r0 r1 r2 r3 r4 r5 f0 f1 f2 f3 f4 f5
  clear htw HB HC w2
  have HB := HD
  clear HD
  obtain ⟨⟨p0, p1, p2, p3, p4, p5⟩, ⟨q0, q1, q2, q3, q4, q5⟩, po, pc, pk⟩ := pair_cells HB.out.1
  obtain ⟨⟨r0, r1, r2, r3, r4, r5⟩, ⟨f0, f1, f2, f3, f4, f5⟩, -, -⟩ := wr_facts HB.out
  have hadd := fun W => add64_x a.b b.b W
  have hov : (u a.b + u b.b) / 18446744073709551616 = 1 := by have := u_bd a.b; have := u_bd b.b; omega
  rw [hov] at hadd
  clear hov hu
  go_upto_region 6 with (simp only [hadd])
  clear r0 r1 r2 r3 r4 r5 f0 f1 f2 f3 f4 f5
  have hs1 := fun W => sum_x a.c b.c W
  have hs2 := fun W => sum_x a.d b.d W
  rw [h1] at hs1
  clear h1
  obtain ⟨b2, hb2⟩ : ∃ t, fitS (s a.d + s b.d) = t := ⟨_, rfl⟩
  rw [hb2] at hs2
  clear hb2
  obtain ⟨x0, hx0⟩ : ∃ t, s a.c = t := ⟨_, rfl⟩
  obtain ⟨x1, hx1⟩ : ∃ t, s a.d = t := ⟨_, rfl⟩
  obtain ⟨y0, hy0⟩ : ∃ t, s b.c = t := ⟨_, rfl⟩
  obtain ⟨y1, hy1⟩ : ∃ t, s b.d = t := ⟨_, rfl⟩
  obtain ⟨z0, hz0⟩ : ∃ t, s (a.c + b.c) = t := ⟨_, rfl⟩
  obtain ⟨z1, hz1⟩ : ∃ t, s (a.d + b.d) = t := ⟨_, rfl⟩
  rw [hx0] at p4 hs1
  rw [hx1] at p5 hs2
  rw [hy0] at q4 hs1
  rw [hy1] at q5 hs2
  rw [hz0] at hs1
  rw [hz1] at hs2
  have H0 := Lib.hid hz0
  have H1 := Lib.hid hz1
  clear hx0 hx1 hy0 hy1 hz0 hz1
  go_upto_region 10 with (first | (go_at_call_of 72 (Value.int .i64 x0); refine (hs1 _).mono ?_; rintro e w7 ⟨rfl, rfl⟩) | (go_at_call_of 72 (Value.int .i64 x1); refine (hs2 _).mono ?_; rintro e w7 ⟨rfl, rfl⟩))
  clear p0 p1 p2 p3 p4 p5 q0 q1 q2 q3 q4 q5 po pc pk
  clear hs1 hs2
  subst hr
  obtain ⟨⟨r0, r1, r2, r3, r4, r5⟩, ⟨f0, f1, f2, f3, f4, f5⟩, ⟨g0, g1, g2, g3, g4, g5⟩, ⟨z0, z1, z2, z3, z4, z5⟩⟩ := wr_facts HB.out
  go_wp2
  exact bodyPost_ret (v := numV ⟨tv, tm, A.a, A.b, A.c, A.d⟩) (by unfold numV; simp [results, Try.results50, go_sem, z0, z1, z2, z3, z4, z5]) rfl ⟨by rw [← HA.out, ← HT.out, ← HM.out]; rfl, below_out HB.out.2.2.2.2 _ _ _ _ _ _⟩
theorem xr_add (a b : K) (one : Bool) (c k : B64) (w : World) : Calls Try.prog 50 #[pairV a b one c k] w (Gives (numV (rowAdd a b)) w) := by
  unfold rowAdd addU addS
  by_cases hu : u a.b + u b.b ≤ 18446744073709551615
  · rw [decide_eq_true hu]
    simp only [if_true]
    cases h1 : fitS (s a.c + s b.c)
    · rw [Bool.false_and]
      simp only [Bool.false_eq_true, if_false]
      exact xr_add_u_n a b one c k w hu h1
    · cases h2 : fitS (s a.d + s b.d)
      · rw [Bool.and_false]
        simp only [Bool.false_eq_true, if_false]
        exact xr_add_u_yn a b one c k w hu h1 h2
      · rw [Bool.and_true]
        simp only [if_true]
        exact xr_add_u_yy a b one c k w hu h1 h2
  · rw [decide_eq_false hu]
    simp only [Bool.false_eq_true, if_false]
    cases h1 : fitS (s a.c + s b.c)
    · rw [Bool.false_and]
      simp only [Bool.false_eq_true, if_false]
      exact xr_add_o_n a b one c k w hu h1
    · cases h2 : fitS (s a.d + s b.d)
      · rw [Bool.and_false]
        simp only [Bool.false_eq_true, if_false]
        exact xr_add_o_yn a b one c k w hu h1 h2
      · rw [Bool.and_true]
        simp only [if_true]
        exact xr_add_o_yy a b one c k w hu h1 h2
end Go.Proofs.Ytogadmlnmcojpaa

/-
  Proved here: rows of package xfer: Sub, Neg. Conditions: none.
-/
namespace Go.Proofs.Ytogadmlnmcojpaa
open Go.RowKit
attribute [local go_sem] u_and u_or u_xor u_andNot u_add u_sub s_conv u_conv max_u min_u max_s min_s
set_option maxHeartbeats 4000000 in
theorem xr_sub_u_yy (a b : K) (one : Bool) (c k : B64) (w : World) (hu : u b.b ≤ u a.a) (h1 : fitS (s a.c - s b.d) = true) (h2 : fitS (s a.d - s b.c) = true) : Calls Try.prog 51 #[pairV a b one c k] w (Gives (numV (⟨twoV 1 a.v a.m b.v b.m, twoM 1 a.v a.m b.v b.m, a.a - b.b, a.b - b.a, a.c - b.d, a.d - b.c⟩)) w) := by
  have hR := Lib.hid (wr2_new w a b one c k)
  unfold Gives pairV pairC
  unfold pairC at hR
  have hun := fun W => xr_unknown W
  unfold numV at hun
  obtain ⟨A, hA⟩ : ∃ A, allK = A := ⟨_, rfl⟩
  rw [hA] at hun
  have HA := Lib.hid hA
  clear hA
  go_enter Try.func51, Try.ntmps51
  go_upto_region 2 with (go_at_call 29; refine (hun _).mono ?_; rintro e w1 ⟨rfl, hb⟩; have HB := Lib.hid (wr_new hR.out hb A); clear hb)
  generalize w1.alloc _ = W at HB ⊢
  generalize w1.heap.size = m at HB ⊢
  clear hun hR w1
  have htw := fun W => sub_tnum a.v a.m b.v b.m W
  obtain ⟨tv, ht⟩ : ∃ t, twoV 1 a.v a.m b.v b.m = t := ⟨_, rfl⟩
  obtain ⟨tm, hm⟩ : ∃ t, twoM 1 a.v a.m b.v b.m = t := ⟨_, rfl⟩
  rw [ht, hm] at htw
  have HT := Lib.hid ht
  have HM := Lib.hid hm
  clear ht hm
  unfold tnV at htw
  obtain ⟨⟨p0, p1, p2, p3, p4, p5⟩, ⟨q0, q1, q2, q3, q4, q5⟩, po, pc, pk⟩ := pair_cells HB.out.1
  go_upto_region 3 with (go_at_call 73; refine (htw _).mono ?_; rintro e w2 ⟨rfl, hb⟩; have HC := Lib.hid (wr_keep2 HB.out hb); clear hb; clear p0 p1 p2 p3 p4 p5 q0 q1 q2 q3 q4 q5 po pc pk; obtain ⟨⟨r0, r1, r2, r3, r4, r5⟩, ⟨f0, f1, f2, f3, f4, f5⟩, -, -⟩ := wr_facts HC.out)
  have HD := Lib.hid (wr_vm HC.out tv tm)
  generalize World.setCell _ _ _ = W2 at HD ⊢
  obtain ⟨r, hr⟩ : ∃ r, (⟨tv, tm, A.a, A.b, A.c, A.d⟩ : K) = r := ⟨_, rfl⟩
  rw [hr] at HD
  clear r0 r1 r2 r3 r4 r5 f0 f1 f2 f3 f4 f5
  clear htw HB HC w2
  have HB := HD
  clear HD
  obtain ⟨⟨p0, p1, p2, p3, p4, p5⟩, ⟨q0, q1, q2, q3, q4, q5⟩, po, pc, pk⟩ := pair_cells HB.out.1
  obtain ⟨⟨r0, r1, r2, r3, r4, r5⟩, ⟨f0, f1, f2, f3, f4, f5⟩, -, -⟩ := wr_facts HB.out
  go_upto_region 4 with fail
  go_region
  have HD := Lib.hid (wr_drew (wr_ab HB.out (a.a - b.b) (a.b - b.a)))
  generalize World.drew _ = W3 at HD ⊢
  obtain ⟨q, hq⟩ : ∃ q, (⟨tv, tm, a.a - b.b, a.b - b.a, A.c, A.d⟩ : K) = q := ⟨_, rfl⟩
  subst hr
  rw [hq] at HD
  have hr := hq
  clear hq
  clear p0 p1 p2 p3 p4 p5 q0 q1 q2 q3 q4 q5 po pc pk
  clear r0 r1 r2 r3 r4 r5 f0 f1 f2 f3 f4 f5
  clear HB
  have HB := HD
  clear HD
  obtain ⟨⟨p0, p1, p2, p3, p4, p5⟩, ⟨q0, q1, q2, q3, q4, q5⟩, po, pc, pk⟩ := pair_cells HB.out.1
  have hs1 := fun W => dif_x a.c b.d W
  have hs2 := fun W => dif_x a.d b.c W
  rw [h1] at hs1
  rw [h2] at hs2
  clear h2
  clear h1
  obtain ⟨x0, hx0⟩ : ∃ t, s a.c = t := ⟨_, rfl⟩
  obtain ⟨x1, hx1⟩ : ∃ t, s a.d = t := ⟨_, rfl⟩
  obtain ⟨y0, hy0⟩ : ∃ t, s b.c = t := ⟨_, rfl⟩
  obtain ⟨y1, hy1⟩ : ∃ t, s b.d = t := ⟨_, rfl⟩
  obtain ⟨z0, hz0⟩ : ∃ t, s (a.c - b.d) = t := ⟨_, rfl⟩
  obtain ⟨z1, hz1⟩ : ∃ t, s (a.d - b.c) = t := ⟨_, rfl⟩
  rw [hx0] at p4 hs1
  rw [hx1] at p5 hs2
  rw [hy0] at q4 hs2
  rw [hy1] at q5 hs1
  rw [hz0] at hs1
  rw [hz1] at hs2
  have H0 := Lib.hid hz0
  have H1 := Lib.hid hz1
  clear hx0 hx1 hy0 hy1 hz0 hz1
  obtain ⟨⟨r0, r1, r2, r3, r4, r5⟩, ⟨f0, f1, f2, f3, f4, f5⟩, -, -⟩ := wr_facts HB.out
  go_upto_region 8 with (first | (go_at_call_of 74 (Value.int .i64 x0); refine (hs1 _).mono ?_; rintro e w7 ⟨rfl, rfl⟩) | (go_at_call_of 74 (Value.int .i64 x1); refine (hs2 _).mono ?_; rintro e w7 ⟨rfl, rfl⟩))
  go_upto_region 9 with fail
  have HD := wr_cd HB.out (a.c - b.d) (a.d - b.c)
  rw [H0.out, H1.out] at HD
  have HD := Lib.hid HD
  generalize World.setCell _ _ _ = W4 at HD ⊢
  clear p0 p1 p2 p3 p4 p5 q0 q1 q2 q3 q4 q5 po pc pk
  clear r0 r1 r2 r3 r4 r5 f0 f1 f2 f3 f4 f5
  clear HB hs1 hs2
  have HB := HD
  clear HD
  subst hr
  obtain ⟨⟨r0, r1, r2, r3, r4, r5⟩, ⟨f0, f1, f2, f3, f4, f5⟩, ⟨g0, g1, g2, g3, g4, g5⟩, ⟨z0, z1, z2, z3, z4, z5⟩⟩ := wr_facts HB.out
  go_wp2
  exact bodyPost_ret (v := numV ⟨tv, tm, a.a - b.b, a.b - b.a, a.c - b.d, a.d - b.c⟩) (by unfold numV; simp [results, Try.results51, go_sem, z0, z1, z2, z3, z4, z5]) rfl ⟨by rw [← HT.out, ← HM.out], below_out HB.out.2.2.2.2 _ _ _ _ _ _⟩
set_option maxHeartbeats 4000000 in
theorem xr_sub_u_yn (a b : K) (one : Bool) (c k : B64) (w : World) (hu : u b.b ≤ u a.a) (h1 : fitS (s a.c - s b.d) = true) (h2 : fitS (s a.d - s b.c) = false) : Calls Try.prog 51 #[pairV a b one c k] w (Gives (numV (⟨twoV 1 a.v a.m b.v b.m, twoM 1 a.v a.m b.v b.m, a.a - b.b, a.b - b.a, half, most⟩)) w) := by
  have hR := Lib.hid (wr2_new w a b one c k)
  unfold Gives pairV pairC
  unfold pairC at hR
  have hun := fun W => xr_unknown W
  unfold numV at hun
  obtain ⟨A, hA⟩ : ∃ A, allK = A := ⟨_, rfl⟩
  rw [hA] at hun
  have HA := Lib.hid hA
  clear hA
  go_enter Try.func51, Try.ntmps51
  go_upto_region 2 with (go_at_call 29; refine (hun _).mono ?_; rintro e w1 ⟨rfl, hb⟩; have HB := Lib.hid (wr_new hR.out hb A); clear hb)
  generalize w1.alloc _ = W at HB ⊢
  generalize w1.heap.size = m at HB ⊢
  clear hun hR w1
  have htw := fun W => sub_tnum a.v a.m b.v b.m W
  obtain ⟨tv, ht⟩ : ∃ t, twoV 1 a.v a.m b.v b.m = t := ⟨_, rfl⟩
  obtain ⟨tm, hm⟩ : ∃ t, twoM 1 a.v a.m b.v b.m = t := ⟨_, rfl⟩
  rw [ht, hm] at htw
  have HT := Lib.hid ht
  have HM := Lib.hid hm
  clear ht hm
  unfold tnV at htw
  obtain ⟨⟨p0, p1, p2, p3, p4, p5⟩, ⟨q0, q1, q2, q3, q4, q5⟩, po, pc, pk⟩ := pair_cells HB.out.1
  go_upto_region 3 with (go_at_call 73; refine (htw _).mono ?_; rintro e w2 ⟨rfl, hb⟩; have HC := Lib.hid (wr_keep2 HB.out hb); clear hb; clear p0 p1 p2 p3 p4 p5 q0 q1 q2 q3 q4 q5 po pc pk; obtain ⟨⟨r0, r1, r2, r3, r4, r5⟩, ⟨f0, f1, f2, f3, f4, f5⟩, -, -⟩ := wr_facts HC.out)
  have HD := Lib.hid (wr_vm HC.out tv tm)
  generalize World.setCell _ _ _ = W2 at HD ⊢
  obtain ⟨r, hr⟩ : ∃ r, (⟨tv, tm, A.a, A.b, A.c, A.d⟩ : K) = r := ⟨_, rfl⟩
  rw [hr] at HD
  clear r0 r1 r2 r3 r4 r5 f0 f1 f2 f3 f4 f5
  clear htw HB HC w2
  have HB := HD
  clear HD
  obtain ⟨⟨p0, p1, p2, p3, p4, p5⟩, ⟨q0, q1, q2, q3, q4, q5⟩, po, pc, pk⟩ := pair_cells HB.out.1
  obtain ⟨⟨r0, r1, r2, r3, r4, r5⟩, ⟨f0, f1, f2, f3, f4, f5⟩, -, -⟩ := wr_facts HB.out
  go_upto_region 4 with fail
  go_region
  have HD := Lib.hid (wr_drew (wr_ab HB.out (a.a - b.b) (a.b - b.a)))
  generalize World.drew _ = W3 at HD ⊢
  obtain ⟨q, hq⟩ : ∃ q, (⟨tv, tm, a.a - b.b, a.b - b.a, A.c, A.d⟩ : K) = q := ⟨_, rfl⟩
  subst hr
  rw [hq] at HD
  have hr := hq
  clear hq
  clear p0 p1 p2 p3 p4 p5 q0 q1 q2 q3 q4 q5 po pc pk
  clear r0 r1 r2 r3 r4 r5 f0 f1 f2 f3 f4 f5
  clear HB
  have HB := HD
  clear HD
  obtain ⟨⟨p0, p1, p2, p3, p4, p5⟩, ⟨q0, q1, q2, q3, q4, q5⟩, po, pc, pk⟩ := pair_cells HB.out.1
  have hs1 := fun W => dif_x a.c b.d W
  have hs2 := fun W => dif_x a.d b.c W
  rw [h1] at hs1
  rw [h2] at hs2
  clear h2
  clear h1
  obtain ⟨x0, hx0⟩ : ∃ t, s a.c = t := ⟨_, rfl⟩
  obtain ⟨x1, hx1⟩ : ∃ t, s a.d = t := ⟨_, rfl⟩
  obtain ⟨y0, hy0⟩ : ∃ t, s b.c = t := ⟨_, rfl⟩
  obtain ⟨y1, hy1⟩ : ∃ t, s b.d = t := ⟨_, rfl⟩
  obtain ⟨z0, hz0⟩ : ∃ t, s (a.c - b.d) = t := ⟨_, rfl⟩
  obtain ⟨z1, hz1⟩ : ∃ t, s (a.d - b.c) = t := ⟨_, rfl⟩
  rw [hx0] at p4 hs1
  rw [hx1] at p5 hs2
  rw [hy0] at q4 hs2
  rw [hy1] at q5 hs1
  rw [hz0] at hs1
  rw [hz1] at hs2
  have H0 := Lib.hid hz0
  have H1 := Lib.hid hz1
  clear hx0 hx1 hy0 hy1 hz0 hz1
  go_upto_region 9 with (first | (go_at_call_of 74 (Value.int .i64 x0); refine (hs1 _).mono ?_; rintro e w7 ⟨rfl, rfl⟩) | (go_at_call_of 74 (Value.int .i64 x1); refine (hs2 _).mono ?_; rintro e w7 ⟨rfl, rfl⟩))
  clear p0 p1 p2 p3 p4 p5 q0 q1 q2 q3 q4 q5 po pc pk
  clear hs1 hs2
  subst hr
  obtain ⟨⟨r0, r1, r2, r3, r4, r5⟩, ⟨f0, f1, f2, f3, f4, f5⟩, ⟨g0, g1, g2, g3, g4, g5⟩, ⟨z0, z1, z2, z3, z4, z5⟩⟩ := wr_facts HB.out
  go_wp2
  exact bodyPost_ret (v := numV ⟨tv, tm, a.a - b.b, a.b - b.a, A.c, A.d⟩) (by unfold numV; simp [results, Try.results51, go_sem, z0, z1, z2, z3, z4, z5]) rfl ⟨by rw [← HA.out, ← HT.out, ← HM.out]; rfl, below_out HB.out.2.2.2.2 _ _ _ _ _ _⟩
set_option maxHeartbeats 4000000 in
theorem xr_sub_u_n (a b : K) (one : Bool) (c k : B64) (w : World) (hu : u b.b ≤ u a.a) (h1 : fitS (s a.c - s b.d) = false) : Calls Try.prog 51 #[pairV a b one c k] w (Gives (numV (⟨twoV 1 a.v a.m b.v b.m, twoM 1 a.v a.m b.v b.m, a.a - b.b, a.b - b.a, half, most⟩)) w) := by
  have hR := Lib.hid (wr2_new w a b one c k)
  unfold Gives pairV pairC
  unfold pairC at hR
  have hun := fun W => xr_unknown W
  unfold numV at hun
  obtain ⟨A, hA⟩ : ∃ A, allK = A := ⟨_, rfl⟩
  rw [hA] at hun
  have HA := Lib.hid hA
  clear hA
  go_enter Try.func51, Try.ntmps51
  go_upto_region 2 with (go_at_call 29; refine (hun _).mono ?_; rintro e w1 ⟨rfl, hb⟩; have HB := Lib.hid (wr_new hR.out hb A); clear hb)
  generalize w1.alloc _ = W at HB ⊢
  generalize w1.heap.size = m at HB ⊢
  clear hun hR w1
  have htw := fun W => sub_tnum a.v a.m b.v b.m W
  obtain ⟨tv, ht⟩ : ∃ t, twoV 1 a.v a.m b.v b.m = t := ⟨_, rfl⟩
  obtain ⟨tm, hm⟩ : ∃ t, twoM 1 a.v a.m b.v b.m = t := ⟨_, rfl⟩
  rw [ht, hm] at htw
  have HT := Lib.hid ht
  have HM := Lib.hid hm
  clear ht hm
  unfold tnV at htw
  obtain ⟨⟨p0, p1, p2, p3, p4, p5⟩, ⟨q0, q1, q2, q3, q4, q5⟩, po, pc, pk⟩ := pair_cells HB.out.1
  go_upto_region 3 with (go_at_call 73; refine (htw _).mono ?_; rintro e w2 ⟨rfl, hb⟩; have HC := Lib.hid (wr_keep2 HB.out hb); clear hb; clear p0 p1 p2 p3 p4 p5 q0 q1 q2 q3 q4 q5 po pc pk; obtain ⟨⟨r0, r1, r2, r3, r4, r5⟩, ⟨f0, f1, f2, f3, f4, f5⟩, -, -⟩ := wr_facts HC.out)
  have HD := Lib.hid (wr_vm HC.out tv tm)
  generalize World.setCell _ _ _ = W2 at HD ⊢
  obtain ⟨r, hr⟩ : ∃ r, (⟨tv, tm, A.a, A.b, A.c, A.d⟩ : K) = r := ⟨_, rfl⟩
  rw [hr] at HD
  clear r0 r1 r2 r3 r4 r5 f0 f1 f2 f3 f4 f5
  clear htw HB HC w2
  have HB := HD
  clear HD
  obtain ⟨⟨p0, p1, p2, p3, p4, p5⟩, ⟨q0, q1, q2, q3, q4, q5⟩, po, pc, pk⟩ := pair_cells HB.out.1
  obtain ⟨⟨r0, r1, r2, r3, r4, r5⟩, ⟨f0, f1, f2, f3, f4, f5⟩, -, -⟩ := wr_facts HB.out
  go_upto_region 4 with fail
  go_region
  have HD := Lib.hid (wr_drew (wr_ab HB.out (a.a - b.b) (a.b - b.a)))
  generalize World.drew _ = W3 at HD ⊢
  obtain ⟨q, hq⟩ : ∃ q, (⟨tv, tm, a.a - b.b, a.b - b.a, A.c, A.d⟩ : K) = q := ⟨_, rfl⟩
  subst hr
  rw [hq] at HD
  have hr := hq
  clear hq
  clear p0 p1 p2 p3 p4 p5 q0 q1 q2 q3 q4 q5 po pc pk
  clear r0 r1 r2 r3 r4 r5 f0 f1 f2 f3 f4 f5
  clear HB
  have HB := HD
  clear HD
  obtain ⟨⟨p0, p1, p2, p3, p4, p5⟩, ⟨q0, q1, q2, q3, q4, q5⟩, po, pc, pk⟩ := pair_cells HB.out.1
  have hs1 := fun W => dif_x a.c b.d W
  have hs2 := fun W => dif_x a.d b.c W
  rw [h1] at hs1
  clear h1
  obtain ⟨b2, hb2⟩ : ∃ t, fitS (s a.d - s b.c) = t := ⟨_, rfl⟩
  rw [hb2] at hs2
  clear hb2
  obtain ⟨x0, hx0⟩ : ∃ t, s a.c = t := ⟨_, rfl⟩
  obtain ⟨x1, hx1⟩ : ∃ t, s a.d = t := ⟨_, rfl⟩
  obtain ⟨y0, hy0⟩ : ∃ t, s b.c = t := ⟨_, rfl⟩
  obtain ⟨y1, hy1⟩ : ∃ t, s b.d = t := ⟨_, rfl⟩
  obtain ⟨z0, hz0⟩ : ∃ t, s (a.c - b.d) = t := ⟨_, rfl⟩
  obtain ⟨z1, hz1⟩ : ∃ t, s (a.d - b.c) = t := ⟨_, rfl⟩
  rw [hx0] at p4 hs1
  rw [hx1] at p5 hs2
  rw [hy0] at q4 hs2
  rw [hy1] at q5 hs1
  rw [hz0] at hs1
  rw [hz1] at hs2
  have H0 := Lib.hid hz0
  have H1 := Lib.hid hz1
  clear hx0 hx1 hy0 hy1 hz0 hz1
  go_upto_region 9 with (first | (go_at_call_of 74 (Value.int .i64 x0); refine (hs1 _).mono ?_; rintro e w7 ⟨rfl, rfl⟩) | (go_at_call_of 74 (Value.int .i64 x1); refine (hs2 _).mono ?_; rintro e w7 ⟨rfl, rfl⟩))
  clear p0 p1 p2 p3 p4 p5 q0 q1 q2 q3 q4 q5 po pc pk
  clear hs1 hs2
  subst hr
  obtain ⟨⟨r0, r1, r2, r3, r4, r5⟩, ⟨f0, f1, f2, f3, f4, f5⟩, ⟨g0, g1, g2, g3, g4, g5⟩, ⟨z0, z1, z2, z3, z4, z5⟩⟩ := wr_facts HB.out
  go_wp2
  exact bodyPost_ret (v := numV ⟨tv, tm, a.a - b.b, a.b - b.a, A.c, A.d⟩) (by unfold numV; simp [results, Try.results51, go_sem, z0, z1, z2, z3, z4, z5]) rfl ⟨by rw [← HA.out, ← HT.out, ← HM.out]; rfl, below_out HB.out.2.2.2.2 _ _ _ _ _ _⟩
set_option maxHeartbeats 4000000 in
theorem xr_sub_o_yy (a b : K) (one : Bool) (c k : B64) (w : World) (hu : ¬ u b.b ≤ u a.a) (h1 : fitS (s a.c - s b.d) = true) (h2 : fitS (s a.d - s b.c) = true) : Calls Try.prog 51 #[pairV a b one c k] w (Gives (numV (⟨twoV 1 a.v a.m b.v b.m, twoM 1 a.v a.m b.v b.m, 0#64, full, a.c - b.d, a.d - b.c⟩)) w) := by
  have hR := Lib.hid (wr2_new w a b one c k)
  unfold Gives pairV pairC
  unfold pairC at hR
  have hun := fun W => xr_unknown W
  unfold numV at hun
  obtain ⟨A, hA⟩ : ∃ A, allK = A := ⟨_, rfl⟩
  rw [hA] at hun
  have HA := Lib.hid hA
  clear hA
  go_enter Try.func51, Try.ntmps51
  go_upto_region 2 with (go_at_call 29; refine (hun _).mono ?_; rintro e w1 ⟨rfl, hb⟩; have HB := Lib.hid (wr_new hR.out hb A); clear hb)
  generalize w1.alloc _ = W at HB ⊢
  generalize w1.heap.size = m at HB ⊢
  clear hun hR w1
  have htw := fun W => sub_tnum a.v a.m b.v b.m W
  obtain ⟨tv, ht⟩ : ∃ t, twoV 1 a.v a.m b.v b.m = t := ⟨_, rfl⟩
  obtain ⟨tm, hm⟩ : ∃ t, twoM 1 a.v a.m b.v b.m = t := ⟨_, rfl⟩
  rw [ht, hm] at htw
  have HT := Lib.hid ht
  have HM := Lib.hid hm
  clear ht hm
  unfold tnV at htw
  obtain ⟨⟨p0, p1, p2, p3, p4, p5⟩, ⟨q0, q1, q2, q3, q4, q5⟩, po, pc, pk⟩ := pair_cells HB.out.1
  go_upto_region 3 with (go_at_call 73; refine (htw _).mono ?_; rintro e w2 ⟨rfl, hb⟩; have HC := Lib.hid (wr_keep2 HB.out hb); clear hb; clear p0 p1 p2 p3 p4 p5 q0 q1 q2 q3 q4 q5 po pc pk; obtain ⟨⟨r0, r1, r2, r3, r4, r5⟩, ⟨f0, f1, f2, f3, f4, f5⟩, -, -⟩ := wr_facts HC.out)
  have HD := Lib.hid (wr_vm HC.out tv tm)
  generalize World.setCell _ _ _ = W2 at HD ⊢
  obtain ⟨r, hr⟩ : ∃ r, (⟨tv, tm, A.a, A.b, A.c, A.d⟩ : K) = r := ⟨_, rfl⟩
  rw [hr] at HD
  clear r0 r1 r2 r3 r4 r5 f0 f1 f2 f3 f4 f5
  clear htw HB HC w2
  have HB := HD
  clear HD
  obtain ⟨⟨p0, p1, p2, p3, p4, p5⟩, ⟨q0, q1, q2, q3, q4, q5⟩, po, pc, pk⟩ := pair_cells HB.out.1
  obtain ⟨⟨r0, r1, r2, r3, r4, r5⟩, ⟨f0, f1, f2, f3, f4, f5⟩, -, -⟩ := wr_facts HB.out
  go_upto_region 5 with fail
  clear r0 r1 r2 r3 r4 r5 f0 f1 f2 f3 f4 f5
  have hs1 := fun W => dif_x a.c b.d W
  have hs2 := fun W => dif_x a.d b.c W
  rw [h1] at hs1
  rw [h2] at hs2
  clear h2
  clear h1
  obtain ⟨x0, hx0⟩ : ∃ t, s a.c = t := ⟨_, rfl⟩
  obtain ⟨x1, hx1⟩ : ∃ t, s a.d = t := ⟨_, rfl⟩
  obtain ⟨y0, hy0⟩ : ∃ t, s b.c = t := ⟨_, rfl⟩
  obtain ⟨y1, hy1⟩ : ∃ t, s b.d = t := ⟨_, rfl⟩
  obtain ⟨z0, hz0⟩ : ∃ t, s (a.c - b.d) = t := ⟨_, rfl⟩
  obtain ⟨z1, hz1⟩ : ∃ t, s (a.d - b.c) = t := ⟨_, rfl⟩
  rw [hx0] at p4 hs1
  rw [hx1] at p5 hs2
  rw [hy0] at q4 hs2
  rw [hy1] at q5 hs1
  rw [hz0] at hs1
  rw [hz1] at hs2
  have H0 := Lib.hid hz0
  have H1 := Lib.hid hz1
  clear hx0 hx1 hy0 hy1 hz0 hz1
  obtain ⟨⟨r0, r1, r2, r3, r4, r5⟩, ⟨f0, f1, f2, f3, f4, f5⟩, -, -⟩ := wr_facts HB.out
  go_upto_region 8 with (first | (go_at_call_of 74 (Value.int .i64 x0); refine (hs1 _).mono ?_; rintro e w7 ⟨rfl, rfl⟩) | (go_at_call_of 74 (Value.int .i64 x1); refine (hs2 _).mono ?_; rintro e w7 ⟨rfl, rfl⟩))
  go_upto_region 9 with fail
  have HD := wr_cd HB.out (a.c - b.d) (a.d - b.c)
  rw [H0.out, H1.out] at HD
  have HD := Lib.hid HD
  generalize World.setCell _ _ _ = W4 at HD ⊢
  clear p0 p1 p2 p3 p4 p5 q0 q1 q2 q3 q4 q5 po pc pk
  clear r0 r1 r2 r3 r4 r5 f0 f1 f2 f3 f4 f5
  clear HB hs1 hs2
  have HB := HD
  clear HD
  subst hr
  obtain ⟨⟨r0, r1, r2, r3, r4, r5⟩, ⟨f0, f1, f2, f3, f4, f5⟩, ⟨g0, g1, g2, g3, g4, g5⟩, ⟨z0, z1, z2, z3, z4, z5⟩⟩ := wr_facts HB.out
  go_wp2
  exact bodyPost_ret (v := numV ⟨tv, tm, A.a, A.b, a.c - b.d, a.d - b.c⟩) (by unfold numV; simp [results, Try.results51, go_sem, z0, z1, z2, z3, z4, z5]) rfl ⟨by rw [← HA.out, ← HT.out, ← HM.out]; rfl, below_out HB.out.2.2.2.2 _ _ _ _ _ _⟩
set_option maxHeartbeats 4000000 in
theorem xr_sub_o_yn (a b : K) (one : Bool) (c k : B64) (w : World) (hu : ¬ u b.b ≤ u a.a) (h1 : fitS (s a.c - s b.d) = true) (h2 : fitS (s a.d - s b.c) = false) : Calls Try.prog 51 #[pairV a b one c k] w (Gives (numV (⟨twoV 1 a.v a.m b.v b.m, twoM 1 a.v a.m b.v b.m, 0#64, full, half, most⟩)) w) := by
  have hR := Lib.hid (wr2_new w a b one c k)
  unfold Gives pairV pairC
  unfold pairC at hR
  have hun := fun W => xr_unknown W
  unfold numV at hun
  obtain ⟨A, hA⟩ : ∃ A, allK = A := ⟨_, rfl⟩
  rw [hA] at hun
  have HA := Lib.hid hA
  clear hA
  go_enter Try.func51, Try.ntmps51
  go_upto_region 2 with (go_at_call 29; refine (hun _).mono ?_; rintro e w1 ⟨rfl, hb⟩; have HB := Lib.hid (wr_new hR.out hb A); clear hb)
  generalize w1.alloc _ = W at HB ⊢
  generalize w1.heap.size = m at HB ⊢
  clear hun hR w1
  have htw := fun W => sub_tnum a.v a.m b.v b.m W
  obtain ⟨tv, ht⟩ : ∃ t, twoV 1 a.v a.m b.v b.m = t := ⟨_, rfl⟩
  obtain ⟨tm, hm⟩ : ∃ t, twoM 1 a.v a.m b.v b.m = t := ⟨_, rfl⟩
  rw [ht, hm] at htw
  have HT := Lib.hid ht
  have HM := Lib.hid hm
  clear ht hm
  unfold tnV at htw
  obtain ⟨⟨p0, p1, p2, p3, p4, p5⟩, ⟨q0, q1, q2, q3, q4, q5⟩, po, pc, pk⟩ := pair_cells HB.out.1
  go_upto_region 3 with (go_at_call 73; refine (htw _).mono ?_; rintro e w2 ⟨rfl, hb⟩; have HC := Lib.hid (wr_keep2 HB.out hb); clear hb; clear p0 p1 p2 p3 p4 p5 q0 q1 q2 q3 q4 q5 po pc pk; obtain ⟨⟨r0, r1, r2, r3, r4, r5⟩, ⟨f0, f1, f2, f3, f4, f5⟩, -, -⟩ := wr_facts HC.out)
  have HD := Lib.hid (wr_vm HC.out tv tm)
  generalize World.setCell _ _ _ = W2 at HD ⊢
  obtain ⟨r, hr⟩ : ∃ r, (⟨tv, tm, A.a, A.b, A.c, A.d⟩ : K) = r := ⟨_, rfl⟩
  rw [hr] at HD
  clear r0 r1 r2 r3 r4 r5 f0 f1 f2 f3 f4 f5
  clear htw HB HC w2
  have HB := HD
  clear HD
  obtain ⟨⟨p0, p1, p2, p3, p4, p5⟩, ⟨q0, q1, q2, q3, q4, q5⟩, po, pc, pk⟩ := pair_cells HB.out.1
  obtain ⟨⟨r0, r1, r2, r3, r4, r5⟩, ⟨f0, f1, f2, f3, f4, f5⟩, -, -⟩ := wr_facts HB.out
  go_upto_region 5 with fail
  clear r0 r1 r2 r3 r4 r5 f0 f1 f2 f3 f4 f5
  have hs1 := fun W => dif_x a.c b.d W
  have hs2 := fun W => dif_x a.d b.c W
  rw [h1] at hs1
  rw [h2] at hs2
  clear h2
  clear h1
  obtain ⟨x0, hx0⟩ : ∃ t, s a.c = t := ⟨_, rfl⟩
  obtain ⟨x1, hx1⟩ : ∃ t, s a.d = t := ⟨_, rfl⟩
  obtain ⟨y0, hy0⟩ : ∃ t, s b.c = t := ⟨_, rfl⟩
  obtain ⟨y1, hy1⟩ : ∃ t, s b.d = t := ⟨_, rfl⟩
  obtain ⟨z0, hz0⟩ : ∃ t, s (a.c - b.d) = t := ⟨_, rfl⟩
  obtain ⟨z1, hz1⟩ : ∃ t, s (a.d - b.c) = t := ⟨_, rfl⟩
  rw [hx0] at p4 hs1
  rw [hx1] at p5 hs2
  rw [hy0] at q4 hs2
  rw [hy1] at q5 hs1
  rw [hz0] at hs1
  rw [hz1] at hs2
  have H0 := Lib.hid hz0
  have H1 := Lib.hid hz1
  clear hx0 hx1 hy0 hy1 hz0 hz1
  go_upto_region 9 with (first | (go_at_call_of 74 (Value.int .i64 x0); refine (hs1 _).mono ?_; rintro e w7 ⟨rfl, rfl⟩) | (go_at_call_of 74 (Value.int .i64 x1); refine (hs2 _).mono ?_; rintro e w7 ⟨rfl, rfl⟩))
  clear p0 p1 p2 p3 p4 p5 q0 q1 q2 q3 q4 q5 po pc pk
  clear hs1 hs2
  subst hr
  obtain ⟨⟨r0, r1, r2, r3, r4, r5⟩, ⟨f0, f1, f2, f3, f4, f5⟩, ⟨g0, g1, g2, g3, g4, g5⟩, ⟨z0, z1, z2, z3, z4, z5⟩⟩ := wr_facts HB.out
  go_wp2
  exact bodyPost_ret (v := numV ⟨tv, tm, A.a, A.b, A.c, A.d⟩) (by unfold numV; simp [results, Try.results51, go_sem, z0, z1, z2, z3, z4, z5]) rfl ⟨by rw [← HA.out, ← HT.out, ← HM.out]; rfl, below_out HB.out.2.2.2.2 _ _ _ _ _ _⟩
set_option maxHeartbeats 4000000 in
theorem xr_sub_o_n (a b : K) (one : Bool) (c k : B64) (w : World) (hu : ¬ u b.b ≤ u a.a) (h1 : fitS (s a.c - s b.d) = false) : Calls Try.prog 51 #[pairV a b one c k] w (Gives (numV (⟨twoV 1 a.v a.m b.v b.m, twoM 1 a.v a.m b.v b.m, 0#64, full, half, most⟩)) w) := by
  have hR := Lib.hid (wr2_new w a b one c k)
  unfold Gives pairV pairC
  unfold pairC at hR
  have hun := fun W => xr_unknown W
  unfold numV at hun
  obtain ⟨A, hA⟩ : ∃ A, allK = A := ⟨_, rfl⟩
  rw [hA] at hun
  have HA := Lib.hid hA
  clear hA
  go_enter Try.func51, Try.ntmps51
  go_upto_region 2 with (go_at_call 29; refine (hun _).mono ?_; rintro e w1 ⟨rfl, hb⟩; have HB := Lib.hid (wr_new hR.out hb A); clear hb)
  generalize w1.alloc _ = W at HB ⊢
  generalize w1.heap.size = m at HB ⊢
  clear hun hR w1
  have htw := fun W => sub_tnum a.v a.m b.v b.m W
  obtain ⟨tv, ht⟩ : ∃ t, twoV 1 a.v a.m b.v b.m = t := ⟨_, rfl⟩
  obtain ⟨tm, hm⟩ : ∃ t, twoM 1 a.v a.m b.v b.m = t := ⟨_, rfl⟩
  rw [ht, hm] at htw
  have HT := Lib.hid ht
  have HM := Lib.hid hm
  clear ht hm
  unfold tnV at htw
  obtain ⟨⟨p0, p1, p2, p3, p4, p5⟩, ⟨q0, q1, q2, q3, q4, q5⟩, po, pc, pk⟩ := pair_cells HB.out.1
  go_upto_region 3 with (go_at_call 73; refine (htw _).mono ?_; rintro e w2 ⟨rfl, hb⟩; have HC := Lib.hid (wr_keep2 HB.out hb); clear hb; clear p0 p1 p2 p3 p4 p5 q0 q1 q2 q3 q4 q5 po pc pk; obtain ⟨⟨r0, r1, r2, r3, r4, r5⟩, ⟨f0, f1, f2, f3, f4, f5⟩, -, -⟩ := wr_facts HC.out)
  have HD := Lib.hid (wr_vm HC.out tv tm)
  generalize World.setCell _ _ _ = W2 at HD ⊢
  obtain ⟨r, hr⟩ : ∃ r, (⟨tv, tm, A.a, A.b, A.c, A.d⟩ : K) = r := ⟨_, rfl⟩
  rw [hr] at HD
  clear r0 r1 r2 r3 r4 r5 f0 f1 f2 f3 f4 f5
  clear htw HB HC w2
  have HB := HD
  clear HD
  obtain ⟨⟨p0, p1, p2, p3, p4, p5⟩, ⟨q0, q1, q2, q3, q4, q5⟩, po, pc, pk⟩ := pair_cells HB.out.1
  obtain ⟨⟨r0, r1, r2, r3, r4, r5⟩, ⟨f0, f1, f2, f3, f4, f5⟩, -, -⟩ := wr_facts HB.out
  go_upto_region 5 with fail
  clear r0 r1 r2 r3 r4 r5 f0 f1 f2 f3 f4 f5
  have hs1 := fun W => dif_x a.c b.d W
  have hs2 := fun W => dif_x a.d b.c W
  rw [h1] at hs1
  clear h1
  obtain ⟨b2, hb2⟩ : ∃ t, fitS (s a.d - s b.c) = t := ⟨_, rfl⟩
  rw [hb2] at hs2
  clear hb2
  obtain ⟨x0, hx0⟩ : ∃ t, s a.c = t := ⟨_, rfl⟩
  obtain ⟨x1, hx1⟩ : ∃ t, s a.d = t := ⟨_, rfl⟩
  obtain ⟨y0, hy0⟩ : ∃ t, s b.c = t := ⟨_, rfl⟩
  obtain ⟨y1, hy1⟩ : ∃ t, s b.d = t := ⟨_, rfl⟩
  obtain ⟨z0, hz0⟩ : ∃ t, s (a.c - b.d) = t := ⟨_, rfl⟩
  obtain ⟨z1, hz1⟩ : ∃ t, s (a.d - b.c) = t := ⟨_, rfl⟩
  rw [hx0] at p4 hs1
  rw [hx1] at p5 hs2
  rw [hy0] at q4 hs2
  rw [hy1] at q5 hs1
  rw [hz0] at hs1
  rw [hz1] at hs2
  have H0 := Lib.hid hz0
  have H1 := Lib.hid hz1
  clear hx0 hx1 hy0 hy1 hz0 hz1
  go_upto_region 9 with (first | (go_at_call_of 74 (Value.int .i64 x0); refine (hs1 _).mono ?_; rintro e w7 ⟨rfl, rfl⟩) | (go_at_call_of 74 (Value.int .i64 x1); refine (hs2 _).mono ?_; rintro e w7 ⟨rfl, rfl⟩))
  clear p0 p1 p2 p3 p4 p5 q0 q1 q2 q3 q4 q5 po pc pk
  clear hs1 hs2
  subst hr
  obtain ⟨⟨r0, r1, r2, r3, r4, r5⟩, ⟨f0, f1, f2, f3, f4, f5⟩, ⟨g0, g1, g2, g3, g4, g5⟩, ⟨z0, z1, z2, z3, z4, z5⟩⟩ := wr_facts HB.out
  go_wp2
  exact bodyPost_ret (v := numV ⟨tv, tm, A.a, A.b, A.c, A.d⟩) (by unfold numV; simp [results, Try.results51, go_sem, z0, z1, z2, z3, z4, z5]) rfl ⟨by rw [← HA.out, ← HT.out, ← HM.out]; rfl, below_out HB.out.2.2.2.2 _ _ _ _ _ _⟩
theorem xr_sub (a b : K) (one : Bool) (c k : B64) (w : World) : Calls Try.prog 51 #[pairV a b one c k] w (Gives (numV (rowSub a b)) w) := by
  unfold rowSub subU subS
  by_cases hu : u b.b ≤ u a.a
  · rw [decide_eq_true hu]
    simp only [if_true]
    cases h1 : fitS (s a.c - s b.d)
    · rw [Bool.false_and]
      simp only [Bool.false_eq_true, if_false]
      exact xr_sub_u_n a b one c k w hu h1
    · cases h2 : fitS (s a.d - s b.c)
      · rw [Bool.and_false]
        simp only [Bool.false_eq_true, if_false]
        exact xr_sub_u_yn a b one c k w hu h1 h2
      · rw [Bool.and_true]
        simp only [if_true]
        exact xr_sub_u_yy a b one c k w hu h1 h2
  · rw [decide_eq_false hu]
    simp only [Bool.false_eq_true, if_false]
    cases h1 : fitS (s a.c - s b.d)
    · rw [Bool.false_and]
      simp only [Bool.false_eq_true, if_false]
      exact xr_sub_o_n a b one c k w hu h1
    · cases h2 : fitS (s a.d - s b.c)
      · rw [Bool.and_false]
        simp only [Bool.false_eq_true, if_false]
        exact xr_sub_o_yn a b one c k w hu h1 h2
      · rw [Bool.and_true]
        simp only [if_true]
        exact xr_sub_o_yy a b one c k w hu h1 h2
end Go.Proofs.Ytogadmlnmcojpaa

/-
  Proved here: what the rows' Neg of package xfer returns. Conditions: none.
-/
namespace Go.Proofs.Ytogadmlnmcojpaa
open Go.RowKit

def Six (w0 : World) (a : K) (W : World) : Prop :=
  W.cell? ⟨w0.heap.size, 0, none⟩ = some (.int .u64 (u a.v)) ∧ W.cell? ⟨w0.heap.size, 1, none⟩ = some (.int .u64 (u a.m)) ∧ W.cell? ⟨w0.heap.size, 2, none⟩ = some (.int .u64 (u a.a)) ∧ W.cell? ⟨w0.heap.size, 3, none⟩ = some (.int .u64 (u a.b)) ∧
    W.cell? ⟨w0.heap.size, 4, none⟩ = some (.int .i64 (s a.c)) ∧ W.cell? ⟨w0.heap.size, 5, none⟩ = some (.int .i64 (s a.d))
def NegB (w0 : World) (a b : K) (one : Bool) (c k : B64) (W : World) : Prop := PairAt w0.heap.size a b one c k W ∧ OutAt (w0.heap.size + 1) zeroK W ∧ Below w0.heap.size w0 W
section
variable {w0 W W' : World} {a b : K} {one : Bool} {c k : B64}
theorem negB_keep (h : NegB w0 a b one c k W) (hb : Below W.heap.size W W') : NegB w0 a b one c k W' :=
  ⟨pair_keep h.1 hb, out_keep h.2.1 hb, h.2.2.trans (hb.mono h.2.2.size)⟩
theorem negB_facts (h : NegB w0 a b one c k W) : W.cell? ⟨w0.heap.size, 0, none⟩ = some (.int .u64 (u a.v)) ∧ W.cell? ⟨w0.heap.size, 1, none⟩ = some (.int .u64 (u a.m)) ∧ W.cell? ⟨w0.heap.size, 2, none⟩ = some (.int .u64 (u a.a)) ∧ W.cell? ⟨w0.heap.size, 3, none⟩ = some (.int .u64 (u a.b)) ∧
    W.cell? ⟨w0.heap.size, 4, none⟩ = some (.int .i64 (s a.c)) ∧ W.cell? ⟨w0.heap.size, 5, none⟩ = some (.int .i64 (s a.d)) ∧ NegB w0 a b one c k W := by
  obtain ⟨h0, h1, h2, h3, h4, h5⟩ := (pair_cells h.1).1
  exact ⟨h0, h1, h2, h3, h4, h5, h⟩
theorem out_six {n : Nat} {z : K} {W : World} (h : OutAt n z W) (q : K) : OutAt n q ((((((W.setCell ⟨n, 0, none⟩ (.int .u64 (u q.v))).setCell ⟨n, 1, none⟩ (.int .u64 (u q.m))).setCell ⟨n, 2, none⟩ (.int .u64 (u q.a))).setCell ⟨n, 3, none⟩ (.int .u64 (u q.b))).setCell ⟨n, 4, none⟩ (.int .i64 (s q.c))).setCell ⟨n, 5, none⟩ (.int .i64 (s q.d))) := by
  unfold OutAt at *
  simp [World.setCell, Array.getElem?_modify, h]
end
set_option maxHeartbeats 8000000 in
theorem xr_neg (a b : K) (one : Bool) (c k : B64) (w : World) : Calls Try.prog 58 #[pairV a b one c k] w (Gives (numV (rowSub (oneK 0#64) a)) w) := by
  have h2 := wr2_new w a b one c k
  have HN := Lib.hid (show NegB w a b one c k _ from ⟨h2.1, h2.2.1, h2.2.2.2⟩)
  clear h2
  have hc := fun W => const_num 0#64 W
  have hs := fun W => xr_sub (oneK 0#64) a false 0#64 0#64 W
  obtain ⟨O, hO⟩ : ∃ O, oneK 0#64 = O := ⟨_, rfl⟩
  obtain ⟨r, hr⟩ : ∃ r, rowSub O a = r := ⟨_, rfl⟩
  rw [hO] at hc hs ⊢
  rw [hr] at hs ⊢
  clear hO hr
  unfold numV at hc hs
  unfold pairV pairC at hs
  rw [u_0] at hc hs
  unfold Gives pairV numV
  unfold pairC at HN ⊢
  go_enter Try.func58, Try.ntmps58
  go_wp2
  generalize World.alloc _ _ = W0 at HN ⊢
  have H0 := Lib.hid (negB_keep HN.out ((Below.refl W0.heap.size W0).drew))
  obtain ⟨p0, p1, p2, p3, p4, p5⟩ := (pair_cells HN.out.1).1
  clear HN
  go_region_with (first
    | (go_at_call 17; refine (hc _).mono ?_; rintro e w1 ⟨rfl, hb⟩; have H1 := Lib.hid (negB_keep H0.out hb); clear hb p0 p1 p2 p3 p4 p5; obtain ⟨p0, p1, p2, p3, p4, p5⟩ := (pair_cells H1.out.1).1)
    | (go_at_call 51; refine (hs _).mono ?_; rintro e w2 ⟨rfl, hb⟩; have H2 := Lib.hid (negB_keep H1.out hb); clear hb; obtain ⟨f0, f1, f2, f3, f4, f5⟩ := out_free H2.out.2.1; obtain ⟨z0, z1, z2, z3, z4, z5⟩ := out_cells H2.out.2.1))
  all_goals
    have HD := Lib.hid (out_six H2.out.2.1 r)
    have HL := Lib.hid (below_out H2.out.2.2 (.int .u64 (u r.v)) (.int .u64 (u r.m)) (.int .u64 (u r.a)) (.int .u64 (u r.b)) (.int .i64 (s r.c)) (.int .i64 (s r.d)))
    generalize World.setCell _ _ _ = W3 at HD HL ⊢
    clear f0 f1 f2 f3 f4 f5 z0 z1 z2 z3 z4 z5
    obtain ⟨z0, z1, z2, z3, z4, z5⟩ := out_cells HD.out
    go_wp2
    exact bodyPost_ret (v := numV r) (by unfold numV; simp [results, Try.results58, go_sem, z0, z1, z2, z3, z4, z5]) rfl ⟨rfl, HL.out⟩
end Go.Proofs.Ytogadmlnmcojpaa
