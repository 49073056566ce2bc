/-
  Proved here: what the document's holds of layer 9 tells of bits in common, and of none. Conditions: none.
-/
import Derived.Test.YtbljijbmjccalaaD1
import Derived.MapKept
namespace Go.Proofs.Ytbljijbmjccalaa
open Go.RowKit Go.MapKept
theorem u_not (x : B64) : IntKind.u64.wrap (18446744073709551615 - u x) = u (~~~x) := by
  have h : (~~~x).toNat = 2 ^ 64 - 1 - x.toNat := BitVec.toNat_not
  have hl := x.isLt
  rw [wrap_u]
  unfold u
  omega
theorem mtV_eq (va ma vb mb : B64) : mtV va ma vb mb = .tuple #[tnV (mV va ma vb mb) (mM va ma vb mb), .bool (mtOk va ma vb mb)] := by
  unfold mtV mV mM
  cases h : mtOk va ma vb mb
  · rw [if_neg (by simp), if_neg (by simp), if_neg (by simp)]
  · rw [if_pos rfl, if_pos rfl, if_pos rfl]
theorem hx_drews {w0 W : World} {a b x y : K} {g h : Nat} (hx : HX w0 a b x y g h W) : ∀ n : Nat, HX w0 a b x y g h (W.drewN n)
  | 0 => hx
  | n + 1 => hx_keep (hx_drews hx n) (Below.refl _ _).drew
theorem sum_zero : ∀ k, dsum 2 k 0 = 0
  | 0 => rfl
  | k + 1 => by
    show 0 % 2 + dsum 2 k (0 / 2) = 0
    rw [Nat.zero_div, sum_zero k]
theorem sum_le : ∀ k n, dsum 2 k n ≤ k
  | 0, _ => Nat.le_refl _
  | k + 1, n => by
    have := sum_le k (n / 2)
    show n % 2 + dsum 2 k (n / 2) ≤ k + 1
    omega
theorem round_facts {N C : Nat} (hC : C < 2 ^ 64) (hN : N ≤ 64) : ∃ r d : Nat, C % 2 = r ∧ C / 2 = d ∧ ((C : Int)).tmod 2 = (r : Int) ∧ ((C : Int)).tdiv 2 = (d : Int) ∧ IntKind.i64.wrap (r : Int) = (r : Int) ∧ IntKind.u64.wrap (d : Int) = (d : Int)
    ∧ IntKind.i64.wrap ((N : Int) + (r : Int)) = ((N + r : Nat) : Int) ∧ wrap64 ((N : Int) + (r : Int)) = ((N + r : Nat) : Int) ∧ IntKind.u64.wrap (r : Int) = (r : Int) ∧ wrap64 (r : Int) = (r : Int) := by
  have e5 : IntKind.i64.wrap ((N : Int) + ((C % 2 : Nat) : Int)) = ((N + C % 2 : Nat) : Int) := by rw [wrap_s]; omega
  have e3 : IntKind.i64.wrap ((C % 2 : Nat) : Int) = ((C % 2 : Nat) : Int) := by rw [wrap_s]; omega
  refine ⟨C % 2, C / 2, rfl, rfl, (Int.ofNat_tmod C 2).symm, (Int.ofNat_tdiv C 2).symm, e3, ?_, e5, ?_, ?_, ?_⟩
  · rw [wrap_u]; omega
  · rw [← IntWalk.i64_left, e5]
  · rw [wrap_u]; omega
  · rw [← IntWalk.i64_left, e3]
theorem sum_step {k C : Nat} (h : 0 < C) (hk : C < 2 ^ k) : ∃ j, k = j + 1 ∧ C / 2 < 2 ^ j ∧ dsum 2 k C = C % 2 + dsum 2 j (C / 2) := by
  cases k with
  | zero => rw [Nat.pow_zero] at hk; omega
  | succ j => exact ⟨j, rfl, by rw [Nat.pow_succ] at hk; omega, rfl⟩
attribute [local go_sem] u_and u_or u_xor u_andNot u_add u_sub u_not s_conv u_conv max_u min_u max_s min_s u_inc u_less s_inc s_less s_inc64 s_less64
set_option linter.unusedSimpArgs false

set_option maxRecDepth 100000 in
set_option maxHeartbeats 8000000 in
theorem ho_apart_skip (x y : K) (w : World) (hs : ¬ u y.m = 0) : Calls Try.prog 16 #[.int .u8 64, .int .i64 2, numV x, numV y] w (Gives (backV x y (apartT x y)) w) := by
  refine hold_head 64 2 x y w _ ?_
  intro g h W hx
  intros
  have HW := Lib.hid hx
  clear hx
  unfold apartT
  rw [if_neg hs]
  have ho := fun W => one_ref y W
  rw [decide_eq_false hs] at ho
  clear hs
  unfold numV at ho
  obtain ⟨code, hcode⟩ : ∃ c, tl 2 (Try.f16.body.getD .skip) = c := ⟨_, rfl⟩
  rw [hcode]
  dsimp only [tl, Try.f16, Option.getD] at hcode
  subst hcode
  obtain ⟨b0, b1, b2, b3, b4, b5⟩ := num_cells HW.out.1.1.2
  go_upto_region 58 with (go_at_call 31; refine (ho _).mono ?_; rintro e w1 ⟨rfl, hb⟩; have HV := Lib.hid (hx_keep HW.out hb); clear hb b0 b1 b2 b3 b4 b5; )
  clear HW
  have HW := HV
  clear HV
  all_goals
    refine wp_first (c' := hdC (tl 3 (Try.f16.body.getD .skip))) (by kernel_rfl) ?_
    refine hold_end x y (x) (y) g h w _ ?_ _ (by intro a' w' h'; apply_assumption; exact h') _ _ _ _ _ _ _ _ _ _ _ _ _ _ _ _ _ _ _ _ _ _ _ _ _ _ _ _ _ _ _ _ _ _ _ _ _ _ _ _ _ _ _ _ _ _ _ _ _ _ _ _ _ _ _ _ _ _ _ _ _ _ _ _ _ _ _ _ _ _ _ _ _ _ _ _ _ _ _ _ _ _ _ _ _ _ _ _ _ _ _ _ _ _ _ _ _ _ _ _ _ _ _ _ _ _ _ _ _ _ _ _ _ _ _ _ _ _ _ _ _ _ _ _ _ _ _ _ _ _ _ _ _ _ _ _ _ _ _ _ _ _ _ _ _ _ _ _ _ _ _ _ _ _ _ _ _ _ _ _ _ _ _ _ _ _ _ _ _ _ _ _ _ _ _ _ _ _ _ _ _ _ _ _ _ _ _ _ _ _ _ _ _ _ _ _ _ _ _ _ _ _ _ _ _ _ _ _ _ _ _ _ _ _ _ _ _ _ _ _ _ _ _ _ _ _ _ _ _ _ _ _ _ _ _ _ _ _ _ _ _ _ _ _ _ _ _ _ _ _ _ _ _ _ _ _ _ _ _ _ _ _ _ _ _ _ _
    first
      | (exact HW.out)
set_option maxRecDepth 100000 in
set_option maxHeartbeats 8000000 in
theorem ho_apart_no (x y : K) (w : World) (hs : u y.m = 0) (hok : mtOk x.v x.m (0#64) (~~~y.v) = false) : Calls Try.prog 16 #[.int .u8 64, .int .i64 2, numV x, numV y] w (Gives (backV x y (apartT x y)) w) := by
  refine hold_head 64 2 x y w _ ?_
  intro g h W hx
  intros
  have HW := Lib.hid hx
  clear hx
  unfold apartT
  rw [if_pos hs]
  unfold metT
  rw [hok]
  have hm := fun W => meet_ref x.v x.m (0#64) (~~~y.v) W
  rw [mtV_eq, hok] at hm
  clear hok
  obtain ⟨V, hV⟩ : ∃ V, mV x.v x.m (0#64) (~~~y.v) = V := ⟨_, rfl⟩
  obtain ⟨M, hM⟩ : ∃ M, mM x.v x.m (0#64) (~~~y.v) = M := ⟨_, rfl⟩
  rw [hV, hM] at hm ⊢
  clear hV hM
  have hb : backV x y ⟨false, x.put V M, y⟩ = .tuple #[numV x, numV y, .bool false] := by
    unfold backV Tw.good
    rw [if_neg (by simp)]
  rw [hb]
  clear hb
  have ho := fun W => one_ref y W
  rw [decide_eq_true hs] at ho
  clear hs
  unfold numV at ho
  unfold tnV at hm
  rw [u_0] at hm
  obtain ⟨code, hcode⟩ : ∃ c, tl 2 (Try.f16.body.getD .skip) = c := ⟨_, rfl⟩
  rw [hcode]
  dsimp only [tl, Try.f16, Option.getD] at hcode
  subst hcode
  obtain ⟨b0, b1, b2, b3, b4, b5⟩ := num_cells HW.out.1.1.2
  go_upto_region 16 with (go_at_call 31; refine (ho _).mono ?_; rintro e w1 ⟨rfl, hb⟩; have HV1 := Lib.hid (hx_keep HW.out hb); clear hb b0 b1 b2 b3 b4 b5; obtain ⟨a0, a1, a2, a3, a4, a5⟩ := num_cells HV1.out.1.1.1; obtain ⟨b0, b1, b2, b3, b4, b5⟩ := num_cells HV1.out.1.1.2)
  go_upto_region 17 with (go_at_call 32; refine (hm _).mono ?_; rintro e w1 ⟨rfl, hb⟩; have HV := Lib.hid (hx_keep HV1.out hb); clear hb a0 a1 a2 a3 a4 a5 b0 b1 b2 b3 b4 b5; )
  have HU := Lib.hid (hx_keep HV.out (below_box _ (.cells #[.int .u64 (u V), .int .u64 (u M)] 24)))
  have HZ := Lib.hid (heap_alloc w1 (.cells #[.int .u64 (u V), .int .u64 (u M)] 24)).1
  have HL1 := Lib.hid (num_lt HV.out.2.1)
  obtain ⟨n, hn⟩ : ∃ n, w1.heap.size = n := ⟨_, rfl⟩
  rw [hn] at HZ HL1 ⊢
  obtain ⟨W2, hW2⟩ : ∃ W2, w1.alloc (.cells #[.int .u64 (u V), .int .u64 (u M)] 24) = W2 := ⟨_, rfl⟩
  rw [hW2] at HU HZ ⊢
  clear hW2 hn HV HV1 HW
  have HW := HU
  clear HU
  obtain ⟨a0, a1, a2, a3, a4, a5⟩ := num_cells HW.out.1.1.1
  obtain ⟨b0, b1, b2, b3, b4, b5⟩ := num_cells HW.out.1.1.2
  obtain ⟨r0, r1, r2, r3, r4, r5⟩ := num_cells HW.out.1.2.1.1
  obtain ⟨t0, t1, t2, t3, t4, t5⟩ := num_cells HW.out.1.2.1.2
  obtain ⟨k0, k1, k2, k3, k4, k5⟩ := num_free HW.out.1.2.1.1
  obtain ⟨l0, l1, l2, l3, l4, l5⟩ := num_free HW.out.1.2.1.2
  go_wp2_with fail
  go_region
  all_goals
    first
      | (have HF := Lib.hid (h4_told (HW.out.1) (x) (y)); generalize World.setCell _ _ _ = Wf at HF ⊢; obtain ⟨Wg, hWg⟩ : ∃ Wg, Wf = Wg := ⟨_, rfl⟩; rw [hWg] at HF ⊢; clear hWg; obtain ⟨z0, z1, z2, z3, z4, z5⟩ := num_cells HF.out.1; obtain ⟨e0, e1, e2, e3, e4, e5⟩ := num_cells HF.out.2.1; go_wp2_with fail; exact bodyPost_ret (v := .tuple #[numV (x), numV (y), .bool false]) (by unfold numV; simp [results, Try.results16, go_sem, z0, z1, z2, z3, z4, z5, e0, e1, e2, e3, e4, e5]) rfl ⟨rfl, HF.out.2.2.drew⟩)
      | (have HF := Lib.hid (h4_told2 (HW.out.1) (x) (y)); generalize World.setCell _ _ _ = Wf at HF ⊢; obtain ⟨Wg, hWg⟩ : ∃ Wg, Wf = Wg := ⟨_, rfl⟩; rw [hWg] at HF ⊢; clear hWg; obtain ⟨z0, z1, z2, z3, z4, z5⟩ := num_cells HF.out.1; obtain ⟨e0, e1, e2, e3, e4, e5⟩ := num_cells HF.out.2.1; go_wp2_with fail; exact bodyPost_ret (v := .tuple #[numV (x), numV (y), .bool false]) (by unfold numV; simp [results, Try.results16, go_sem, z0, z1, z2, z3, z4, z5, e0, e1, e2, e3, e4, e5]) rfl ⟨rfl, HF.out.2.2.drew⟩)
set_option maxRecDepth 100000 in
set_option maxHeartbeats 8000000 in
theorem ho_apart_yes (x y : K) (w : World) (hs : u y.m = 0) (hok : mtOk x.v x.m (0#64) (~~~y.v) = true) : Calls Try.prog 16 #[.int .u8 64, .int .i64 2, numV x, numV y] w (Gives (backV x y (apartT x y)) w) := by
  refine hold_head 64 2 x y w _ ?_
  intro g h W hx
  intros
  have HW := Lib.hid hx
  clear hx
  unfold apartT
  rw [if_pos hs]
  unfold metT
  rw [hok]
  have hm := fun W => meet_ref x.v x.m (0#64) (~~~y.v) W
  rw [mtV_eq, hok] at hm
  clear hok
  obtain ⟨V, hV⟩ : ∃ V, mV x.v x.m (0#64) (~~~y.v) = V := ⟨_, rfl⟩
  obtain ⟨M, hM⟩ : ∃ M, mM x.v x.m (0#64) (~~~y.v) = M := ⟨_, rfl⟩
  rw [hV, hM] at hm ⊢
  clear hV hM
  have ho := fun W => one_ref y W
  rw [decide_eq_true hs] at ho
  clear hs
  unfold numV at ho
  unfold tnV at hm
  rw [u_0] at hm
  obtain ⟨code, hcode⟩ : ∃ c, tl 2 (Try.f16.body.getD .skip) = c := ⟨_, rfl⟩
  rw [hcode]
  dsimp only [tl, Try.f16, Option.getD] at hcode
  subst hcode
  obtain ⟨b0, b1, b2, b3, b4, b5⟩ := num_cells HW.out.1.1.2
  go_upto_region 16 with (go_at_call 31; refine (ho _).mono ?_; rintro e w1 ⟨rfl, hb⟩; have HV1 := Lib.hid (hx_keep HW.out hb); clear hb b0 b1 b2 b3 b4 b5; obtain ⟨a0, a1, a2, a3, a4, a5⟩ := num_cells HV1.out.1.1.1; obtain ⟨b0, b1, b2, b3, b4, b5⟩ := num_cells HV1.out.1.1.2)
  go_upto_region 17 with (go_at_call 32; refine (hm _).mono ?_; rintro e w1 ⟨rfl, hb⟩; have HV := Lib.hid (hx_keep HV1.out hb); clear hb a0 a1 a2 a3 a4 a5 b0 b1 b2 b3 b4 b5; )
  have HU := Lib.hid (hx_keep HV.out (below_box _ (.cells #[.int .u64 (u V), .int .u64 (u M)] 24)))
  have HZ := Lib.hid (heap_alloc w1 (.cells #[.int .u64 (u V), .int .u64 (u M)] 24)).1
  have HL1 := Lib.hid (num_lt HV.out.2.1)
  obtain ⟨n, hn⟩ : ∃ n, w1.heap.size = n := ⟨_, rfl⟩
  rw [hn] at HZ HL1 ⊢
  obtain ⟨W2, hW2⟩ : ∃ W2, w1.alloc (.cells #[.int .u64 (u V), .int .u64 (u M)] 24) = W2 := ⟨_, rfl⟩
  rw [hW2] at HU HZ ⊢
  clear hW2 hn HV HV1 HW
  have HW := HU
  clear HU
  have t0 : W2.cell? ⟨n, 0, none⟩ = some (.int .u64 (u V)) := by simp [World.cell?, HZ.out]
  have t1 : W2.cell? ⟨n, 1, none⟩ = some (.int .u64 (u M)) := by simp [World.cell?, HZ.out]
  have nq1 : (n = g) = False := by have := HL1.out; simp; omega
  have nr1 : (g = n) = False := by have := HL1.out; simp; omega
  obtain ⟨x0, x1, x2, x3, x4, x5⟩ := num_cells HW.out.2.1
  obtain ⟨i0, i1, i2, i3, i4, i5⟩ := num_free HW.out.2.1
  go_upto_region 58 with fail
  all_goals
    refine wp_first (c' := hdC (tl 3 (Try.f16.body.getD .skip))) (by kernel_rfl) ?_
    refine hold_end x y (x.put V M) (y) g h w _ ?_ _ (by intro a' w' h'; apply_assumption; exact h') _ _ _ _ _ _ _ _ _ _ _ _ _ _ _ _ _ _ _ _ _ _ _ _ _ _ _ _ _ _ _ _ _ _ _ _ _ _ _ _ _ _ _ _ _ _ _ _ _ _ _ _ _ _ _ _ _ _ _ _ _ _ _ _ _ _ _ _ _ _ _ _ _ _ _ _ _ _ _ _ _ _ _ _ _ _ _ _ _ _ _ _ _ _ _ _ _ _ _ _ _ _ _ _ _ _ _ _ _ _ _ _ _ _ _ _ _ _ _ _ _ _ _ _ _ _ _ _ _ _ _ _ _ _ _ _ _ _ _ _ _ _ _ _ _ _ _ _ _ _ _ _ _ _ _ _ _ _ _ _ _ _ _ _ _ _ _ _ _ _ _ _ _ _ _ _ _ _ _ _ _ _ _ _ _ _ _ _ _ _ _ _ _ _ _ _ _ _ _ _ _ _ _ _ _ _ _ _ _ _ _ _ _ _ _ _ _ _ _ _ _ _ _ _ _ _ _ _ _ _ _ _ _ _ _ _ _ _ _ _ _ _ _ _ _ _ _ _ _ _ _ _ _ _ _ _ _ _ _ _ _ _ _ _ _ _ _
    first
      | (exact hx_putx (hx_putx HW.out _ _ (num_v HW.out.2.1 V)) _ _ (num_m (num_v HW.out.2.1 V) M))
set_option maxRecDepth 100000 in
set_option maxHeartbeats 8000000 in
theorem ho_common_skipA (x y : K) (w : World) (hs1 : ¬ u y.m = 0) : Calls Try.prog 16 #[.int .u8 64, .int .i64 1, numV x, numV y] w (Gives (backV x y (commonT x y)) w) := by
  refine hold_head 64 1 x y w _ ?_
  intro g h W hx
  intros
  have HW := Lib.hid hx
  clear hx
  unfold commonT
  have hs : ¬ (u y.m = 0 ∧ ones y.v.toNat = 1) := by rintro ⟨e1, e2⟩; exact hs1 (e1)
  rw [if_neg hs]
  have ho := fun W => one_ref y W
  obtain ⟨p, hp⟩ : ∃ p, decide (u y.m = 0) = p := ⟨_, rfl⟩
  obtain ⟨q, hq⟩ : ∃ q, (((ones y.v.toNat : Nat) : Int) == 1) = q := ⟨_, rfl⟩
  rw [hp] at ho
  have e1 : p = false := by rw [← hp]; exact decide_eq_false hs1
  subst e1
  clear hp hs hs1
  unfold ones at hq
  obtain ⟨O, hO⟩ : ∃ O, dsum 2 64 y.v.toNat = O := ⟨_, rfl⟩
  rw [hO] at hq
  obtain ⟨Y, hY⟩ : ∃ Y, y.v.toNat = Y := ⟨_, rfl⟩
  have hYl : Y < 2 ^ 64 := by rw [← hY]; exact y.v.isLt
  have hu : u y.v = (Y : Int) := by rw [← hY]; rfl
  rw [hY] at hO
  clear hY
  unfold numV at ho
  obtain ⟨code, hcode⟩ : ∃ c, tl 2 (Try.f16.body.getD .skip) = c := ⟨_, rfl⟩
  rw [hcode]
  dsimp only [tl, Try.f16, Option.getD] at hcode
  subst hcode
  obtain ⟨b0, b1, b2, b3, b4, b5⟩ := num_cells HW.out.1.1.2
  rw [hu] at b0
  go_upto_region 5 with fail
  go_quiet (fail)
  have HV := Lib.hid (hx_drews HW.out nq)
  clear b0 b1 b2 b3 b4 b5 HW
  obtain ⟨W', hW'⟩ : ∃ W', W.drewN nq = W' := ⟨_, rfl⟩
  rw [hW'] at HV ⊢
  clear hW'
  have HW := HV
  clear HV
  go_wp2_with fail
  go_loop [13, 14] (fun n c => ∃ N C k : Nat, n = .int .i64 N ∧ c = .int .u64 C ∧ C < 2 ^ k ∧ k ≤ 64 ∧ N + dsum 2 k C = O) (fun n c => (intOf c).toNat)
  case atStart => exact ⟨0, Y, 64, rfl, rfl, hYl, Nat.le_refl _, by rw [Nat.zero_add]; exact hO⟩
  case round =>
    obtain ⟨N, C, k, rfl, rfl, hC, hk, hsum⟩ := hrel
    have hN : N ≤ O := by rw [← hsum]; exact Nat.le_add_right _ _
    by_cases h0 : C = 0
    · subst h0
      rw [sum_zero, Nat.add_zero] at hsum
      subst hsum
      clear hC hk hN hu hYl
      obtain ⟨b0, b1, b2, b3, b4, b5⟩ := num_cells HW.out.1.1.2
      go_upto_region 58 with (go_at_call 31; refine (ho _).mono ?_; rintro e w1 ⟨rfl, hb⟩; have HV := Lib.hid (hx_keep HW.out hb); clear hb b0 b1 b2 b3 b4 b5; )
      clear HW
      have HW := HV
      clear HV
      all_goals
        refine wp_first (c' := hdC (tl 3 (Try.f16.body.getD .skip))) (by kernel_rfl) ?_
        refine hold_end x y (x) (y) g h w _ ?_ _ (by intro a' w' h'; apply_assumption; exact h') _ _ _ _ _ _ _ _ _ _ _ _ _ _ _ _ _ _ _ _ _ _ _ _ _ _ _ _ _ _ _ _ _ _ _ _ _ _ _ _ _ _ _ _ _ _ _ _ _ _ _ _ _ _ _ _ _ _ _ _ _ _ _ _ _ _ _ _ _ _ _ _ _ _ _ _ _ _ _ _ _ _ _ _ _ _ _ _ _ _ _ _ _ _ _ _ _ _ _ _ _ _ _ _ _ _ _ _ _ _ _ _ _ _ _ _ _ _ _ _ _ _ _ _ _ _ _ _ _ _ _ _ _ _ _ _ _ _ _ _ _ _ _ _ _ _ _ _ _ _ _ _ _ _ _ _ _ _ _ _ _ _ _ _ _ _ _ _ _ _ _ _ _ _ _ _ _ _ _ _ _ _ _ _ _ _ _ _ _ _ _ _ _ _ _ _ _ _ _ _ _ _ _ _ _ _ _ _ _ _ _ _ _ _ _ _ _ _ _ _ _ _ _ _ _ _ _ _ _ _ _ _ _ _ _ _ _ _ _ _ _ _ _ _ _ _ _ _ _ _ _ _ _ _ _ _ _ _ _ _ _ _ _ _ _ _ _
        first
          | (exact HW.out)
    · have hc : (0 : Int) < (C : Int) := by omega
      obtain ⟨j, rfl, h1, h2⟩ := sum_step (Nat.pos_of_ne_zero h0) hC
      have hCb : C < 2 ^ 64 := Nat.lt_of_lt_of_le hC (Nat.pow_le_pow_right (by omega) hk)
      have hO64 : O ≤ 64 := by rw [← hO]; exact sum_le 64 Y
      have hN64 : N ≤ 64 := Nat.le_trans hN hO64
      obtain ⟨r, d, hr, hd, e1, e2, e3, e4, e5, e6, e7, e8⟩ := round_facts hCb hN64
      rw [hr, hd] at h2
      rw [hd] at h1
      clear hO
      have q1 : d < C := by rw [← hd]; exact Nat.div_lt_self (Nat.pos_of_ne_zero h0) (Nat.lt_succ_self 1)
      have q2 : (N + r) + dsum 2 j d = O := by rw [← hsum, h2, Nat.add_assoc]
      have q3 : j ≤ 64 := Nat.le_of_succ_le hk
      have HR := Lib.hid (show d < 2 ^ j ∧ j ≤ 64 ∧ (N + r) + dsum 2 j d = O ∧ d < C from ⟨h1, q3, q2, q1⟩)
      clear hC hk hsum h1 h2 hCb hO64 hr hd hN hN64 h0 hYl hu q1 q2 q3
      go_wp2_with fail
      go_round
      case rel => exact ⟨N + r, d, j, by rw [Int.natCast_add], rfl, HR.out.1, HR.out.2.1, HR.out.2.2.1⟩
      case measure => exact HR.out.2.2.2
set_option maxRecDepth 100000 in
set_option maxHeartbeats 8000000 in
theorem ho_common_skipB (x y : K) (w : World) (hs0 : u y.m = 0) (hs1 : ¬ ones y.v.toNat = 1) : Calls Try.prog 16 #[.int .u8 64, .int .i64 1, numV x, numV y] w (Gives (backV x y (commonT x y)) w) := by
  refine hold_head 64 1 x y w _ ?_
  intro g h W hx
  intros
  have HW := Lib.hid hx
  clear hx
  unfold commonT
  have hs : ¬ (u y.m = 0 ∧ ones y.v.toNat = 1) := by rintro ⟨e1, e2⟩; exact hs1 (e2)
  rw [if_neg hs]
  have ho := fun W => one_ref y W
  obtain ⟨p, hp⟩ : ∃ p, decide (u y.m = 0) = p := ⟨_, rfl⟩
  obtain ⟨q, hq⟩ : ∃ q, (((ones y.v.toNat : Nat) : Int) == 1) = q := ⟨_, rfl⟩
  rw [hp] at ho
  have e1 : p = true := by rw [← hp]; exact decide_eq_true hs0
  have e2 : q = false := by rw [← hq, beq_eq_false_iff_ne]; have := hs1; omega
  subst e1 e2
  clear hp hs hs1 hs0
  unfold ones at hq
  obtain ⟨O, hO⟩ : ∃ O, dsum 2 64 y.v.toNat = O := ⟨_, rfl⟩
  rw [hO] at hq
  obtain ⟨Y, hY⟩ : ∃ Y, y.v.toNat = Y := ⟨_, rfl⟩
  have hYl : Y < 2 ^ 64 := by rw [← hY]; exact y.v.isLt
  have hu : u y.v = (Y : Int) := by rw [← hY]; rfl
  rw [hY] at hO
  clear hY
  unfold numV at ho
  obtain ⟨code, hcode⟩ : ∃ c, tl 2 (Try.f16.body.getD .skip) = c := ⟨_, rfl⟩
  rw [hcode]
  dsimp only [tl, Try.f16, Option.getD] at hcode
  subst hcode
  obtain ⟨b0, b1, b2, b3, b4, b5⟩ := num_cells HW.out.1.1.2
  rw [hu] at b0
  go_upto_region 5 with fail
  go_quiet (fail)
  have HV := Lib.hid (hx_drews HW.out nq)
  clear b0 b1 b2 b3 b4 b5 HW
  obtain ⟨W', hW'⟩ : ∃ W', W.drewN nq = W' := ⟨_, rfl⟩
  rw [hW'] at HV ⊢
  clear hW'
  have HW := HV
  clear HV
  go_wp2_with fail
  go_loop [13, 14] (fun n c => ∃ N C k : Nat, n = .int .i64 N ∧ c = .int .u64 C ∧ C < 2 ^ k ∧ k ≤ 64 ∧ N + dsum 2 k C = O) (fun n c => (intOf c).toNat)
  case atStart => exact ⟨0, Y, 64, rfl, rfl, hYl, Nat.le_refl _, by rw [Nat.zero_add]; exact hO⟩
  case round =>
    obtain ⟨N, C, k, rfl, rfl, hC, hk, hsum⟩ := hrel
    have hN : N ≤ O := by rw [← hsum]; exact Nat.le_add_right _ _
    by_cases h0 : C = 0
    · subst h0
      rw [sum_zero, Nat.add_zero] at hsum
      subst hsum
      clear hC hk hN hu hYl
      obtain ⟨b0, b1, b2, b3, b4, b5⟩ := num_cells HW.out.1.1.2
      go_upto_region 58 with (go_at_call 31; refine (ho _).mono ?_; rintro e w1 ⟨rfl, hb⟩; have HV := Lib.hid (hx_keep HW.out hb); clear hb b0 b1 b2 b3 b4 b5; )
      clear HW
      have HW := HV
      clear HV
      all_goals
        refine wp_first (c' := hdC (tl 3 (Try.f16.body.getD .skip))) (by kernel_rfl) ?_
        refine hold_end x y (x) (y) g h w _ ?_ _ (by intro a' w' h'; apply_assumption; exact h') _ _ _ _ _ _ _ _ _ _ _ _ _ _ _ _ _ _ _ _ _ _ _ _ _ _ _ _ _ _ _ _ _ _ _ _ _ _ _ _ _ _ _ _ _ _ _ _ _ _ _ _ _ _ _ _ _ _ _ _ _ _ _ _ _ _ _ _ _ _ _ _ _ _ _ _ _ _ _ _ _ _ _ _ _ _ _ _ _ _ _ _ _ _ _ _ _ _ _ _ _ _ _ _ _ _ _ _ _ _ _ _ _ _ _ _ _ _ _ _ _ _ _ _ _ _ _ _ _ _ _ _ _ _ _ _ _ _ _ _ _ _ _ _ _ _ _ _ _ _ _ _ _ _ _ _ _ _ _ _ _ _ _ _ _ _ _ _ _ _ _ _ _ _ _ _ _ _ _ _ _ _ _ _ _ _ _ _ _ _ _ _ _ _ _ _ _ _ _ _ _ _ _ _ _ _ _ _ _ _ _ _ _ _ _ _ _ _ _ _ _ _ _ _ _ _ _ _ _ _ _ _ _ _ _ _ _ _ _ _ _ _ _ _ _ _ _ _ _ _ _ _ _ _ _ _ _ _ _ _ _ _ _ _ _ _ _
        first
          | (exact HW.out)
    · have hc : (0 : Int) < (C : Int) := by omega
      obtain ⟨j, rfl, h1, h2⟩ := sum_step (Nat.pos_of_ne_zero h0) hC
      have hCb : C < 2 ^ 64 := Nat.lt_of_lt_of_le hC (Nat.pow_le_pow_right (by omega) hk)
      have hO64 : O ≤ 64 := by rw [← hO]; exact sum_le 64 Y
      have hN64 : N ≤ 64 := Nat.le_trans hN hO64
      obtain ⟨r, d, hr, hd, e1, e2, e3, e4, e5, e6, e7, e8⟩ := round_facts hCb hN64
      rw [hr, hd] at h2
      rw [hd] at h1
      clear hO
      have q1 : d < C := by rw [← hd]; exact Nat.div_lt_self (Nat.pos_of_ne_zero h0) (Nat.lt_succ_self 1)
      have q2 : (N + r) + dsum 2 j d = O := by rw [← hsum, h2, Nat.add_assoc]
      have q3 : j ≤ 64 := Nat.le_of_succ_le hk
      have HR := Lib.hid (show d < 2 ^ j ∧ j ≤ 64 ∧ (N + r) + dsum 2 j d = O ∧ d < C from ⟨h1, q3, q2, q1⟩)
      clear hC hk hsum h1 h2 hCb hO64 hr hd hN hN64 h0 hYl hu q1 q2 q3
      go_wp2_with fail
      go_round
      case rel => exact ⟨N + r, d, j, by rw [Int.natCast_add], rfl, HR.out.1, HR.out.2.1, HR.out.2.2.1⟩
      case measure => exact HR.out.2.2.2
set_option maxRecDepth 100000 in
set_option maxHeartbeats 8000000 in
theorem ho_common_no (x y : K) (w : World) (hs : u y.m = 0 ∧ ones y.v.toNat = 1) (hok : mtOk x.v x.m (y.v) (~~~y.v) = false) : Calls Try.prog 16 #[.int .u8 64, .int .i64 1, numV x, numV y] w (Gives (backV x y (commonT x y)) w) := by
  refine hold_head 64 1 x y w _ ?_
  intro g h W hx
  intros
  have HW := Lib.hid hx
  clear hx
  unfold commonT
  rw [if_pos hs]
  unfold metT
  rw [hok]
  have hm := fun W => meet_ref x.v x.m (y.v) (~~~y.v) W
  rw [mtV_eq, hok] at hm
  clear hok
  obtain ⟨V, hV⟩ : ∃ V, mV x.v x.m (y.v) (~~~y.v) = V := ⟨_, rfl⟩
  obtain ⟨M, hM⟩ : ∃ M, mM x.v x.m (y.v) (~~~y.v) = M := ⟨_, rfl⟩
  rw [hV, hM] at hm ⊢
  clear hV hM
  have hb : backV x y ⟨false, x.put V M, y⟩ = .tuple #[numV x, numV y, .bool false] := by
    unfold backV Tw.good
    rw [if_neg (by simp)]
  rw [hb]
  clear hb
  have ho := fun W => one_ref y W
  obtain ⟨p, hp⟩ : ∃ p, decide (u y.m = 0) = p := ⟨_, rfl⟩
  obtain ⟨q, hq⟩ : ∃ q, (((ones y.v.toNat : Nat) : Int) == 1) = q := ⟨_, rfl⟩
  rw [hp] at ho
  have e1 : p = true := by rw [← hp]; exact decide_eq_true hs.1
  have e2 : q = true := by rw [← hq, beq_iff_eq]; have := hs.2; omega
  subst e1 e2
  clear hp hs
  unfold ones at hq
  obtain ⟨O, hO⟩ : ∃ O, dsum 2 64 y.v.toNat = O := ⟨_, rfl⟩
  rw [hO] at hq
  obtain ⟨Y, hY⟩ : ∃ Y, y.v.toNat = Y := ⟨_, rfl⟩
  have hYl : Y < 2 ^ 64 := by rw [← hY]; exact y.v.isLt
  have hu : u y.v = (Y : Int) := by rw [← hY]; rfl
  rw [hY] at hO
  clear hY
  unfold numV at ho
  unfold tnV at hm
  obtain ⟨code, hcode⟩ : ∃ c, tl 2 (Try.f16.body.getD .skip) = c := ⟨_, rfl⟩
  rw [hcode]
  dsimp only [tl, Try.f16, Option.getD] at hcode
  subst hcode
  obtain ⟨b0, b1, b2, b3, b4, b5⟩ := num_cells HW.out.1.1.2
  rw [hu] at b0
  go_upto_region 5 with fail
  go_quiet (fail)
  have HV := Lib.hid (hx_drews HW.out nq)
  clear b0 b1 b2 b3 b4 b5 HW
  obtain ⟨W', hW'⟩ : ∃ W', W.drewN nq = W' := ⟨_, rfl⟩
  rw [hW'] at HV ⊢
  clear hW'
  have HW := HV
  clear HV
  go_wp2_with fail
  go_loop [13, 14] (fun n c => ∃ N C k : Nat, n = .int .i64 N ∧ c = .int .u64 C ∧ C < 2 ^ k ∧ k ≤ 64 ∧ N + dsum 2 k C = O) (fun n c => (intOf c).toNat)
  case atStart => exact ⟨0, Y, 64, rfl, rfl, hYl, Nat.le_refl _, by rw [Nat.zero_add]; exact hO⟩
  case round =>
    obtain ⟨N, C, k, rfl, rfl, hC, hk, hsum⟩ := hrel
    have hN : N ≤ O := by rw [← hsum]; exact Nat.le_add_right _ _
    by_cases h0 : C = 0
    · subst h0
      rw [sum_zero, Nat.add_zero] at hsum
      subst hsum
      clear hC hk hN hu hYl
      obtain ⟨b0, b1, b2, b3, b4, b5⟩ := num_cells HW.out.1.1.2
      go_upto_region 10 with (go_at_call 31; refine (ho _).mono ?_; rintro e w1 ⟨rfl, hb⟩; have HV1 := Lib.hid (hx_keep HW.out hb); clear hb b0 b1 b2 b3 b4 b5; obtain ⟨a0, a1, a2, a3, a4, a5⟩ := num_cells HV1.out.1.1.1; obtain ⟨b0, b1, b2, b3, b4, b5⟩ := num_cells HV1.out.1.1.2)
      go_upto_region 11 with (go_at_call 32; refine (hm _).mono ?_; rintro e w1 ⟨rfl, hb⟩; have HV := Lib.hid (hx_keep HV1.out hb); clear hb a0 a1 a2 a3 a4 a5 b0 b1 b2 b3 b4 b5; )
      have HU := Lib.hid (hx_keep HV.out (below_box _ (.cells #[.int .u64 (u V), .int .u64 (u M)] 24)))
      have HZ := Lib.hid (heap_alloc w1 (.cells #[.int .u64 (u V), .int .u64 (u M)] 24)).1
      have HL1 := Lib.hid (num_lt HV.out.2.1)
      obtain ⟨n, hn⟩ : ∃ n, w1.heap.size = n := ⟨_, rfl⟩
      rw [hn] at HZ HL1 ⊢
      obtain ⟨W2, hW2⟩ : ∃ W2, w1.alloc (.cells #[.int .u64 (u V), .int .u64 (u M)] 24) = W2 := ⟨_, rfl⟩
      rw [hW2] at HU HZ ⊢
      clear hW2 hn HV HV1 HW
      have HW := HU
      clear HU
      obtain ⟨a0, a1, a2, a3, a4, a5⟩ := num_cells HW.out.1.1.1
      obtain ⟨b0, b1, b2, b3, b4, b5⟩ := num_cells HW.out.1.1.2
      obtain ⟨r0, r1, r2, r3, r4, r5⟩ := num_cells HW.out.1.2.1.1
      obtain ⟨t0, t1, t2, t3, t4, t5⟩ := num_cells HW.out.1.2.1.2
      obtain ⟨k0, k1, k2, k3, k4, k5⟩ := num_free HW.out.1.2.1.1
      obtain ⟨l0, l1, l2, l3, l4, l5⟩ := num_free HW.out.1.2.1.2
      go_wp2_with fail
      go_region
      all_goals
        first
          | (have HF := Lib.hid (h4_told (HW.out.1) (x) (y)); generalize World.setCell _ _ _ = Wf at HF ⊢; obtain ⟨Wg, hWg⟩ : ∃ Wg, Wf = Wg := ⟨_, rfl⟩; rw [hWg] at HF ⊢; clear hWg; obtain ⟨z0, z1, z2, z3, z4, z5⟩ := num_cells HF.out.1; obtain ⟨e0, e1, e2, e3, e4, e5⟩ := num_cells HF.out.2.1; go_wp2_with fail; exact bodyPost_ret (v := .tuple #[numV (x), numV (y), .bool false]) (by unfold numV; simp [results, Try.results16, go_sem, z0, z1, z2, z3, z4, z5, e0, e1, e2, e3, e4, e5]) rfl ⟨rfl, HF.out.2.2.drew⟩)
          | (have HF := Lib.hid (h4_told2 (HW.out.1) (x) (y)); generalize World.setCell _ _ _ = Wf at HF ⊢; obtain ⟨Wg, hWg⟩ : ∃ Wg, Wf = Wg := ⟨_, rfl⟩; rw [hWg] at HF ⊢; clear hWg; obtain ⟨z0, z1, z2, z3, z4, z5⟩ := num_cells HF.out.1; obtain ⟨e0, e1, e2, e3, e4, e5⟩ := num_cells HF.out.2.1; go_wp2_with fail; exact bodyPost_ret (v := .tuple #[numV (x), numV (y), .bool false]) (by unfold numV; simp [results, Try.results16, go_sem, z0, z1, z2, z3, z4, z5, e0, e1, e2, e3, e4, e5]) rfl ⟨rfl, HF.out.2.2.drew⟩)
    · have hc : (0 : Int) < (C : Int) := by omega
      obtain ⟨j, rfl, h1, h2⟩ := sum_step (Nat.pos_of_ne_zero h0) hC
      have hCb : C < 2 ^ 64 := Nat.lt_of_lt_of_le hC (Nat.pow_le_pow_right (by omega) hk)
      have hO64 : O ≤ 64 := by rw [← hO]; exact sum_le 64 Y
      have hN64 : N ≤ 64 := Nat.le_trans hN hO64
      obtain ⟨r, d, hr, hd, e1, e2, e3, e4, e5, e6, e7, e8⟩ := round_facts hCb hN64
      rw [hr, hd] at h2
      rw [hd] at h1
      clear hO
      have q1 : d < C := by rw [← hd]; exact Nat.div_lt_self (Nat.pos_of_ne_zero h0) (Nat.lt_succ_self 1)
      have q2 : (N + r) + dsum 2 j d = O := by rw [← hsum, h2, Nat.add_assoc]
      have q3 : j ≤ 64 := Nat.le_of_succ_le hk
      have HR := Lib.hid (show d < 2 ^ j ∧ j ≤ 64 ∧ (N + r) + dsum 2 j d = O ∧ d < C from ⟨h1, q3, q2, q1⟩)
      clear hC hk hsum h1 h2 hCb hO64 hr hd hN hN64 h0 hYl hu q1 q2 q3
      go_wp2_with fail
      go_round
      case rel => exact ⟨N + r, d, j, by rw [Int.natCast_add], rfl, HR.out.1, HR.out.2.1, HR.out.2.2.1⟩
      case measure => exact HR.out.2.2.2
set_option maxRecDepth 100000 in
set_option maxHeartbeats 8000000 in
theorem ho_common_yes (x y : K) (w : World) (hs : u y.m = 0 ∧ ones y.v.toNat = 1) (hok : mtOk x.v x.m (y.v) (~~~y.v) = true) : Calls Try.prog 16 #[.int .u8 64, .int .i64 1, numV x, numV y] w (Gives (backV x y (commonT x y)) w) := by
  refine hold_head 64 1 x y w _ ?_
  intro g h W hx
  intros
  have HW := Lib.hid hx
  clear hx
  unfold commonT
  rw [if_pos hs]
  unfold metT
  rw [hok]
  have hm := fun W => meet_ref x.v x.m (y.v) (~~~y.v) W
  rw [mtV_eq, hok] at hm
  clear hok
  obtain ⟨V, hV⟩ : ∃ V, mV x.v x.m (y.v) (~~~y.v) = V := ⟨_, rfl⟩
  obtain ⟨M, hM⟩ : ∃ M, mM x.v x.m (y.v) (~~~y.v) = M := ⟨_, rfl⟩
  rw [hV, hM] at hm ⊢
  clear hV hM
  have ho := fun W => one_ref y W
  obtain ⟨p, hp⟩ : ∃ p, decide (u y.m = 0) = p := ⟨_, rfl⟩
  obtain ⟨q, hq⟩ : ∃ q, (((ones y.v.toNat : Nat) : Int) == 1) = q := ⟨_, rfl⟩
  rw [hp] at ho
  have e1 : p = true := by rw [← hp]; exact decide_eq_true hs.1
  have e2 : q = true := by rw [← hq, beq_iff_eq]; have := hs.2; omega
  subst e1 e2
  clear hp hs
  unfold ones at hq
  obtain ⟨O, hO⟩ : ∃ O, dsum 2 64 y.v.toNat = O := ⟨_, rfl⟩
  rw [hO] at hq
  obtain ⟨Y, hY⟩ : ∃ Y, y.v.toNat = Y := ⟨_, rfl⟩
  have hYl : Y < 2 ^ 64 := by rw [← hY]; exact y.v.isLt
  have hu : u y.v = (Y : Int) := by rw [← hY]; rfl
  rw [hY] at hO
  clear hY
  unfold numV at ho
  unfold tnV at hm
  obtain ⟨code, hcode⟩ : ∃ c, tl 2 (Try.f16.body.getD .skip) = c := ⟨_, rfl⟩
  rw [hcode]
  dsimp only [tl, Try.f16, Option.getD] at hcode
  subst hcode
  obtain ⟨b0, b1, b2, b3, b4, b5⟩ := num_cells HW.out.1.1.2
  rw [hu] at b0
  go_upto_region 5 with fail
  go_quiet (fail)
  have HV := Lib.hid (hx_drews HW.out nq)
  clear b0 b1 b2 b3 b4 b5 HW
  obtain ⟨W', hW'⟩ : ∃ W', W.drewN nq = W' := ⟨_, rfl⟩
  rw [hW'] at HV ⊢
  clear hW'
  have HW := HV
  clear HV
  go_wp2_with fail
  go_loop [13, 14] (fun n c => ∃ N C k : Nat, n = .int .i64 N ∧ c = .int .u64 C ∧ C < 2 ^ k ∧ k ≤ 64 ∧ N + dsum 2 k C = O) (fun n c => (intOf c).toNat)
  case atStart => exact ⟨0, Y, 64, rfl, rfl, hYl, Nat.le_refl _, by rw [Nat.zero_add]; exact hO⟩
  case round =>
    obtain ⟨N, C, k, rfl, rfl, hC, hk, hsum⟩ := hrel
    have hN : N ≤ O := by rw [← hsum]; exact Nat.le_add_right _ _
    by_cases h0 : C = 0
    · subst h0
      rw [sum_zero, Nat.add_zero] at hsum
      subst hsum
      clear hC hk hN hu hYl
      obtain ⟨b0, b1, b2, b3, b4, b5⟩ := num_cells HW.out.1.1.2
      go_upto_region 10 with (go_at_call 31; refine (ho _).mono ?_; rintro e w1 ⟨rfl, hb⟩; have HV1 := Lib.hid (hx_keep HW.out hb); clear hb b0 b1 b2 b3 b4 b5; obtain ⟨a0, a1, a2, a3, a4, a5⟩ := num_cells HV1.out.1.1.1; obtain ⟨b0, b1, b2, b3, b4, b5⟩ := num_cells HV1.out.1.1.2)
      go_upto_region 11 with (go_at_call 32; refine (hm _).mono ?_; rintro e w1 ⟨rfl, hb⟩; have HV := Lib.hid (hx_keep HV1.out hb); clear hb a0 a1 a2 a3 a4 a5 b0 b1 b2 b3 b4 b5; )
      have HU := Lib.hid (hx_keep HV.out (below_box _ (.cells #[.int .u64 (u V), .int .u64 (u M)] 24)))
      have HZ := Lib.hid (heap_alloc w1 (.cells #[.int .u64 (u V), .int .u64 (u M)] 24)).1
      have HL1 := Lib.hid (num_lt HV.out.2.1)
      obtain ⟨n, hn⟩ : ∃ n, w1.heap.size = n := ⟨_, rfl⟩
      rw [hn] at HZ HL1 ⊢
      obtain ⟨W2, hW2⟩ : ∃ W2, w1.alloc (.cells #[.int .u64 (u V), .int .u64 (u M)] 24) = W2 := ⟨_, rfl⟩
      rw [hW2] at HU HZ ⊢
      clear hW2 hn HV HV1 HW
      have HW := HU
      clear HU
      have t0 : W2.cell? ⟨n, 0, none⟩ = some (.int .u64 (u V)) := by simp [World.cell?, HZ.out]
      have t1 : W2.cell? ⟨n, 1, none⟩ = some (.int .u64 (u M)) := by simp [World.cell?, HZ.out]
      have nq1 : (n = g) = False := by have := HL1.out; simp; omega
      have nr1 : (g = n) = False := by have := HL1.out; simp; omega
      obtain ⟨x0, x1, x2, x3, x4, x5⟩ := num_cells HW.out.2.1
      obtain ⟨i0, i1, i2, i3, i4, i5⟩ := num_free HW.out.2.1
      go_upto_region 58 with fail
      all_goals
        refine wp_first (c' := hdC (tl 3 (Try.f16.body.getD .skip))) (by kernel_rfl) ?_
        refine hold_end x y (x.put V M) (y) g h w _ ?_ _ (by intro a' w' h'; apply_assumption; exact h') _ _ _ _ _ _ _ _ _ _ _ _ _ _ _ _ _ _ _ _ _ _ _ _ _ _ _ _ _ _ _ _ _ _ _ _ _ _ _ _ _ _ _ _ _ _ _ _ _ _ _ _ _ _ _ _ _ _ _ _ _ _ _ _ _ _ _ _ _ _ _ _ _ _ _ _ _ _ _ _ _ _ _ _ _ _ _ _ _ _ _ _ _ _ _ _ _ _ _ _ _ _ _ _ _ _ _ _ _ _ _ _ _ _ _ _ _ _ _ _ _ _ _ _ _ _ _ _ _ _ _ _ _ _ _ _ _ _ _ _ _ _ _ _ _ _ _ _ _ _ _ _ _ _ _ _ _ _ _ _ _ _ _ _ _ _ _ _ _ _ _ _ _ _ _ _ _ _ _ _ _ _ _ _ _ _ _ _ _ _ _ _ _ _ _ _ _ _ _ _ _ _ _ _ _ _ _ _ _ _ _ _ _ _ _ _ _ _ _ _ _ _ _ _ _ _ _ _ _ _ _ _ _ _ _ _ _ _ _ _ _ _ _ _ _ _ _ _ _ _ _ _ _ _ _ _ _ _ _ _ _ _ _ _ _ _ _
        first
          | (exact hx_putx (hx_putx HW.out _ _ (num_v HW.out.2.1 V)) _ _ (num_m (num_v HW.out.2.1 V) M))
    · have hc : (0 : Int) < (C : Int) := by omega
      obtain ⟨j, rfl, h1, h2⟩ := sum_step (Nat.pos_of_ne_zero h0) hC
      have hCb : C < 2 ^ 64 := Nat.lt_of_lt_of_le hC (Nat.pow_le_pow_right (by omega) hk)
      have hO64 : O ≤ 64 := by rw [← hO]; exact sum_le 64 Y
      have hN64 : N ≤ 64 := Nat.le_trans hN hO64
      obtain ⟨r, d, hr, hd, e1, e2, e3, e4, e5, e6, e7, e8⟩ := round_facts hCb hN64
      rw [hr, hd] at h2
      rw [hd] at h1
      clear hO
      have q1 : d < C := by rw [← hd]; exact Nat.div_lt_self (Nat.pos_of_ne_zero h0) (Nat.lt_succ_self 1)
      have q2 : (N + r) + dsum 2 j d = O := by rw [← hsum, h2, Nat.add_assoc]
      have q3 : j ≤ 64 := Nat.le_of_succ_le hk
      have HR := Lib.hid (show d < 2 ^ j ∧ j ≤ 64 ∧ (N + r) + dsum 2 j d = O ∧ d < C from ⟨h1, q3, q2, q1⟩)
      clear hC hk hsum h1 h2 hCb hO64 hr hd hN hN64 h0 hYl hu q1 q2 q3
      go_wp2_with fail
      go_round
      case rel => exact ⟨N + r, d, j, by rw [Int.natCast_add], rfl, HR.out.1, HR.out.2.1, HR.out.2.2.1⟩
      case measure => exact HR.out.2.2.2
end Go.Proofs.Ytbljijbmjccalaa
