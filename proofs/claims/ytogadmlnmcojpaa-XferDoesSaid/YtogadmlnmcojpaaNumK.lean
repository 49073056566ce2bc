/-
  Proved here: what Cut of package num returns. Conditions: none.
-/
import Derived.Test.YtogadmlnmcojpaaNumJ
namespace Go.Proofs.Ytogadmlnmcojpaa
open Go.RowKit
attribute [local go_sem] u_and u_or u_xor u_andNot u_add u_sub s_conv u_conv max_u min_u max_s min_s

/-- Do its numbers all fit? -/
def K.fits (k : K) (n : Int) : Bool := decide (u k.b ≤ u (lowM (bN n)))
/-- What is known of the low bytes, ahead of the rounds. -/
def K.lows (k : K) (n : Int) : K := (allK.put (pv (lowB k.v (bN n)) (lowB k.m (bN n))) (lowB k.m (bN n))).inU (if k.fits n = true then k.a else 0#64) (if k.fits n = true then k.b else lowM (bN n))
def K.cutK (k : K) (n : Int) : K := if n = 1 ∨ n = 2 ∨ n = 4 then (k.lows n).fine else k
/-- Two boxes: what is cut, and the result's. -/
def Box2 (w0 : World) (k z : K) (W : World) : Prop := NumAt w0.heap.size k W ∧ NumAt (w0.heap.size + 1) z W ∧ Below w0.heap.size w0 W
theorem box2_keep {w0 W W' : World} {k z : K} (h : Box2 w0 k z W) (hb : Below W.heap.size W W') : Box2 w0 k z W' :=
  ⟨num_keep h.1 hb, num_keep h.2.1 hb, h.2.2.trans (hb.mono h.2.2.size)⟩
theorem box2_far {w0 W W' : World} {k z : K} {m : Nat} (h : Box2 w0 k z W) (hb : Below m W W') (hm : w0.heap.size + 1 < m) : Box2 w0 k z W' :=
  ⟨(hb.block _ (by omega)).trans h.1, (hb.block _ hm).trans h.2.1, h.2.2.trans (hb.mono (by omega))⟩
theorem box2_new (k : K) (w : World) : Box2 w k zeroK ((w.alloc (.cells #[.int .u64 (u k.v), .int .u64 (u k.m), .int .u64 (u k.a), .int .u64 (u k.b), .int .i64 (s k.c), .int .i64 (s k.d)] 26)).alloc
    (.cells #[.int .u64 0, .int .u64 0, .int .u64 0, .int .u64 0, .int .i64 0, .int .i64 0] 26)) := by
  have h1 := num_new k w
  obtain ⟨W1, hW1⟩ : ∃ W, w.alloc (.cells #[.int .u64 (u k.v), .int .u64 (u k.m), .int .u64 (u k.a), .int .u64 (u k.b), .int .i64 (s k.c), .int .i64 (s k.d)] 26) = W := ⟨_, rfl⟩
  have b1 : Below w.heap.size w W1 := by rw [← hW1]; exact below_box _ _
  have e1 : W1.heap.size = w.heap.size + 1 := by rw [← hW1]; simp
  rw [hW1] at h1 ⊢
  have h2 := zero_new W1
  have b2 := below_box W1 (.cells #[.int .u64 0, .int .u64 0, .int .u64 0, .int .u64 0, .int .i64 0, .int .i64 0] 26)
  rw [e1] at h2
  exact ⟨num_keep h1 b2, h2, b1.trans (b2.mono (by omega))⟩
theorem cut_big (k : K) (n : Int) (w : World) (h : ¬ Small n) : Calls Try.prog 20 #[numV k, .int .i64 n] w (Gives (numV k) w) := by
  unfold Small at h
  have HB := Lib.hid (box2_new k w)
  obtain ⟨n0, n1, n2, n3, n4, n5⟩ := num_cells HB.out.2.1
  unfold Gives numV
  by_cases h8 : n = 8
  · subst h8
    go_enter Try.func20, Try.ntmps20
    go_wp2
    exact bodyPost_ret (v := numV k) (by unfold numV; simp [results, Try.results20, go_sem]) rfl ⟨rfl, (below_box _ _).alloc (by simp) _⟩
  · have hs : sizeB n = false := sizeB_not (by omega) (by omega) (by omega) h8
    have h8' : (n == 8) = false := by simpa using h8
    go_enter Try.func20, Try.ntmps20
    go_wp2_with (go_at_call 35; refine (size_words _ _).mono ?_; rw [hs]; rintro e w1 ⟨rfl, rfl⟩)
    exact bodyPost_ret (v := numV k) (by unfold numV; simp [results, Try.results20, go_sem]) rfl ⟨rfl, (below_box _ _).alloc (by simp) _⟩
set_option maxHeartbeats 4000000 in
theorem cut_small (k : K) (n : Int) (w : World) (h : Small n) : Calls Try.prog 20 #[numV k, .int .i64 n] w (Gives (numV (k.lows n).fine) w) := by
  have hb := small_bd h
  have hs := small_size h
  have hz := fun W => size_words n W
  rw [hs] at hz
  have hl := fun W => low_words (8 * n) W
  rw [small_low h] at hl
  have hlow := fun W => low_num k n W h
  have hall := fun W => all_num W
  have hcut := fun W => cut_tnum k.v k.m n W
  unfold K.lows K.fits
  have h8' : (n == 8) = false := by simp; omega
  obtain ⟨L, hL⟩ : ∃ L, lowM (bN n) = L := ⟨_, rfl⟩
  rw [hL] at hl hlow ⊢
  obtain ⟨M, hM⟩ : ∃ M, lowB k.m (bN n) = M := ⟨_, rfl⟩
  rw [hM] at hcut ⊢
  obtain ⟨V, hV⟩ : ∃ V, pv (lowB k.v (bN n)) M = V := ⟨_, rfl⟩
  rw [hV] at hcut ⊢
  obtain ⟨A, hA⟩ : ∃ A, allK = A := ⟨_, rfl⟩
  rw [hA] at hall ⊢
  clear hL hM hV hA h hs
  have HB := Lib.hid (box2_new k w)
  unfold numV at hall hlow
  unfold tnV at hcut
  cases hf : decide (u k.b ≤ u L)
  all_goals
    rw [hf] at hlow
    simp only [Bool.false_eq_true, if_false, if_true]
    clear hf
  · have hwi := fun g W h => within_num g (A.put V M) 0#64 L W h
    have hre := fun g W h => refined_num g ((A.put V M).inU 0#64 L) W h
    obtain ⟨r, hr⟩ : ∃ r, (A.put V M).inU 0#64 L = r := ⟨_, rfl⟩
    rw [hr] at hwi hre ⊢
    obtain ⟨q, hq⟩ : ∃ q, r.fine = q := ⟨_, rfl⟩
    rw [hq] at hre ⊢
    clear hr hq
    rw [u_0] at hwi
    unfold numV at hre
    unfold Gives numV
    go_enter Try.func20, Try.ntmps20
    go_wp2_with (first
      | (go_at_call 35; refine (hz _).mono ?_; rintro e w1 ⟨rfl, rfl⟩)
      | (go_at_call 36; refine (hl _).mono ?_; rintro e w1 ⟨rfl, rfl⟩)
      | (go_at_call 37; refine (hlow _).mono ?_; rintro e w2 ⟨rfl, b2⟩; have H2 := Lib.hid (box2_keep HB.out b2); obtain ⟨n0, n1, n2, n3, n4, n5⟩ := num_cells H2.out.1; clear b2)
      | (go_at_call 15; refine (hall _).mono ?_; rintro e w3 ⟨rfl, b3⟩; have H3 := Lib.hid (box2_keep H2.out b3); have H3b := Lib.hid (box2_keep H3.out (below_box _ (.cells #[.int .u64 (u A.v), .int .u64 (u A.m), .int .u64 (u A.a), .int .u64 (u A.b), .int .i64 (s A.c), .int .i64 (s A.d)] 63))); have K3 := Lib.hid (at_new A w3); clear n0 n1 n2 n3 n4 n5; obtain ⟨n0, n1, n2, n3, n4, n5⟩ := num_cells H3b.out.1; clear b3)
      | (go_at_call 38; refine (hcut _).mono ?_; rintro e w4 ⟨rfl, b4⟩; have H4 := Lib.hid (box2_keep H3b.out b4); have K4 := Lib.hid (at_keep K3.out b4); have f0 := at_free K4.out 0 (by omega); have f1 := at_free K4.out 1 (by omega); clear n0 n1 n2 n3 n4 n5; obtain ⟨k0, k1, k2, k3, k4, k5⟩ := at_cells K4.out; clear b4)
      | (go_at_call 39; refine (hwi _ _ (at_m (at_v K4.out _) _)).mono ?_; rintro e w5 ⟨rfl, h5, b5⟩; have K5 := Lib.hid h5; have H5 := Lib.hid (box2_far H4.out ((below_set (below_set (Below.refl _ _) _ _) _ _).trans b5) (num_lt H3.out.2.1)); clear h5 b5 k0 k1 k2 k3 k4 k5 f0 f1)
      | (go_at_call 40; refine (hre _ _ K5.out).mono ?_; rintro e w6 ⟨rfl, b6⟩; have H6 := Lib.hid (box2_keep H5.out b6); obtain ⟨z0, z1, z2, z3, z4, z5⟩ := num_cells H6.out.2.1; obtain ⟨f0, f1, f2, f3, f4, f5⟩ := num_free H6.out.2.1; clear b6))
    refine bodyPost_ret (v := numV q) (by unfold numV; simp [results, Try.results20, go_sem, z0, z1, z2, z3, z4, z5]) rfl ⟨rfl, ?_⟩
    exact below_sixn (by omega) H6.out.2.2 _ _ _ _ _ _
  · have hwi := fun g W h => within_num g (A.put V M) k.a k.b W h
    have hre := fun g W h => refined_num g ((A.put V M).inU k.a k.b) W h
    obtain ⟨r, hr⟩ : ∃ r, (A.put V M).inU k.a k.b = r := ⟨_, rfl⟩
    rw [hr] at hwi hre ⊢
    obtain ⟨q, hq⟩ : ∃ q, r.fine = q := ⟨_, rfl⟩
    rw [hq] at hre ⊢
    clear hr hq
    unfold numV at hre
    unfold Gives numV
    go_enter Try.func20, Try.ntmps20
    go_upto_region 5 with (first
      | (go_at_call 35; refine (hz _).mono ?_; rintro e w1 ⟨rfl, rfl⟩)
      | (go_at_call 36; refine (hl _).mono ?_; rintro e w1 ⟨rfl, rfl⟩)
      | (go_at_call 37; refine (hlow _).mono ?_; rintro e w2 ⟨rfl, b2⟩; have H2 := Lib.hid (box2_keep HB.out b2); obtain ⟨n0, n1, n2, n3, n4, n5⟩ := num_cells H2.out.1; clear b2))
    go_quiet (fail)
    have HQ := Lib.hid (show Box2 w k zeroK (w2.drewN nq) from ⟨num_keep H2.out.1 (below_drews (Below.refl _ _) _), num_keep H2.out.2.1 (below_drews (Below.refl _ _) _), below_drews H2.out.2.2 _⟩)
    obtain ⟨W, hW⟩ : ∃ W, w2.drewN nq = W := ⟨_, rfl⟩
    rw [hW] at HQ ⊢
    clear hW
    go_wp2_with (first
      | (go_at_call 35; refine (hz _).mono ?_; rintro e w1 ⟨rfl, rfl⟩)
      | (go_at_call 36; refine (hl _).mono ?_; rintro e w1 ⟨rfl, rfl⟩)
      | (go_at_call 37; refine (hlow _).mono ?_; rintro e w2 ⟨rfl, b2⟩; have H2 := Lib.hid (box2_keep HB.out b2); obtain ⟨n0, n1, n2, n3, n4, n5⟩ := num_cells H2.out.1; clear b2)
      | (go_at_call 15; refine (hall _).mono ?_; rintro e w3 ⟨rfl, b3⟩; have H3 := Lib.hid (box2_keep HQ.out b3); have H3b := Lib.hid (box2_keep H3.out (below_box _ (.cells #[.int .u64 (u A.v), .int .u64 (u A.m), .int .u64 (u A.a), .int .u64 (u A.b), .int .i64 (s A.c), .int .i64 (s A.d)] 63))); have K3 := Lib.hid (at_new A w3); clear n0 n1 n2 n3 n4 n5; obtain ⟨n0, n1, n2, n3, n4, n5⟩ := num_cells H3b.out.1; clear b3)
      | (go_at_call 38; refine (hcut _).mono ?_; rintro e w4 ⟨rfl, b4⟩; have H4 := Lib.hid (box2_keep H3b.out b4); have K4 := Lib.hid (at_keep K3.out b4); have f0 := at_free K4.out 0 (by omega); have f1 := at_free K4.out 1 (by omega); clear n0 n1 n2 n3 n4 n5; obtain ⟨k0, k1, k2, k3, k4, k5⟩ := at_cells K4.out; clear b4)
      | (go_at_call 39; refine (hwi _ _ (at_m (at_v K4.out _) _)).mono ?_; rintro e w5 ⟨rfl, h5, b5⟩; have K5 := Lib.hid h5; have H5 := Lib.hid (box2_far H4.out ((below_set (below_set (Below.refl _ _) _ _) _ _).trans b5) (num_lt H3.out.2.1)); clear h5 b5 k0 k1 k2 k3 k4 k5 f0 f1)
      | (go_at_call 40; refine (hre _ _ K5.out).mono ?_; rintro e w6 ⟨rfl, b6⟩; have H6 := Lib.hid (box2_keep H5.out b6); obtain ⟨z0, z1, z2, z3, z4, z5⟩ := num_cells H6.out.2.1; obtain ⟨f0, f1, f2, f3, f4, f5⟩ := num_free H6.out.2.1; clear b6))
    refine bodyPost_ret (v := numV q) (by unfold numV; simp [results, Try.results20, go_sem, z0, z1, z2, z3, z4, z5]) rfl ⟨rfl, ?_⟩
    exact below_sixn (by omega) H6.out.2.2 _ _ _ _ _ _
theorem cut_num (k : K) (n : Int) (w : World) : Calls Try.prog 20 #[numV k, .int .i64 n] w (Gives (numV (k.cutK n)) w) := by
  unfold K.cutK
  by_cases h : n = 1 ∨ n = 2 ∨ n = 4
  · rw [if_pos h]; exact cut_small k n w h
  · rw [if_neg h]; exact cut_big k n w h
end Go.Proofs.Ytogadmlnmcojpaa
