/-
  Proved here: what Meet of package num returns. Conditions: none.
-/
import Derived.Test.YtbljijbmjccalaaHNumH
import Derived.Test.YtbljijbmjccalaaHRefNum
namespace Go.Proofs.Ytbljijbmjccalaa
open Go.RowKit
attribute [local go_sem] u_and u_or u_xor u_andNot u_add u_sub s_conv u_conv max_u min_u max_s min_s

/-- What two tell together. -/
def K.sum (a b : K) : K := (a.inU b.a b.b).inS b.c b.d
def K.pair (a b : K) : K := (a.sum b).met b.v b.m
def K.okM (a b : K) : Bool := mtOk a.v a.m b.v b.m && (a.pair b).okF
def K.both (a b : K) : K := if a.okM b = true then (a.pair b).fine else allK
theorem sum_v (a b : K) : (a.sum b).v = a.v := by rw [K.sum, inS_v, inU_v]
theorem sum_m (a b : K) : (a.sum b).m = a.m := by rw [K.sum, inS_m, inU_m]
theorem pair_put {a b : K} (h : mtOk a.v a.m b.v b.m = true) : (a.sum b).put (mV (a.sum b).v (a.sum b).m b.v b.m) (mM (a.sum b).v (a.sum b).m b.v b.m) = a.pair b := by
  unfold K.put K.pair K.met mV mM
  rw [sum_v, sum_m, if_pos h, if_pos h]
theorem both_no {a b : K} (h : mtOk a.v a.m b.v b.m = false) : a.both b = allK ∧ a.okM b = false := by
  unfold K.both K.okM
  rw [h]
  exact ⟨rfl, rfl⟩
theorem both_yes {a b : K} (h : mtOk a.v a.m b.v b.m = true) : a.both b = (a.pair b).fine ∧ a.okM b = (a.pair b).okF := by
  unfold K.both K.okM
  rw [h, Bool.true_and]
  cases e : (a.pair b).okF
  · exact ⟨by rw [fine_no e]; rfl, rfl⟩
  · exact ⟨rfl, rfl⟩
/-- The four boxes: both, the result's; what is below. -/
def Box3 (w0 : World) (a b z : K) (W : World) : Prop := NumAt w0.heap.size a W ∧ NumAt (w0.heap.size + 1) b W ∧ NumAt (w0.heap.size + 2) z W ∧ Below w0.heap.size w0 W
theorem box3_keep {w0 W W' : World} {a b z : K} (h : Box3 w0 a b z W) (hb : Below (w0.heap.size + 3) W W') : Box3 w0 a b z W' :=
  ⟨(hb.block _ (by omega)).trans h.1, (hb.block _ (by omega)).trans h.2.1, (hb.block _ (by omega)).trans h.2.2.1, h.2.2.2.trans (hb.mono (by omega))⟩
theorem box3_far {w0 W W' : World} {a b z : K} (h : Box3 w0 a b z W) (hb : Below W.heap.size W W') : Box3 w0 a b z W' :=
  ⟨num_keep h.1 hb, num_keep h.2.1 hb, num_keep h.2.2.1 hb, h.2.2.2.trans (hb.mono h.2.2.2.size)⟩
theorem box3_new (a b : K) (w : World) : Box3 w a b zeroK (((w.alloc (.cells #[.int .u64 (u a.v), .int .u64 (u a.m), .int .u64 (u a.a), .int .u64 (u a.b), .int .i64 (s a.c), .int .i64 (s a.d)] 26)).alloc
    (.cells #[.int .u64 (u b.v), .int .u64 (u b.m), .int .u64 (u b.a), .int .u64 (u b.b), .int .i64 (s b.c), .int .i64 (s b.d)] 26)).alloc (.cells #[.int .u64 0, .int .u64 0, .int .u64 0, .int .u64 0, .int .i64 0, .int .i64 0] 26)) := by
  have h1 := num_new a w
  obtain ⟨W1, hW1⟩ : ∃ W, w.alloc (.cells #[.int .u64 (u a.v), .int .u64 (u a.m), .int .u64 (u a.a), .int .u64 (u a.b), .int .i64 (s a.c), .int .i64 (s a.d)] 26) = W := ⟨_, rfl⟩
  have b1 : Below w.heap.size w W1 := by rw [← hW1]; exact below_box _ _
  have e1 : W1.heap.size = w.heap.size + 1 := by rw [← hW1]; simp
  rw [hW1] at h1 ⊢
  have h2 := num_new b W1
  have b2 := below_box W1 (.cells #[.int .u64 (u b.v), .int .u64 (u b.m), .int .u64 (u b.a), .int .u64 (u b.b), .int .i64 (s b.c), .int .i64 (s b.d)] 26)
  have e2 : (W1.alloc (.cells #[.int .u64 (u b.v), .int .u64 (u b.m), .int .u64 (u b.a), .int .u64 (u b.b), .int .i64 (s b.c), .int .i64 (s b.d)] 26)).heap.size = w.heap.size + 2 := by simp [e1]
  have h3 := zero_new (W1.alloc (.cells #[.int .u64 (u b.v), .int .u64 (u b.m), .int .u64 (u b.a), .int .u64 (u b.b), .int .i64 (s b.c), .int .i64 (s b.d)] 26))
  have b3 := below_box (W1.alloc (.cells #[.int .u64 (u b.v), .int .u64 (u b.m), .int .u64 (u b.a), .int .u64 (u b.b), .int .i64 (s b.c), .int .i64 (s b.d)] 26)) (.cells #[.int .u64 0, .int .u64 0, .int .u64 0, .int .u64 0, .int .i64 0, .int .i64 0] 26)
  rw [e2] at h3
  rw [e1] at h2
  exact ⟨num_keep (num_keep h1 b2) b3, num_keep h2 b3, h3, b1.trans ((b2.mono (by omega)).trans (b3.mono (by omega)))⟩
theorem box4_new (a b : K) (w : World) : Box3 w a b zeroK ((((w.alloc (.cells #[.int .u64 (u a.v), .int .u64 (u a.m), .int .u64 (u a.a), .int .u64 (u a.b), .int .i64 (s a.c), .int .i64 (s a.d)] 26)).alloc
    (.cells #[.int .u64 (u b.v), .int .u64 (u b.m), .int .u64 (u b.a), .int .u64 (u b.b), .int .i64 (s b.c), .int .i64 (s b.d)] 26)).alloc (.cells #[.int .u64 0, .int .u64 0, .int .u64 0, .int .u64 0, .int .i64 0, .int .i64 0] 26)).alloc
    (.cells #[.int .u64 (u a.v), .int .u64 (u a.m), .int .u64 (u a.a), .int .u64 (u a.b), .int .i64 (s a.c), .int .i64 (s a.d)] 74)) ∧ AtK (w.heap.size + 3) a ((((w.alloc (.cells #[.int .u64 (u a.v), .int .u64 (u a.m), .int .u64 (u a.a), .int .u64 (u a.b), .int .i64 (s a.c), .int .i64 (s a.d)] 26)).alloc
    (.cells #[.int .u64 (u b.v), .int .u64 (u b.m), .int .u64 (u b.a), .int .u64 (u b.b), .int .i64 (s b.c), .int .i64 (s b.d)] 26)).alloc (.cells #[.int .u64 0, .int .u64 0, .int .u64 0, .int .u64 0, .int .i64 0, .int .i64 0] 26)).alloc
    (.cells #[.int .u64 (u a.v), .int .u64 (u a.m), .int .u64 (u a.a), .int .u64 (u a.b), .int .i64 (s a.c), .int .i64 (s a.d)] 74)) := by
  have h := box3_new a b w
  obtain ⟨W, hW⟩ : ∃ W, (((w.alloc (.cells #[.int .u64 (u a.v), .int .u64 (u a.m), .int .u64 (u a.a), .int .u64 (u a.b), .int .i64 (s a.c), .int .i64 (s a.d)] 26)).alloc
    (.cells #[.int .u64 (u b.v), .int .u64 (u b.m), .int .u64 (u b.a), .int .u64 (u b.b), .int .i64 (s b.c), .int .i64 (s b.d)] 26)).alloc (.cells #[.int .u64 0, .int .u64 0, .int .u64 0, .int .u64 0, .int .i64 0, .int .i64 0] 26)) = W := ⟨_, rfl⟩
  have e : W.heap.size = w.heap.size + 3 := by rw [← hW]; simp
  rw [hW] at h ⊢
  have hk := at_new a W
  rw [e] at hk
  exact ⟨box3_far h (below_box _ _), hk⟩
set_option maxHeartbeats 4000000 in
theorem meet_both (a b : K) (w : World) : Calls Try.prog 38 #[numV a, numV b] w (Gives (.tuple #[numV (a.both b), .bool (a.okM b)]) w) := by
  have HZ := Lib.hid (box4_new a b w)
  have hw1 := fun g W h => within_num g a b.a b.b W h
  have hw2 := fun g W h => withinSigned_num g (a.inU b.a b.b) b.c b.d W h
  have hme := fun g W h => meet_num g (a.sum b) b.v b.m W h
  rw [show (a.inU b.a b.b).inS b.c b.d = a.sum b from rfl] at hw2
  obtain ⟨r1, hr1⟩ : ∃ r, a.inU b.a b.b = r := ⟨_, rfl⟩
  rw [hr1] at hw1 hw2
  clear hr1
  rw [sum_v, sum_m] at hme
  cases hm : mtOk a.v a.m b.v b.m
  · obtain ⟨e1, e2⟩ := both_no hm
    rw [e1, e2]
    rw [hm] at hme
    clear hm e1 e2
    obtain ⟨r2, hr2⟩ : ∃ r, a.sum b = r := ⟨_, rfl⟩
    rw [hr2] at hw2 hme
    clear hr2
    have hall := fun W => all_num W
    unfold numV at hall
    obtain ⟨q, hq⟩ : ∃ q, allK = q := ⟨_, rfl⟩
    rw [hq] at hall ⊢
    clear hq
    unfold Gives numV
    unfold tnV at hme
    go_enter Try.func38, Try.ntmps38
    go_wp2_with (first
      | (go_at_call 51; refine (hw1 _ _ HZ.out.2).mono ?_; rintro e w2 ⟨rfl, h2, b2⟩; have H2 := Lib.hid (box3_keep HZ.out.1 b2); have K2 := Lib.hid h2; obtain ⟨p0, p1, p2, p3, p4, p5⟩ := num_cells H2.out.2.1; clear h2 b2)
      | (go_at_call 52; refine (hw2 _ _ K2.out).mono ?_; rintro e w3 ⟨rfl, h3, b3⟩; have H3 := Lib.hid (box3_keep H2.out b3); have K3 := Lib.hid h3; clear p0 p1 p2 p3 p4 p5; obtain ⟨p0, p1, p2, p3, p4, p5⟩ := num_cells H3.out.2.1; clear h3 b3)
      | (go_at_call 53; refine (hme _ _ K3.out).mono ?_; rintro e w4 ⟨rfl, h4, b4⟩; have H4 := Lib.hid (box3_keep H3.out b4); clear p0 p1 p2 p3 p4 p5; clear h4 b4)
      | (go_at_call 46; refine (hall _).mono ?_; rintro e w5 ⟨rfl, b5⟩; have H5 := Lib.hid (box3_far H4.out b5); obtain ⟨z0, z1, z2, z3, z4, z5⟩ := num_cells H5.out.2.2.1; obtain ⟨f0, f1, f2, f3, f4, f5⟩ := num_free H5.out.2.2.1; clear b5))
    refine bodyPost_ret (v := .tuple #[numV q, .bool false]) (by unfold numV; simp [results, Try.results38, go_sem, z0, z1, z2, z3, z4, z5]) rfl ⟨rfl, ?_⟩
    exact below_sixn (by omega) H5.out.2.2.2 _ _ _ _ _ _
  · obtain ⟨e1, e2⟩ := both_yes hm
    rw [e1, e2]
    rw [hm] at hme
    have hp := pair_put hm
    rw [sum_v, sum_m] at hp
    rw [hp] at hme
    clear hm e1 e2 hp
    obtain ⟨r2, hr2⟩ : ∃ r, a.sum b = r := ⟨_, rfl⟩
    rw [hr2] at hw2 hme
    clear hr2
    obtain ⟨r3, hr3⟩ : ∃ r, a.pair b = r := ⟨_, rfl⟩
    rw [hr3] at hme ⊢
    clear hr3
    have hrf := fun W => refine_num r3 W
    unfold numV at hrf
    obtain ⟨q, hq⟩ : ∃ q, r3.fine = q := ⟨_, rfl⟩
    obtain ⟨o, ho⟩ : ∃ o, r3.okF = o := ⟨_, rfl⟩
    rw [hq, ho] at hrf ⊢
    clear hq ho
    unfold Gives numV
    unfold tnV at hme
    go_enter Try.func38, Try.ntmps38
    go_wp2_with (first
      | (go_at_call 51; refine (hw1 _ _ HZ.out.2).mono ?_; rintro e w2 ⟨rfl, h2, b2⟩; have H2 := Lib.hid (box3_keep HZ.out.1 b2); have K2 := Lib.hid h2; obtain ⟨p0, p1, p2, p3, p4, p5⟩ := num_cells H2.out.2.1; clear h2 b2)
      | (go_at_call 52; refine (hw2 _ _ K2.out).mono ?_; rintro e w3 ⟨rfl, h3, b3⟩; have H3 := Lib.hid (box3_keep H2.out b3); have K3 := Lib.hid h3; clear p0 p1 p2 p3 p4 p5; obtain ⟨p0, p1, p2, p3, p4, p5⟩ := num_cells H3.out.2.1; clear h3 b3)
      | (go_at_call 53; refine (hme _ _ K3.out).mono ?_; rintro e w4 ⟨rfl, h4, b4⟩; have H4 := Lib.hid (box3_keep H3.out b4); clear p0 p1 p2 p3 p4 p5; obtain ⟨p0, p1, p2, p3, p4, p5⟩ := at_cells h4; clear h4 b4)
      | (go_at_call 30; refine (hrf _).mono ?_; rintro e w5 ⟨rfl, b5⟩; have H5 := Lib.hid (box3_far H4.out b5); obtain ⟨z0, z1, z2, z3, z4, z5⟩ := num_cells H5.out.2.2.1; obtain ⟨f0, f1, f2, f3, f4, f5⟩ := num_free H5.out.2.2.1; clear b5))
    refine bodyPost_ret (v := .tuple #[numV q, .bool o]) (by unfold numV; simp [results, Try.results38, go_sem, z0, z1, z2, z3, z4, z5]) rfl ⟨rfl, ?_⟩
    exact below_sixn (by omega) H5.out.2.2.2 _ _ _ _ _ _
end Go.Proofs.Ytbljijbmjccalaa
