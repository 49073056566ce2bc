/-
  Proved here: what Meet of the document's answers of layer 7, and one of layer 9, return. Conditions: none.
-/
import Derived.Test.YtbljijbmjccalaaM1
import Derived.Test.YtbljijbmjccalaaHWayBv
import Derived.Test.YtbljijbmjccalaaOpen
namespace Go.Proofs.Ytbljijbmjccalaa
open Go.RowKit
attribute [local go_sem] u_and u_or u_xor u_andNot u_add u_sub s_conv u_conv max_u min_u max_s min_s u_inc u_less s_inc s_less s_inc64 s_less64
set_option linter.unusedSimpArgs false


theorem one_ref (k : K) (w : World) : Calls Try.prog 31 #[numV k] w (Gives (.bool (decide (u k.m = 0))) w) := by
  unfold Gives numV
  go_enter Try.func31, Try.ntmps31
  go_wp2
  go_ret
  exact ⟨by simp [Bool.beq_eq_decide_eq], below_box _ _⟩
theorem num_v {g : Nat} {k : K} {W : World} (h : NumAt g k W) (x : B64) : NumAt g ⟨x, k.m, k.a, k.b, k.c, k.d⟩ (W.setCell ⟨g, 0, none⟩ (.int .u64 (u x))) := by
  unfold NumAt at *
  simp [World.setCell, Array.getElem?_modify, h]
theorem num_m {g : Nat} {k : K} {W : World} (h : NumAt g k W) (x : B64) : NumAt g ⟨k.v, x, k.a, k.b, k.c, k.d⟩ (W.setCell ⟨g, 1, none⟩ (.int .u64 (u x))) := by
  unfold NumAt at *
  simp [World.setCell, Array.getElem?_modify, h]
theorem num_a {g : Nat} {k : K} {W : World} (h : NumAt g k W) (x : B64) : NumAt g ⟨k.v, k.m, x, k.b, k.c, k.d⟩ (W.setCell ⟨g, 2, none⟩ (.int .u64 (u x))) := by
  unfold NumAt at *
  simp [World.setCell, Array.getElem?_modify, h]
theorem num_b {g : Nat} {k : K} {W : World} (h : NumAt g k W) (x : B64) : NumAt g ⟨k.v, k.m, k.a, x, k.c, k.d⟩ (W.setCell ⟨g, 3, none⟩ (.int .u64 (u x))) := by
  unfold NumAt at *
  simp [World.setCell, Array.getElem?_modify, h]
theorem num_c {g : Nat} {k : K} {W : World} (h : NumAt g k W) (x : B64) : NumAt g ⟨k.v, k.m, k.a, k.b, x, k.d⟩ (W.setCell ⟨g, 4, none⟩ (.int .i64 (s x))) := by
  unfold NumAt at *
  simp [World.setCell, Array.getElem?_modify, h]
theorem num_d {g : Nat} {k : K} {W : World} (h : NumAt g k W) (x : B64) : NumAt g ⟨k.v, k.m, k.a, k.b, k.c, x⟩ (W.setCell ⟨g, 5, none⟩ (.int .i64 (s x))) := by
  unfold NumAt at *
  simp [World.setCell, Array.getElem?_modify, h]
/-- The three boxes: what is under way, the other, what is told. -/
def MB (w0 : World) (k b z : K) (W : World) : Prop := NumAt w0.heap.size k W ∧ NumAt (w0.heap.size + 1) b W ∧ NumAt (w0.heap.size + 1 + 1) z W ∧ Below w0.heap.size w0 W
section
variable {w0 W W' : World} {k b z : K}
theorem mb_keep (h : MB w0 k b z W) (hb : Below W.heap.size W W') : MB w0 k b z W' := ⟨num_keep h.1 hb, num_keep h.2.1 hb, num_keep h.2.2.1 hb, h.2.2.2.trans (hb.mono h.2.2.2.size)⟩
theorem mb_put {k' : K} (h : MB w0 k b z W) (o : Nat) (x : Value) (hr : NumAt w0.heap.size k' (W.setCell ⟨w0.heap.size, o, none⟩ x)) : MB w0 k' b z (W.setCell ⟨w0.heap.size, o, none⟩ x) := by
  obtain ⟨h1, h2, h3, h4⟩ := h
  exact ⟨hr, num_far h2 (by omega) o x, num_far h3 (by omega) o x, h4.setCell (Nat.le_refl _) x⟩
end
theorem mb_new (a b : K) (w : World) : MB w a b zeroK (((w.alloc (.cells #[.int .u64 (u a.v), .int .u64 (u a.m), .int .u64 (u a.a), .int .u64 (u a.b), .int .i64 (s a.c), .int .i64 (s a.d)] 26)).alloc (.cells #[.int .u64 (u b.v), .int .u64 (u b.m), .int .u64 (u b.a), .int .u64 (u b.b), .int .i64 (s b.c), .int .i64 (s b.d)] 26)).alloc (.cells #[.int .u64 0, .int .u64 0, .int .u64 0, .int .u64 0, .int .i64 0, .int .i64 0] 26)) := by
  have h1 := num_new a w
  have b1 := below_box w (.cells #[.int .u64 (u a.v), .int .u64 (u a.m), .int .u64 (u a.a), .int .u64 (u a.b), .int .i64 (s a.c), .int .i64 (s a.d)] 26)
  obtain ⟨W1, hW1⟩ : ∃ W, w.alloc (.cells #[.int .u64 (u a.v), .int .u64 (u a.m), .int .u64 (u a.a), .int .u64 (u a.b), .int .i64 (s a.c), .int .i64 (s a.d)] 26) = W := ⟨_, rfl⟩
  have e1 : W1.heap.size = w.heap.size + 1 := by rw [← hW1]; simp
  rw [hW1] at h1 b1 ⊢
  have h2 := num_new b W1
  have b2 := below_box W1 (.cells #[.int .u64 (u b.v), .int .u64 (u b.m), .int .u64 (u b.a), .int .u64 (u b.b), .int .i64 (s b.c), .int .i64 (s b.d)] 26)
  obtain ⟨W2, hW2⟩ : ∃ W, W1.alloc (.cells #[.int .u64 (u b.v), .int .u64 (u b.m), .int .u64 (u b.a), .int .u64 (u b.b), .int .i64 (s b.c), .int .i64 (s b.d)] 26) = W := ⟨_, rfl⟩
  have e2 : W2.heap.size = w.heap.size + 1 + 1 := by rw [← hW2]; simp [e1]
  rw [hW2] at h2 b2 ⊢
  have h3 := zero_new W2
  have b3 := below_box W2 (.cells #[.int .u64 0, .int .u64 0, .int .u64 0, .int .u64 0, .int .i64 0, .int .i64 0] 26)
  rw [e1] at h2
  rw [e2] at h3
  exact ⟨num_keep (num_keep h1 b2) b3, num_keep h2 b3, h3, (b1.trans (b2.mono (by omega))).trans (b3.mono (by omega))⟩
set_option maxRecDepth 100000 in
set_option maxHeartbeats 4000000 in
theorem refmeet_num (a b : K) (w : World) : Calls Try.prog 33 #[numV a, numV b] w (Gives (.tuple #[numV (a.both b), .bool (a.okM b)]) w) := by
  have HB := Lib.hid (mb_new a b w)
  have hm := fun W => meet_ref a.v a.m b.v b.m W
  have ha := fun W => refall_num W
  unfold Gives numV
  obtain ⟨W0, hW0⟩ : ∃ W0, (((w.alloc (.cells #[.int .u64 (u a.v), .int .u64 (u a.m), .int .u64 (u a.a), .int .u64 (u a.b), .int .i64 (s a.c), .int .i64 (s a.d)] 26)).alloc (.cells #[.int .u64 (u b.v), .int .u64 (u b.m), .int .u64 (u b.a), .int .u64 (u b.b), .int .i64 (s b.c), .int .i64 (s b.d)] 26)).alloc (.cells #[.int .u64 0, .int .u64 0, .int .u64 0, .int .u64 0, .int .i64 0, .int .i64 0] 26)) = W0 := ⟨_, rfl⟩
  rw [hW0] at HB
  obtain ⟨n0, n1, n2, n3, n4, n5⟩ := num_cells HB.out.1
  obtain ⟨f0, f1, f2, f3, f4, f5⟩ := num_free HB.out.1
  obtain ⟨m0, m1, m2, m3, m4, m5⟩ := num_cells HB.out.2.1
  obtain ⟨z0, z1, z2, z3, z4, z5⟩ := num_cells HB.out.2.2.1
  obtain ⟨e0, e1, e2, e3, e4, e5⟩ := num_free HB.out.2.2.1
  unfold mtV tnV at hm
  unfold numV at ha
  cases hok : mtOk a.v a.m b.v b.m
  · obtain ⟨g1, g2⟩ := both_no hok
    rw [hok, if_neg Bool.false_ne_true] at hm
    rw [g1, g2]
    obtain ⟨A, hA⟩ : ∃ A, allK = A := ⟨_, rfl⟩
    rw [hA] at ha ⊢
    clear hA g1 g2 hok
    go_enter Try.func33, Try.ntmps33
    go_wp2_with (first
      | (go_at_call 32; refine (hm _).mono ?_; rintro e w1 ⟨rfl, hb⟩; have H1 := Lib.hid (mb_keep HB.out hb); clear hb)
      | (go_at_call 10; refine (ha _).mono ?_; rintro e w2 ⟨rfl, hb⟩; have H2 := Lib.hid (mb_keep (mb_keep H1.out (below_box _ _)) hb); clear hb z0 z1 z2 z3 z4 z5 e0 e1 e2 e3 e4 e5; obtain ⟨z0, z1, z2, z3, z4, z5⟩ := num_cells H2.out.2.2.1; obtain ⟨e0, e1, e2, e3, e4, e5⟩ := num_free H2.out.2.2.1))
    have HF := Lib.hid (num_six H2.out.2.2.1 A)
    have HG := Lib.hid (below_sixn (show w.heap.size ≤ w.heap.size + 1 + 1 by omega) H2.out.2.2.2 (.int .u64 (u A.v)) (.int .u64 (u A.m)) (.int .u64 (u A.a)) (.int .u64 (u A.b)) (.int .i64 (s A.c)) (.int .i64 (s A.d)))
    generalize World.setCell _ _ _ = Wf at HF HG ⊢
    obtain ⟨y0, y1, y2, y3, y4, y5⟩ := num_cells HF.out
    exact bodyPost_ret (v := .tuple #[numV A, .bool false]) (by unfold numV; simp [results, Try.results33, go_sem, y0, y1, y2, y3, y4, y5]) rfl ⟨rfl, HG.out⟩
  · obtain ⟨g1, g2⟩ := both_yes hok
    rw [hok, if_pos rfl] at hm
    rw [g1, g2]
    have hr := fun W => reffine_num (a.pair b) W
    have hpk : a.pair b = ⟨pv (pv a.v a.m ||| pv b.v b.m) (a.m &&& b.m), a.m &&& b.m, maxU a.a b.a, minU a.b b.b, maxS a.c b.c, minS a.d b.d⟩ := by
      unfold K.pair K.sum K.met K.inS K.inU
      rfl
    obtain ⟨t, ht⟩ : ∃ t, pv (pv a.v a.m ||| pv b.v b.m) (a.m &&& b.m) = t := ⟨_, rfl⟩
    obtain ⟨m, hmm⟩ : ∃ m, a.m &&& b.m = m := ⟨_, rfl⟩
    rw [hmm] at ht
    rw [hmm, ht] at hpk hm
    obtain ⟨R, hR⟩ : ∃ R, (a.pair b).fine = R := ⟨_, rfl⟩
    obtain ⟨ok, hk⟩ : ∃ o, (a.pair b).okF = o := ⟨_, rfl⟩
    rw [hR, hk] at hr ⊢
    rw [hpk] at hr
    unfold numV at hr
    clear hR hk hpk g1 g2 hok ht hmm ha
    go_enter Try.func33, Try.ntmps33
    go_upto_region 5 with (go_at_call 32; refine (hm _).mono ?_; rintro e w1 ⟨rfl, hb⟩; have H1 := Lib.hid (mb_keep (mb_keep HB.out hb) (below_box _ (.cells #[.int .u64 (u t), .int .u64 (u m)] 24))); clear hb n0 n1 n2 n3 n4 n5 f0 f1 f2 f3 f4 f5; obtain ⟨n0, n1, n2, n3, n4, n5⟩ := num_cells H1.out.1; obtain ⟨f0, f1, f2, f3, f4, f5⟩ := num_free H1.out.1)
    have HX := Lib.hid (mb_put (mb_put H1.out 0 _ (num_v H1.out.1 t)) 1 _ (num_m (num_v H1.out.1 t) m))
    clear H1 hm HB n0 n1 n2 n3 n4 n5 f0 f1 f2 f3 f4 f5 m0 m1 m2 m3 m4 m5 z0 z1 z2 z3 z4 z5 e0 e1 e2 e3 e4 e5
    generalize World.setCell _ _ _ = Wa at HX ⊢
    obtain ⟨W1, hW1⟩ : ∃ W, Wa = W := ⟨_, rfl⟩
    rw [hW1] at HX ⊢
    clear hW1
    have HB := HX
    clear HX hW0
    obtain ⟨n0, n1, n2, n3, n4, n5⟩ := num_cells HB.out.1
    obtain ⟨f0, f1, f2, f3, f4, f5⟩ := num_free HB.out.1
    obtain ⟨m0, m1, m2, m3, m4, m5⟩ := num_cells HB.out.2.1
    go_upto_if 25 with fail
    go_cut [] (fun wx => MB w ⟨t, m, maxU a.a b.a, a.b, a.c, a.d⟩ b zeroK wx)
    case first =>
      go_wp2_with fail
      all_goals
        go_meet
        first
          | (rw [max_yes (x := a.a) (y := b.a) (by assumption)]; exact mb_put HB.out _ _ (num_a HB.out.1 _))
          | (rw [max_no (x := a.a) (y := b.a) (by assumption)]; exact HB.out)
          | (rw [max_no (x := a.a) (y := b.a) (by omega)]; exact HB.out)
    case rest =>
      have HC := Lib.hid hcut
      clear n0 n1 n2 n3 n4 n5 f0 f1 f2 f3 f4 f5 m0 m1 m2 m3 m4 m5 hcut HB
      have HB := HC
      clear HC
      obtain ⟨n0, n1, n2, n3, n4, n5⟩ := num_cells HB.out.1
      obtain ⟨f0, f1, f2, f3, f4, f5⟩ := num_free HB.out.1
      obtain ⟨m0, m1, m2, m3, m4, m5⟩ := num_cells HB.out.2.1
      go_upto_if 33 with fail
      go_cut [] (fun wx => MB w ⟨t, m, maxU a.a b.a, minU a.b b.b, a.c, a.d⟩ b zeroK wx)
      case first =>
        go_wp2_with fail
        all_goals
          go_meet
          first
            | (rw [min_yes (x := a.b) (y := b.b) (by assumption)]; exact mb_put HB.out _ _ (num_b HB.out.1 _))
            | (rw [min_no (x := a.b) (y := b.b) (by assumption)]; exact HB.out)
            | (rw [min_no (x := a.b) (y := b.b) (by omega)]; exact HB.out)
      case rest =>
        have HC := Lib.hid hcut
        clear n0 n1 n2 n3 n4 n5 f0 f1 f2 f3 f4 f5 m0 m1 m2 m3 m4 m5 hcut HB
        have HB := HC
        clear HC
        obtain ⟨n0, n1, n2, n3, n4, n5⟩ := num_cells HB.out.1
        obtain ⟨f0, f1, f2, f3, f4, f5⟩ := num_free HB.out.1
        obtain ⟨m0, m1, m2, m3, m4, m5⟩ := num_cells HB.out.2.1
        go_upto_if 41 with fail
        go_cut [] (fun wx => MB w ⟨t, m, maxU a.a b.a, minU a.b b.b, maxS a.c b.c, a.d⟩ b zeroK wx)
        case first =>
          go_wp2_with fail
          all_goals
            go_meet
            first
              | (rw [maxs_yes (x := a.c) (y := b.c) (by assumption)]; exact mb_put HB.out _ _ (num_c HB.out.1 _))
              | (rw [maxs_no (x := a.c) (y := b.c) (by assumption)]; exact HB.out)
              | (rw [maxs_no (x := a.c) (y := b.c) (by omega)]; exact HB.out)
        case rest =>
          have HC := Lib.hid hcut
          clear n0 n1 n2 n3 n4 n5 f0 f1 f2 f3 f4 f5 m0 m1 m2 m3 m4 m5 hcut HB
          have HB := HC
          clear HC
          obtain ⟨n0, n1, n2, n3, n4, n5⟩ := num_cells HB.out.1
          obtain ⟨f0, f1, f2, f3, f4, f5⟩ := num_free HB.out.1
          obtain ⟨m0, m1, m2, m3, m4, m5⟩ := num_cells HB.out.2.1
          go_upto_if 49 with fail
          go_cut [] (fun wx => MB w ⟨t, m, maxU a.a b.a, minU a.b b.b, maxS a.c b.c, minS a.d b.d⟩ b zeroK wx)
          case first =>
            go_wp2_with fail
            all_goals
              go_meet
              first
                | (rw [mins_yes (x := a.d) (y := b.d) (by assumption)]; exact mb_put HB.out _ _ (num_d HB.out.1 _))
                | (rw [mins_no (x := a.d) (y := b.d) (by assumption)]; exact HB.out)
                | (rw [mins_no (x := a.d) (y := b.d) (by omega)]; exact HB.out)
          case rest =>
            have HC := Lib.hid hcut
            clear n0 n1 n2 n3 n4 n5 f0 f1 f2 f3 f4 f5 m0 m1 m2 m3 m4 m5 hcut HB
            have HB := HC
            clear HC
            obtain ⟨n0, n1, n2, n3, n4, n5⟩ := num_cells HB.out.1
            obtain ⟨z0, z1, z2, z3, z4, z5⟩ := num_cells HB.out.2.2.1
            obtain ⟨e0, e1, e2, e3, e4, e5⟩ := num_free HB.out.2.2.1
            go_wp2_with (go_at_call 35; refine (hr _).mono ?_; rintro e w5 ⟨rfl, hb⟩; have H2 := Lib.hid (mb_keep HB.out hb); clear hb z0 z1 z2 z3 z4 z5 e0 e1 e2 e3 e4 e5; obtain ⟨z0, z1, z2, z3, z4, z5⟩ := num_cells H2.out.2.2.1; obtain ⟨e0, e1, e2, e3, e4, e5⟩ := num_free H2.out.2.2.1)
            have HF := Lib.hid (num_six H2.out.2.2.1 R)
            have HG := Lib.hid (below_sixn (show w.heap.size ≤ w.heap.size + 1 + 1 by omega) H2.out.2.2.2 (.int .u64 (u R.v)) (.int .u64 (u R.m)) (.int .u64 (u R.a)) (.int .u64 (u R.b)) (.int .i64 (s R.c)) (.int .i64 (s R.d)))
            generalize World.setCell _ _ _ = Wf at HF HG ⊢
            obtain ⟨y0, y1, y2, y3, y4, y5⟩ := num_cells HF.out
            exact bodyPost_ret (v := .tuple #[numV R, .bool ok]) (by unfold numV; simp [results, Try.results33, go_sem, y0, y1, y2, y3, y4, y5]) rfl ⟨rfl, HG.out⟩
end Go.Proofs.Ytbljijbmjccalaa

/-
  Proved here: what without of the document's answers returns. Conditions: none.
-/
namespace Go.Proofs.Ytbljijbmjccalaa
open Go.RowKit
attribute [local go_sem] u_and u_or u_xor u_andNot u_add u_sub s_conv u_conv max_u min_u max_s min_s u_inc u_less s_inc s_less s_inc64 s_less64
set_option linter.unusedSimpArgs false


theorem mb_out {w0 W : World} {k b z z' : K} (h : MB w0 k b z W) (o : Nat) (x : Value) (hr : NumAt (w0.heap.size + 1 + 1) z' (W.setCell ⟨w0.heap.size + 1 + 1, o, none⟩ x)) : MB w0 k b z' (W.setCell ⟨w0.heap.size + 1 + 1, o, none⟩ x) := by
  obtain ⟨h1, h2, h3, h4⟩ := h
  exact ⟨num_far h1 (by omega) o x, num_far h2 (by omega) o x, hr, h4.setCell (by simp; omega) x⟩
theorem mb_new2 (x : K) (w : World) : MB w x zeroK x (((w.alloc (.cells #[.int .u64 (u x.v), .int .u64 (u x.m), .int .u64 (u x.a), .int .u64 (u x.b), .int .i64 (s x.c), .int .i64 (s x.d)] 26)).alloc (.cells #[.int .u64 0, .int .u64 0, .int .u64 0, .int .u64 0, .int .i64 0, .int .i64 0] 26)).alloc (.cells #[.int .u64 (u x.v), .int .u64 (u x.m), .int .u64 (u x.a), .int .u64 (u x.b), .int .i64 (s x.c), .int .i64 (s x.d)] 26)) := by
  have h1 := num_new x w
  have b1 := below_box w (.cells #[.int .u64 (u x.v), .int .u64 (u x.m), .int .u64 (u x.a), .int .u64 (u x.b), .int .i64 (s x.c), .int .i64 (s x.d)] 26)
  obtain ⟨W1, hW1⟩ : ∃ W, w.alloc (.cells #[.int .u64 (u x.v), .int .u64 (u x.m), .int .u64 (u x.a), .int .u64 (u x.b), .int .i64 (s x.c), .int .i64 (s x.d)] 26) = W := ⟨_, rfl⟩
  have e1 : W1.heap.size = w.heap.size + 1 := by rw [← hW1]; simp
  rw [hW1] at h1 b1 ⊢
  have h2 := zero_new W1
  have b2 := below_box W1 (.cells #[.int .u64 0, .int .u64 0, .int .u64 0, .int .u64 0, .int .i64 0, .int .i64 0] 26)
  obtain ⟨W2, hW2⟩ : ∃ W, W1.alloc (.cells #[.int .u64 0, .int .u64 0, .int .u64 0, .int .u64 0, .int .i64 0, .int .i64 0] 26) = W := ⟨_, rfl⟩
  have e2 : W2.heap.size = w.heap.size + 1 + 1 := by rw [← hW2]; simp [e1]
  rw [hW2] at h2 b2 ⊢
  have h3 := num_new x W2
  have b3 := below_box W2 (.cells #[.int .u64 (u x.v), .int .u64 (u x.m), .int .u64 (u x.a), .int .u64 (u x.b), .int .i64 (s x.c), .int .i64 (s x.d)] 26)
  rw [e1] at h2
  rw [e2] at h3
  exact ⟨num_keep (num_keep h1 b2) b3, num_keep h2 b3, h3, (b1.trans (b2.mono (by omega))).trans (b3.mono (by omega))⟩
set_option maxRecDepth 100000 in
set_option maxHeartbeats 4000000 in
theorem wout_both (k : K) (z : B64) (w : World) (ha : (u k.a == u z) = true) (hb : (u k.b == u z) = true) : Calls Try.prog 34 #[numV k, .int .u64 (u z)] w (Gives (.tuple #[numV k, .bool false]) w) := by
  have HB := Lib.hid (mb_new2 k w)
  unfold Gives numV
  obtain ⟨W0, hW0⟩ : ∃ W0, (((w.alloc (.cells #[.int .u64 (u k.v), .int .u64 (u k.m), .int .u64 (u k.a), .int .u64 (u k.b), .int .i64 (s k.c), .int .i64 (s k.d)] 26)).alloc (.cells #[.int .u64 0, .int .u64 0, .int .u64 0, .int .u64 0, .int .i64 0, .int .i64 0] 26)).alloc (.cells #[.int .u64 (u k.v), .int .u64 (u k.m), .int .u64 (u k.a), .int .u64 (u k.b), .int .i64 (s k.c), .int .i64 (s k.d)] 26)) = W0 := ⟨_, rfl⟩
  rw [hW0] at HB
  obtain ⟨n0, n1, n2, n3, n4, n5⟩ := num_cells HB.out.1
  obtain ⟨z0, z1, z2, z3, z4, z5⟩ := num_cells HB.out.2.1
  obtain ⟨e0, e1, e2, e3, e4, e5⟩ := num_free HB.out.2.1
  go_enter Try.func34, Try.ntmps34
  go_wp2_with fail
  have HF := Lib.hid (num_six HB.out.2.1 k)
  have HG := Lib.hid (below_sixn (show w.heap.size ≤ w.heap.size + 1 by omega) HB.out.2.2.2 (.int .u64 (u k.v)) (.int .u64 (u k.m)) (.int .u64 (u k.a)) (.int .u64 (u k.b)) (.int .i64 (s k.c)) (.int .i64 (s k.d)))
  generalize World.setCell _ _ _ = Wf at HF HG ⊢
  obtain ⟨y0, y1, y2, y3, y4, y5⟩ := num_cells HF.out
  exact bodyPost_ret (v := .tuple #[numV k, .bool false]) (by unfold numV; simp [results, Try.results34, go_sem, y0, y1, y2, y3, y4, y5]) rfl ⟨rfl, HG.out⟩
theorem wrA_yes {w0 W : World} {k y : K} (h : MB w0 k zeroK y W) (hy : y.a = k.a) (z : B64) (p : (u k.a == u z) = true) (q : (u z == 18446744073709551615) = false) : MB w0 k zeroK (y.woA z) (W.setCell ⟨w0.heap.size + 1 + 1, 2, none⟩ (.int .u64 (u (z + 1#64)))) := by
  have hp : u k.a = u z := by simpa using p
  have hq : ¬ u z = 18446744073709551615 := by simpa using q
  have hb := u_bd z
  have e : k.a = z := u_inj hp
  unfold K.woA
  rw [if_pos ⟨by rw [hy]; exact hp, by omega⟩, hy, e]
  exact mb_out h _ _ (num_a h.2.2.1 _)
theorem wrA_no {w0 W : World} {k y : K} (h : MB w0 k zeroK y W) (hy : y.a = k.a) (z : B64) (p : (u k.a == u z) = false ∨ (u z == 18446744073709551615) = true) : MB w0 k zeroK (y.woA z) W := by
  unfold K.woA
  rw [if_neg]
  · exact h
  · rw [hy]
    rintro ⟨g1, g2⟩
    rcases p with p | p
    · rw [g1] at p; simp at p
    · have : u z = 18446744073709551615 := by simpa using p
      omega
theorem wrB_yes {w0 W : World} {k y : K} (h : MB w0 k zeroK y W) (hy : y.b = k.b) (z : B64) (p : (u k.b == u z) = true) (q : (u z == 0) = false) : MB w0 k zeroK (y.woB z) (W.setCell ⟨w0.heap.size + 1 + 1, 3, none⟩ (.int .u64 (u (z - 1#64)))) := by
  have hp : u k.b = u z := by simpa using p
  have hq : ¬ u z = 0 := by simpa using q
  have hb := u_bd z
  have e : k.b = z := u_inj hp
  unfold K.woB
  rw [if_pos ⟨by rw [hy]; exact hp, by omega⟩, hy, e]
  exact mb_out h _ _ (num_b h.2.2.1 _)
theorem wrB_no {w0 W : World} {k y : K} (h : MB w0 k zeroK y W) (hy : y.b = k.b) (z : B64) (p : (u k.b == u z) = false ∨ (u z == 0) = true) : MB w0 k zeroK (y.woB z) W := by
  unfold K.woB
  rw [if_neg]
  · exact h
  · rw [hy]
    rintro ⟨g1, g2⟩
    rcases p with p | p
    · rw [g1] at p; simp at p
    · have : u z = 0 := by simpa using p
      omega
theorem wrC_yes {w0 W : World} {k y : K} (h : MB w0 k zeroK y W) (hy : y.c = k.c) (z : B64) (p : (s k.c == s z) = true) (q : (s z == 9223372036854775807) = false) : MB w0 k zeroK (y.woC z) (W.setCell ⟨w0.heap.size + 1 + 1, 4, none⟩ (.int .i64 (s (z + 1#64)))) := by
  have hp : s k.c = s z := by simpa using p
  have hq : ¬ s z = 9223372036854775807 := by simpa using q
  have hb := s_bd z
  have e : k.c = z := s_inj hp
  unfold K.woC
  rw [if_pos ⟨by rw [hy]; exact hp, by omega⟩, hy, e]
  exact mb_out h _ _ (num_c h.2.2.1 _)
theorem wrC_no {w0 W : World} {k y : K} (h : MB w0 k zeroK y W) (hy : y.c = k.c) (z : B64) (p : (s k.c == s z) = false ∨ (s z == 9223372036854775807) = true) : MB w0 k zeroK (y.woC z) W := by
  unfold K.woC
  rw [if_neg]
  · exact h
  · rw [hy]
    rintro ⟨g1, g2⟩
    rcases p with p | p
    · rw [g1] at p; simp at p
    · have : s z = 9223372036854775807 := by simpa using p
      omega
theorem wrD_yes {w0 W : World} {k y : K} (h : MB w0 k zeroK y W) (hy : y.d = k.d) (z : B64) (p : (s k.d == s z) = true) (q : (s z == -9223372036854775808) = false) : MB w0 k zeroK (y.woD z) (W.setCell ⟨w0.heap.size + 1 + 1, 5, none⟩ (.int .i64 (s (z - 1#64)))) := by
  have hp : s k.d = s z := by simpa using p
  have hq : ¬ s z = -9223372036854775808 := by simpa using q
  have hb := s_bd z
  have e : k.d = z := s_inj hp
  unfold K.woD
  rw [if_pos ⟨by rw [hy]; exact hp, by omega⟩, hy, e]
  exact mb_out h _ _ (num_d h.2.2.1 _)
theorem wrD_no {w0 W : World} {k y : K} (h : MB w0 k zeroK y W) (hy : y.d = k.d) (z : B64) (p : (s k.d == s z) = false ∨ (s z == -9223372036854775808) = true) : MB w0 k zeroK (y.woD z) W := by
  unfold K.woD
  rw [if_neg]
  · exact h
  · rw [hy]
    rintro ⟨g1, g2⟩
    rcases p with p | p
    · rw [g1] at p; simp at p
    · have : s z = -9223372036854775808 := by simpa using p
      omega
set_option maxRecDepth 100000 in
set_option maxHeartbeats 8000000 in
theorem wout_ref (k : K) (z : B64) (w : World) (h : ((u k.a == u z) && (u k.b == u z)) = false) : Calls Try.prog 34 #[numV k, .int .u64 (u z)] w (Gives (.tuple #[numV (k.wo z), .bool true]) w) := by
  have HB := Lib.hid (mb_new2 k w)
  unfold Gives numV
  obtain ⟨W0, hW0⟩ : ∃ W0, (((w.alloc (.cells #[.int .u64 (u k.v), .int .u64 (u k.m), .int .u64 (u k.a), .int .u64 (u k.b), .int .i64 (s k.c), .int .i64 (s k.d)] 26)).alloc (.cells #[.int .u64 0, .int .u64 0, .int .u64 0, .int .u64 0, .int .i64 0, .int .i64 0] 26)).alloc (.cells #[.int .u64 (u k.v), .int .u64 (u k.m), .int .u64 (u k.a), .int .u64 (u k.b), .int .i64 (s k.c), .int .i64 (s k.d)] 26)) = W0 := ⟨_, rfl⟩
  rw [hW0] at HB
  obtain ⟨n0, n1, n2, n3, n4, n5⟩ := num_cells HB.out.1
  obtain ⟨z0, z1, z2, z3, z4, z5⟩ := num_cells HB.out.2.1
  obtain ⟨e0, e1, e2, e3, e4, e5⟩ := num_free HB.out.2.1
  clear z0 z1 z2 z3 z4 z5 e0 e1 e2 e3 e4 e5
  obtain ⟨y0, y1, y2, y3, y4, y5⟩ := num_cells HB.out.2.2.1
  obtain ⟨f0, f1, f2, f3, f4, f5⟩ := num_free HB.out.2.2.1
  have HN := Lib.hid h
  clear h
  go_enter Try.func34, Try.ntmps34
  go_upto_if 12 with fail
  clear hW0
  obtain ⟨k1, hn1⟩ : ∃ q, k.woA z = q := ⟨_, rfl⟩
  go_cut [] (fun wx => MB w k zeroK k1 wx)
  case first =>
    subst hn1
    obtain ⟨bA, hA⟩ : ∃ b, (u k.a == u z) = b := ⟨_, rfl⟩
    obtain ⟨bN, hN⟩ : ∃ b, (u z == 18446744073709551615) = b := ⟨_, rfl⟩
    cases bA
    · go_wp2_with fail
      go_meet
      exact wrA_no HB.out rfl z (.inl hA)
    · have hB : (u k.b == u z) = false := by have := HN.out; rw [hA, Bool.true_and] at this; exact this
      cases bN
      · go_wp2_with fail
        go_meet
        exact wrA_yes HB.out rfl z hA hN
      · go_wp2_with fail
        go_meet
        exact wrA_no HB.out rfl z (.inr hN)
  case rest =>
    have HC := Lib.hid hcut
    clear y0 y1 y2 y3 y4 y5 f0 f1 f2 f3 f4 f5 n0 n1 n2 n3 n4 n5 hcut HB HN W0
    have HB := HC
    clear HC
    rename World => V0
    obtain ⟨n0, n1, n2, n3, n4, n5⟩ := num_cells HB.out.1
    obtain ⟨y0, y1, y2, y3, y4, y5⟩ := num_cells HB.out.2.2.1
    obtain ⟨f0, f1, f2, f3, f4, f5⟩ := num_free HB.out.2.2.1
    go_upto_region 7 with fail
    obtain ⟨B, hBd⟩ : ∃ B, ((u k.b == u z) && !(u z == 0)) = B := ⟨_, rfl⟩
    go_cut [30] (fun c wx => c = .bool B ∧ wx = V0)
    case first =>
      obtain ⟨bA, hA⟩ : ∃ b, (u k.b == u z) = b := ⟨_, rfl⟩
      obtain ⟨bN, hN⟩ : ∃ b, (u z == 0) = b := ⟨_, rfl⟩
      have HBd := Lib.hid hBd
      clear hBd
      cases bA <;> cases bN
      all_goals
        go_wp2_with fail
        go_meet
        refine ⟨?_, rfl⟩
        rw [← HBd.out, hA]
        first | rfl | (rw [hN]; rfl) | simp [hN] | simp_all
    case rest =>
      obtain ⟨rfl, hw⟩ := hcut
      rw [hw]
      clear hw
      go_upto_if 30 with fail
      obtain ⟨k2, hn2⟩ : ∃ q, k1.woB z = q := ⟨_, rfl⟩
      go_cut [] (fun wx => MB w k zeroK k2 wx)
      case first =>
        rw [← hn2] at *
        have HBd := Lib.hid hBd
        clear hBd
        cases B
        · go_wp2_with fail
          go_meet
          refine wrB_no HB.out (by rw [← hn1]; rfl) z ?_
          have := HBd.out
          rw [Bool.and_eq_false_iff, Bool.not_eq_false'] at this
          exact this
        · go_wp2_with fail
          go_meet
          have := HBd.out
          rw [Bool.and_eq_true, Bool.not_eq_true'] at this
          exact wrB_yes HB.out (by rw [← hn1]; rfl) z this.1 this.2
      case rest =>
        have HC := Lib.hid hcut
        clear y0 y1 y2 y3 y4 y5 f0 f1 f2 f3 f4 f5 n0 n1 n2 n3 n4 n5 hcut hBd B HB V0
        have HB := HC
        clear HC
        rename World => V1
        obtain ⟨n0, n1, n2, n3, n4, n5⟩ := num_cells HB.out.1
        obtain ⟨y0, y1, y2, y3, y4, y5⟩ := num_cells HB.out.2.2.1
        obtain ⟨f0, f1, f2, f3, f4, f5⟩ := num_free HB.out.2.2.1
        go_upto_region 10 with fail
        obtain ⟨B, hBd⟩ : ∃ B, ((s k.c == s z) && !(s z == 9223372036854775807)) = B := ⟨_, rfl⟩
        go_cut [43] (fun c wx => c = .bool B ∧ wx = V1)
        case first =>
          obtain ⟨bA, hA⟩ : ∃ b, (s k.c == s z) = b := ⟨_, rfl⟩
          obtain ⟨bN, hN⟩ : ∃ b, (s z == 9223372036854775807) = b := ⟨_, rfl⟩
          have HBd := Lib.hid hBd
          clear hBd
          cases bA <;> cases bN
          all_goals
            go_wp2_with fail
            go_meet
            refine ⟨?_, rfl⟩
            rw [← HBd.out, hA]
            first | rfl | (rw [hN]; rfl) | simp [hN] | simp_all
        case rest =>
          obtain ⟨rfl, hw⟩ := hcut
          rw [hw]
          clear hw
          go_upto_if 43 with fail
          obtain ⟨k3, hn3⟩ : ∃ q, k2.woC z = q := ⟨_, rfl⟩
          go_cut [] (fun wx => MB w k zeroK k3 wx)
          case first =>
            rw [← hn3] at *
            have HBd := Lib.hid hBd
            clear hBd
            cases B
            · go_wp2_with fail
              go_meet
              refine wrC_no HB.out (by rw [← hn2, ← hn1]; rfl) z ?_
              have := HBd.out
              rw [Bool.and_eq_false_iff, Bool.not_eq_false'] at this
              exact this
            · go_wp2_with fail
              go_meet
              have := HBd.out
              rw [Bool.and_eq_true, Bool.not_eq_true'] at this
              exact wrC_yes HB.out (by rw [← hn2, ← hn1]; rfl) z this.1 this.2
          case rest =>
            have HC := Lib.hid hcut
            clear y0 y1 y2 y3 y4 y5 f0 f1 f2 f3 f4 f5 n0 n1 n2 n3 n4 n5 hcut hBd B HB V1
            have HB := HC
            clear HC
            rename World => V2
            obtain ⟨n0, n1, n2, n3, n4, n5⟩ := num_cells HB.out.1
            obtain ⟨y0, y1, y2, y3, y4, y5⟩ := num_cells HB.out.2.2.1
            obtain ⟨f0, f1, f2, f3, f4, f5⟩ := num_free HB.out.2.2.1
            go_upto_region 12 with fail
            obtain ⟨B, hBd⟩ : ∃ B, ((s k.d == s z) && !(s z == -9223372036854775808)) = B := ⟨_, rfl⟩
            go_cut [54] (fun c wx => c = .bool B ∧ wx = V2)
            case first =>
              obtain ⟨bA, hA⟩ : ∃ b, (s k.d == s z) = b := ⟨_, rfl⟩
              obtain ⟨bN, hN⟩ : ∃ b, (s z == -9223372036854775808) = b := ⟨_, rfl⟩
              have HBd := Lib.hid hBd
              clear hBd
              cases bA <;> cases bN
              all_goals
                go_wp2_with fail
                go_meet
                refine ⟨?_, rfl⟩
                rw [← HBd.out, hA]
                first | rfl | (rw [hN]; rfl) | simp [hN] | simp_all
            case rest =>
              obtain ⟨rfl, hw⟩ := hcut
              rw [hw]
              clear hw
              go_upto_if 54 with fail
              obtain ⟨k4, hn4⟩ : ∃ q, k3.woD z = q := ⟨_, rfl⟩
              go_cut [] (fun wx => MB w k zeroK k4 wx)
              case first =>
                rw [← hn4] at *
                have HBd := Lib.hid hBd
                clear hBd
                cases B
                · go_wp2_with fail
                  go_meet
                  refine wrD_no HB.out (by rw [← hn3, ← hn2, ← hn1]; rfl) z ?_
                  have := HBd.out
                  rw [Bool.and_eq_false_iff, Bool.not_eq_false'] at this
                  exact this
                · go_wp2_with fail
                  go_meet
                  have := HBd.out
                  rw [Bool.and_eq_true, Bool.not_eq_true'] at this
                  exact wrD_yes HB.out (by rw [← hn3, ← hn2, ← hn1]; rfl) z this.1 this.2
              case rest =>
                have HC := Lib.hid hcut
                clear y0 y1 y2 y3 y4 y5 f0 f1 f2 f3 f4 f5 n0 n1 n2 n3 n4 n5 hcut hBd B HB V2
                have HB := HC
                clear HC
                obtain ⟨y0, y1, y2, y3, y4, y5⟩ := num_cells HB.out.2.2.1
                obtain ⟨z0, z1, z2, z3, z4, z5⟩ := num_cells HB.out.2.1
                obtain ⟨e0, e1, e2, e3, e4, e5⟩ := num_free HB.out.2.1
                have hk4 : k.wo z = k4 := by rw [← hn4, ← hn3, ← hn2, ← hn1]; rfl
                clear hn1 hn2 hn3 hn4
                have HK := Lib.hid hk4
                clear hk4
                go_wp2_with fail
                have HF := Lib.hid (num_six HB.out.2.1 k4)
                have HG := Lib.hid (below_sixn (show w.heap.size ≤ w.heap.size + 1 by omega) HB.out.2.2.2 (.int .u64 (u k4.v)) (.int .u64 (u k4.m)) (.int .u64 (u k4.a)) (.int .u64 (u k4.b)) (.int .i64 (s k4.c)) (.int .i64 (s k4.d)))
                generalize World.setCell _ _ _ = Wf at HF HG ⊢
                obtain ⟨x0, x1, x2, x3, x4, x5⟩ := num_cells HF.out
                exact bodyPost_ret (v := .tuple #[numV k4, .bool true]) (by unfold numV; simp [results, Try.results34, go_sem, x0, x1, x2, x3, x4, x5]) rfl ⟨by rw [HK.out]; rfl, HG.out⟩
end Go.Proofs.Ytbljijbmjccalaa

/-
  Proved here: what Opposite of the document's answers of layer 9 returns. Conditions: none.
-/
namespace Go.Proofs.Ytbljijbmjccalaa
open Go.RowKit
attribute [local go_sem] u_and u_or u_xor u_andNot u_add u_sub s_conv u_conv max_u min_u max_s min_s u_inc u_less s_inc s_less s_inc64 s_less64
set_option linter.unusedSimpArgs false


/-- The opposite condition. -/
def oppI (op : Int) : Int := if op = 16 then 80 else if op = 80 then 16 else if op = 32 then 176 else if op = 176 then 32 else if op = 48 then 160 else if op = 160 then 48 else if op = 96 then 208 else if op = 208 then 96 else if op = 112 then 192 else if op = 192 then 112 else op
set_option maxRecDepth 100000 in
set_option maxHeartbeats 8000000 in
theorem opp_ref (op : Int) (w : World) : Calls Try.prog 15 #[.int .u8 op] w (Gives (.int .u8 (oppI op)) w) := by
  have HB := Lib.hid (below_box w (.cells #[.int .u8 16, .int .u8 80, .int .u8 32, .int .u8 176, .int .u8 48, .int .u8 160, .int .u8 96, .int .u8 208, .int .u8 112, .int .u8 192] 58))
  have hh := (MapKept.heap_alloc w (.cells #[.int .u8 16, .int .u8 80, .int .u8 32, .int .u8 176, .int .u8 48, .int .u8 160, .int .u8 96, .int .u8 208, .int .u8 112, .int .u8 192] 58)).1
  obtain ⟨W, hW⟩ : ∃ W, w.alloc (.cells #[.int .u8 16, .int .u8 80, .int .u8 32, .int .u8 176, .int .u8 48, .int .u8 160, .int .u8 96, .int .u8 208, .int .u8 112, .int .u8 192] 58) = W := ⟨_, rfl⟩
  rw [hW] at HB hh
  have c0 : W.cell? ⟨w.heap.size, 0, none⟩ = some (.int .u8 16) := by simp [World.cell?, hh]
  have c1 : W.cell? ⟨w.heap.size, 1, none⟩ = some (.int .u8 80) := by simp [World.cell?, hh]
  have c2 : W.cell? ⟨w.heap.size, 2, none⟩ = some (.int .u8 32) := by simp [World.cell?, hh]
  have c3 : W.cell? ⟨w.heap.size, 3, none⟩ = some (.int .u8 176) := by simp [World.cell?, hh]
  have c4 : W.cell? ⟨w.heap.size, 4, none⟩ = some (.int .u8 48) := by simp [World.cell?, hh]
  have c5 : W.cell? ⟨w.heap.size, 5, none⟩ = some (.int .u8 160) := by simp [World.cell?, hh]
  have c6 : W.cell? ⟨w.heap.size, 6, none⟩ = some (.int .u8 96) := by simp [World.cell?, hh]
  have c7 : W.cell? ⟨w.heap.size, 7, none⟩ = some (.int .u8 208) := by simp [World.cell?, hh]
  have c8 : W.cell? ⟨w.heap.size, 8, none⟩ = some (.int .u8 112) := by simp [World.cell?, hh]
  have c9 : W.cell? ⟨w.heap.size, 9, none⟩ = some (.int .u8 192) := by simp [World.cell?, hh]
  clear hh
  unfold Gives
  go_enter Try.func15, Try.ntmps15
  go_wp2
  clear hW
  go_loop [4] (fun i => ∃ k : Nat, k ≤ 5 ∧ i = .int .i64 k ∧ (1 ≤ k → ¬ op = 16 ∧ ¬ op = 80) ∧ (2 ≤ k → ¬ op = 32 ∧ ¬ op = 176) ∧ (3 ≤ k → ¬ op = 48 ∧ ¬ op = 160) ∧ (4 ≤ k → ¬ op = 96 ∧ ¬ op = 208) ∧ (5 ≤ k → ¬ op = 112 ∧ ¬ op = 192)) (fun i => 5 - (intOf i).toNat)
  case atStart => exact ⟨0, by omega, rfl, by omega, by omega, by omega, by omega, by omega⟩
  case round =>
    obtain ⟨k, hk, rfl, r1, r2, r3, r4, r5⟩ := hrel
    have hc : k = 0 ∨ k = 1 ∨ k = 2 ∨ k = 3 ∨ k = 4 ∨ k = 5 := by omega
    have R1 := Lib.hid r1
    have R2 := Lib.hid r2
    have R3 := Lib.hid r3
    have R4 := Lib.hid r4
    have R5 := Lib.hid r5
    clear r1 r2 r3 r4 r5
    rcases hc with rfl | rfl | rfl | rfl | rfl | rfl
    · go_wp2
      all_goals
        first
          | (go_ret; refine ⟨?_, HB.out⟩; first | (rename (16 == op) = true => hh; have e : 16 = op := (by simpa using hh); subst e; rfl) | (rename (80 == op) = true => hh; have e : 80 = op := (by simpa using hh); subst e; rfl))
          | (go_round
             case rel => exact ⟨1, by omega, rfl, fun _ => ⟨fun e => by subst e; simp_all, fun e => by subst e; simp_all⟩, fun h => absurd h (by omega), fun h => absurd h (by omega), fun h => absurd h (by omega), fun h => absurd h (by omega)⟩
             case measure => simp [intOf])
    · go_wp2
      all_goals
        first
          | (go_ret; refine ⟨?_, HB.out⟩; first | (rename (32 == op) = true => hh; have e : 32 = op := (by simpa using hh); subst e; rfl) | (rename (176 == op) = true => hh; have e : 176 = op := (by simpa using hh); subst e; rfl))
          | (go_round
             case rel => exact ⟨2, by omega, rfl, fun _ => R1.out (by omega), fun _ => ⟨fun e => by subst e; simp_all, fun e => by subst e; simp_all⟩, fun h => absurd h (by omega), fun h => absurd h (by omega), fun h => absurd h (by omega)⟩
             case measure => simp [intOf])
    · go_wp2
      all_goals
        first
          | (go_ret; refine ⟨?_, HB.out⟩; first | (rename (48 == op) = true => hh; have e : 48 = op := (by simpa using hh); subst e; rfl) | (rename (160 == op) = true => hh; have e : 160 = op := (by simpa using hh); subst e; rfl))
          | (go_round
             case rel => exact ⟨3, by omega, rfl, fun _ => R1.out (by omega), fun _ => R2.out (by omega), fun _ => ⟨fun e => by subst e; simp_all, fun e => by subst e; simp_all⟩, fun h => absurd h (by omega), fun h => absurd h (by omega)⟩
             case measure => simp [intOf])
    · go_wp2
      all_goals
        first
          | (go_ret; refine ⟨?_, HB.out⟩; first | (rename (96 == op) = true => hh; have e : 96 = op := (by simpa using hh); subst e; rfl) | (rename (208 == op) = true => hh; have e : 208 = op := (by simpa using hh); subst e; rfl))
          | (go_round
             case rel => exact ⟨4, by omega, rfl, fun _ => R1.out (by omega), fun _ => R2.out (by omega), fun _ => R3.out (by omega), fun _ => ⟨fun e => by subst e; simp_all, fun e => by subst e; simp_all⟩, fun h => absurd h (by omega)⟩
             case measure => simp [intOf])
    · go_wp2
      all_goals
        first
          | (go_ret; refine ⟨?_, HB.out⟩; first | (rename (112 == op) = true => hh; have e : 112 = op := (by simpa using hh); subst e; rfl) | (rename (192 == op) = true => hh; have e : 192 = op := (by simpa using hh); subst e; rfl))
          | (go_round
             case rel => exact ⟨5, by omega, rfl, fun _ => R1.out (by omega), fun _ => R2.out (by omega), fun _ => R3.out (by omega), fun _ => R4.out (by omega), fun _ => ⟨fun e => by subst e; simp_all, fun e => by subst e; simp_all⟩⟩
             case measure => simp [intOf])
    · obtain ⟨s1, t1⟩ := R1.out (by omega)
      obtain ⟨s2, t2⟩ := R2.out (by omega)
      obtain ⟨s3, t3⟩ := R3.out (by omega)
      obtain ⟨s4, t4⟩ := R4.out (by omega)
      obtain ⟨s5, t5⟩ := R5.out (by omega)
      have e : oppI op = op := by simp [oppI, *]
      have E := Lib.hid e
      clear s1 t1 s2 t2 s3 t3 s4 t4 s5 t5 e
      go_wp2
      go_ret
      exact ⟨by rw [E.out]; rfl, HB.out⟩
end Go.Proofs.Ytbljijbmjccalaa
