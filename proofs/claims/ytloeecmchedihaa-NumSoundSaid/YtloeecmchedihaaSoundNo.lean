/-
  Proved here: the law NumSound returns true, where the first one has not the number. Conditions: it has it not.
-/
import Derived.Test.YtloeecmchedihaaAliveNum
import Derived.Test.YtloeecmchedihaaNumIn
import Derived.Test.YtloeecmchedihaaSoundNum
import Derived.Test.YtloeecmchedihaaRefInts
namespace Go.Proofs.Ytloeecmchedihaa
open Go.RowKit
attribute [local go_sem] u_and u_or u_xor u_andNot u_add u_sub s_conv u_conv max_u min_u max_s min_s

/-- The boxes of both. -/
def Both (w0 : World) (a b : K) (W : World) : Prop := NumAt w0.heap.size a W ∧ NumAt (w0.heap.size + 1) b W ∧ Below w0.heap.size w0 W
theorem bt_keep {w0 W W' : World} {a b : K} (h : Both w0 a b W) (hb : Below W.heap.size W W') : Both w0 a b W' := ⟨num_keep h.1 hb, num_keep h.2.1 hb, h.2.2.trans (hb.mono h.2.2.size)⟩
theorem bt_new (a b : K) (w : World) : Both w a b ((w.alloc (.cells #[.int .u64 (u a.v), .int .u64 (u a.m), .int .u64 (u a.a), .int .u64 (u a.b), .int .i64 (s a.c), .int .i64 (s a.d)] 26)).alloc
    (.cells #[.int .u64 (u b.v), .int .u64 (u b.m), .int .u64 (u b.a), .int .u64 (u b.b), .int .i64 (s b.c), .int .i64 (s b.d)] 26)) := by
  have h1 := num_new a w
  obtain ⟨W1, hW1⟩ : ∃ W, w.alloc (.cells #[.int .u64 (u a.v), .int .u64 (u a.m), .int .u64 (u a.a), .int .u64 (u a.b), .int .i64 (s a.c), .int .i64 (s a.d)] 26) = W := ⟨_, rfl⟩
  have b1 : Below w.heap.size w W1 := by rw [← hW1]; exact below_box _ _
  have e1 : W1.heap.size = w.heap.size + 1 := by rw [← hW1]; simp
  rw [hW1] at h1 ⊢
  have h2 := num_new b W1
  have b2 := below_box W1 (.cells #[.int .u64 (u b.v), .int .u64 (u b.m), .int .u64 (u b.a), .int .u64 (u b.b), .int .i64 (s b.c), .int .i64 (s b.d)] 26)
  rw [e1] at h2
  exact ⟨num_keep h1 b2, h2, b1.trans (b2.mono (by omega))⟩
/-- Four boxes: both, what is refined, what they tell together. -/
def Four (w0 : World) (a b r m : K) (g h : Nat) (W : World) : Prop := Both w0 a b W ∧ NumAt g r W ∧ NumAt h m W
theorem four_keep {w0 W W' : World} {a b r m : K} {g h : Nat} (H : Four w0 a b r m g h W) (hb : Below W.heap.size W W') : Four w0 a b r m g h W' := ⟨bt_keep H.1 hb, num_keep H.2.1 hb, num_keep H.2.2 hb⟩
/-- The law's walk, up to where what is known of the answers comes in. -/
theorem zext_has (x : B64) (n : Int) (W : World) : Calls Try.prog 21 #[.int .u64 (u x), .int .i64 n] W (Ret (.int .u64 (u (lowB x (bN n)))) W) := by
  rw [← zx_u]
  exact zext_ref _ _ _ (u_bd x).1 (u_bd x).2
theorem four_drew {w0 W : World} {a b r m : K} {g h : Nat} (H : Four w0 a b r m g h W) : Four w0 a b r m g h W.drew := ⟨⟨H.1.1, H.1.2.1, H.1.2.2.drew⟩, H.2.1, H.2.2⟩
theorem s12_of {w0 W : World} {a b r m : K} {g h : Nat} (H : Four w0 a b r m g h W) : W.cell? ⟨w0.heap.size, 0, none⟩ = some (.int .u64 (u a.v)) ∧ W.cell? ⟨w0.heap.size, 1, none⟩ = some (.int .u64 (u a.m)) ∧ W.cell? ⟨w0.heap.size, 2, none⟩ = some (.int .u64 (u a.a)) ∧ W.cell? ⟨w0.heap.size, 3, none⟩ = some (.int .u64 (u a.b)) ∧ W.cell? ⟨w0.heap.size, 4, none⟩ = some (.int .i64 (s a.c)) ∧ W.cell? ⟨w0.heap.size, 5, none⟩ = some (.int .i64 (s a.d)) ∧ W.cell? ⟨g, 0, none⟩ = some (.int .u64 (u r.v)) ∧ W.cell? ⟨g, 1, none⟩ = some (.int .u64 (u r.m)) ∧ W.cell? ⟨g, 2, none⟩ = some (.int .u64 (u r.a)) ∧ W.cell? ⟨g, 3, none⟩ = some (.int .u64 (u r.b)) ∧ W.cell? ⟨g, 4, none⟩ = some (.int .i64 (s r.c)) ∧ W.cell? ⟨g, 5, none⟩ = some (.int .i64 (s r.d)) ∧ Four w0 a b r m g h W := by
  obtain ⟨n0, n1, n2, n3, n4, n5⟩ := num_cells H.1.1
  obtain ⟨m0, m1, m2, m3, m4, m5⟩ := num_cells H.2.1
  exact ⟨n0, n1, n2, n3, n4, n5, m0, m1, m2, m3, m4, m5, H⟩
theorem s12_four {w0 W : World} {a b r m : K} {g h : Nat} (H : W.cell? ⟨w0.heap.size, 0, none⟩ = some (.int .u64 (u a.v)) ∧ W.cell? ⟨w0.heap.size, 1, none⟩ = some (.int .u64 (u a.m)) ∧ W.cell? ⟨w0.heap.size, 2, none⟩ = some (.int .u64 (u a.a)) ∧ W.cell? ⟨w0.heap.size, 3, none⟩ = some (.int .u64 (u a.b)) ∧ W.cell? ⟨w0.heap.size, 4, none⟩ = some (.int .i64 (s a.c)) ∧ W.cell? ⟨w0.heap.size, 5, none⟩ = some (.int .i64 (s a.d)) ∧ W.cell? ⟨g, 0, none⟩ = some (.int .u64 (u r.v)) ∧ W.cell? ⟨g, 1, none⟩ = some (.int .u64 (u r.m)) ∧ W.cell? ⟨g, 2, none⟩ = some (.int .u64 (u r.a)) ∧ W.cell? ⟨g, 3, none⟩ = some (.int .u64 (u r.b)) ∧ W.cell? ⟨g, 4, none⟩ = some (.int .i64 (s r.c)) ∧ W.cell? ⟨g, 5, none⟩ = some (.int .i64 (s r.d)) ∧ Four w0 a b r m g h W) : Four w0 a b r m g h W := H.2.2.2.2.2.2.2.2.2.2.2.2
set_option maxHeartbeats 8000000 in
theorem sound_no (a b : K) (x : B64) (n : Int) (w : World) (hx : a.has x = false) : Calls Try.prog 6 #[numV a, numV b, .int .u64 (u x), .int .i64 n] w (Gives (.bool true) w) := by
  have HZ := Lib.hid (bt_new a b w)
  have hr := fun W => refine_num a W
  have hm := fun W => meet_both a b W
  have hha := fun W => has_num a x W
  rw [hx] at hha
  cases ho : a.okF
  · rw [ho] at hr
    clear hx ho
    obtain ⟨r, hr1⟩ : ∃ r, a.fine = r := ⟨_, rfl⟩
    obtain ⟨m, hm1⟩ : ∃ m, a.both b = m := ⟨_, rfl⟩
    obtain ⟨o, ho1⟩ : ∃ o, a.okM b = o := ⟨_, rfl⟩
    rw [hr1] at hr
    rw [hm1, ho1] at hm
    clear hr1 hm1 ho1
    unfold numV at hr hm hha
    unfold Gives numV
    go_enter Try.func6, Try.ntmps6
    go_upto_region 5 with (first
      | (go_at_call 7; refine (alive_num _).mono ?_; rintro e w1 ⟨rfl, hb⟩; have H1 := Lib.hid (bt_keep HZ.out hb); obtain ⟨n0, n1, n2, n3, n4, n5⟩ := num_cells H1.out.1; clear hb)
      | (go_at_call 15; refine (hr _).mono ?_; rintro e w2 ⟨rfl, hb⟩; have H2 := Lib.hid (bt_keep H1.out hb); have HR2 := Lib.hid (num_new r w2); have H3 := Lib.hid (bt_keep H2.out (below_box _ (.cells #[.int .u64 (u r.v), .int .u64 (u r.m), .int .u64 (u r.a), .int .u64 (u r.b), .int .i64 (s r.c), .int .i64 (s r.d)] 26))); clear n0 n1 n2 n3 n4 n5; obtain ⟨n0, n1, n2, n3, n4, n5⟩ := num_cells H2.out.1; obtain ⟨m0, m1, m2, m3, m4, m5⟩ := num_cells H2.out.2.1; have hz := num_lt H2.out.2.1; have hz0 := num_lt H2.out.1; clear hb)
      | (go_at_call 19; refine (hm _).mono ?_; rintro e w4 ⟨rfl, hb⟩; have H4 := Lib.hid (show Four w a b r m w2.heap.size w4.heap.size (w4.alloc (.cells #[.int .u64 (u m.v), .int .u64 (u m.m), .int .u64 (u m.a), .int .u64 (u m.b), .int .i64 (s m.c), .int .i64 (s m.d)] 26)) from ⟨bt_keep (bt_keep H3.out hb) (below_box _ _), num_keep (num_keep HR2.out hb) (below_box _ _), num_new m w4⟩); clear n0 n1 n2 n3 n4 n5 m0 m1 m2 m3 m4 m5 hz hz0 hb))
    obtain ⟨W, hW⟩ : ∃ W, w4.alloc (.cells #[.int .u64 (u m.v), .int .u64 (u m.m), .int .u64 (u m.a), .int .u64 (u m.b), .int .i64 (s m.c), .int .i64 (s m.d)] 26) = W := ⟨_, rfl⟩
    rw [hW] at H4 ⊢
    clear hW
    go_quiet (fail)
    have H5 := Lib.hid (four_keep H4.out (below_drews (Below.refl _ _) nq))
    obtain ⟨n0, n1, n2, n3, n4, n5⟩ := num_cells H5.out.1.1
    go_wp2_with ((go_at_call_of 9 (Value.agg #[.int .u64 (u a.v), .int .u64 (u a.m), .int .u64 (u a.a), .int .u64 (u a.b), .int .i64 (s a.c), .int .i64 (s a.d)])); refine (hha _).mono ?_; rintro e w6 ⟨rfl, hb⟩; have H6 := Lib.hid (four_keep H5.out hb); clear hb)
    go_ret
    exact ⟨rfl, H6.out.1.2.2⟩
  · have hhr := fun W => has_num a.fine x W
    have hfx : a.fine.has x = false := by
      have := has_fine x ho
      rw [hx] at this
      cases e : a.fine.has x
      · rfl
      · exact absurd (this.1 e) Bool.false_ne_true
    rw [hfx] at hhr
    rw [ho] at hr
    clear hx ho hfx
    obtain ⟨r, hr1⟩ : ∃ r, a.fine = r := ⟨_, rfl⟩
    obtain ⟨m, hm1⟩ : ∃ m, a.both b = m := ⟨_, rfl⟩
    obtain ⟨o, ho1⟩ : ∃ o, a.okM b = o := ⟨_, rfl⟩
    rw [hr1] at hr hhr
    rw [hm1, ho1] at hm
    clear hr1 hm1 ho1
    unfold numV at hr hm hha hhr
    unfold Gives numV
    go_enter Try.func6, Try.ntmps6
    go_upto_region 5 with (first
      | (go_at_call 7; refine (alive_num _).mono ?_; rintro e w1 ⟨rfl, hb⟩; have H1 := Lib.hid (bt_keep HZ.out hb); obtain ⟨n0, n1, n2, n3, n4, n5⟩ := num_cells H1.out.1; clear hb)
      | (go_at_call 15; refine (hr _).mono ?_; rintro e w2 ⟨rfl, hb⟩; have H2 := Lib.hid (bt_keep H1.out hb); have HR2 := Lib.hid (num_new r w2); have H3 := Lib.hid (bt_keep H2.out (below_box _ (.cells #[.int .u64 (u r.v), .int .u64 (u r.m), .int .u64 (u r.a), .int .u64 (u r.b), .int .i64 (s r.c), .int .i64 (s r.d)] 26))); clear n0 n1 n2 n3 n4 n5; obtain ⟨n0, n1, n2, n3, n4, n5⟩ := num_cells H2.out.1; obtain ⟨m0, m1, m2, m3, m4, m5⟩ := num_cells H2.out.2.1; have hz := num_lt H2.out.2.1; have hz0 := num_lt H2.out.1; clear hb)
      | (go_at_call 19; refine (hm _).mono ?_; rintro e w4 ⟨rfl, hb⟩; have H4 := Lib.hid (show Four w a b r m w2.heap.size w4.heap.size (w4.alloc (.cells #[.int .u64 (u m.v), .int .u64 (u m.m), .int .u64 (u m.a), .int .u64 (u m.b), .int .i64 (s m.c), .int .i64 (s m.d)] 26)) from ⟨bt_keep (bt_keep H3.out hb) (below_box _ _), num_keep (num_keep HR2.out hb) (below_box _ _), num_new m w4⟩); clear n0 n1 n2 n3 n4 n5 m0 m1 m2 m3 m4 m5 hz hz0 hb))
    obtain ⟨W, hW⟩ : ∃ W, w4.alloc (.cells #[.int .u64 (u m.v), .int .u64 (u m.m), .int .u64 (u m.a), .int .u64 (u m.b), .int .i64 (s m.c), .int .i64 (s m.d)] 26) = W := ⟨_, rfl⟩
    rw [hW] at H4 ⊢
    clear hW
    have hS0 := s12_of (four_drew H4.out)
    go_region_held3 (fun W => W.cell? ⟨w.heap.size, 0, none⟩ = some (.int .u64 (u a.v)) ∧ W.cell? ⟨w.heap.size, 1, none⟩ = some (.int .u64 (u a.m)) ∧ W.cell? ⟨w.heap.size, 2, none⟩ = some (.int .u64 (u a.a)) ∧ W.cell? ⟨w.heap.size, 3, none⟩ = some (.int .u64 (u a.b)) ∧ W.cell? ⟨w.heap.size, 4, none⟩ = some (.int .i64 (s a.c)) ∧ W.cell? ⟨w.heap.size, 5, none⟩ = some (.int .i64 (s a.d)) ∧ W.cell? ⟨w2.heap.size, 0, none⟩ = some (.int .u64 (u r.v)) ∧ W.cell? ⟨w2.heap.size, 1, none⟩ = some (.int .u64 (u r.m)) ∧ W.cell? ⟨w2.heap.size, 2, none⟩ = some (.int .u64 (u r.a)) ∧ W.cell? ⟨w2.heap.size, 3, none⟩ = some (.int .u64 (u r.b)) ∧ W.cell? ⟨w2.heap.size, 4, none⟩ = some (.int .i64 (s r.c)) ∧ W.cell? ⟨w2.heap.size, 5, none⟩ = some (.int .i64 (s r.d)) ∧ Four w a b r m w2.heap.size w4.heap.size W)
      (first | exact hS0 | exact hS7 | assumption)
      (first
        | ((go_at_call_of 9 (Value.agg #[.int .u64 (u a.v), .int .u64 (u a.m), .int .u64 (u a.a), .int .u64 (u a.b), .int .i64 (s a.c), .int .i64 (s a.d)])); refine (hha _).mono ?_; rintro e w7 ⟨rfl, hb7⟩; have hS7 := s12_of (four_keep (s12_four (w0 := w) (a := a) (b := b) (r := r) (m := m) (g := w2.heap.size) (h := w4.heap.size) (by assumption)) hb7); clear hb7)
        | ((go_at_call_of 9 (Value.agg #[.int .u64 (u r.v), .int .u64 (u r.m), .int .u64 (u r.a), .int .u64 (u r.b), .int .i64 (s r.c), .int .i64 (s r.d)])); refine (hhr _).mono ?_; rintro e w7 ⟨rfl, hb7⟩; have hS7 := s12_of (four_keep (s12_four (w0 := w) (a := a) (b := b) (r := r) (m := m) (g := w2.heap.size) (h := w4.heap.size) (by assumption)) hb7); clear hb7))
    all_goals
      have HF := Lib.hid (s12_four hS7)
      obtain ⟨n0, n1, n2, n3, n4, n5⟩ := num_cells HF.out.1.1
      clear hS7 hS0
      go_wp2_with ((go_at_call_of 9 (Value.agg #[.int .u64 (u a.v), .int .u64 (u a.m), .int .u64 (u a.a), .int .u64 (u a.b), .int .i64 (s a.c), .int .i64 (s a.d)])); refine (hha _).mono ?_; rintro e w6 ⟨rfl, hb⟩; replace HF := Lib.hid (four_keep HF.out hb); clear hb)
      go_ret
      exact ⟨rfl, HF.out.1.2.2⟩
end Go.Proofs.Ytloeecmchedihaa
