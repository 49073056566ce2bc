/-
  Proved here: the law NarrowWays returns true, of any two known, and every condition. Conditions: none.
-/
import Derived.Test.YtbljijbmjccalaaW3
import Derived.Test.YtbljijbmjccalaaD5
import Derived.Test.YtbljijbmjccalaaHNumIn
namespace Go.Proofs.Ytbljijbmjccalaa
open Go.RowKit
attribute [local go_sem] u_and u_or u_xor u_andNot u_add u_sub s_conv u_conv max_u min_u max_s min_s u_inc u_less s_inc s_less s_inc64 s_less64
set_option linter.unusedSimpArgs false


/-- Both boxes of the law's arguments. -/
def WQ (w0 : World) (a b : K) (W : World) : Prop := NumAt w0.heap.size a W ∧ NumAt (w0.heap.size + 1) b W ∧ Below w0.heap.size w0 W
theorem wq_keep {w0 W W' : World} {a b : K} (h : WQ w0 a b W) (hb : Below W.heap.size W W') : WQ w0 a b W' := ⟨num_keep h.1 hb, num_keep h.2.1 hb, h.2.2.trans (hb.mono h.2.2.size)⟩
theorem two_new (P Q : K) (W : World) : NumAt W.heap.size P ((W.alloc (.cells #[.int .u64 (u P.v), .int .u64 (u P.m), .int .u64 (u P.a), .int .u64 (u P.b), .int .i64 (s P.c), .int .i64 (s P.d)] 26)).alloc (.cells #[.int .u64 (u Q.v), .int .u64 (u Q.m), .int .u64 (u Q.a), .int .u64 (u Q.b), .int .i64 (s Q.c), .int .i64 (s Q.d)] 26)) ∧ NumAt (W.heap.size + 1) Q ((W.alloc (.cells #[.int .u64 (u P.v), .int .u64 (u P.m), .int .u64 (u P.a), .int .u64 (u P.b), .int .i64 (s P.c), .int .i64 (s P.d)] 26)).alloc (.cells #[.int .u64 (u Q.v), .int .u64 (u Q.m), .int .u64 (u Q.a), .int .u64 (u Q.b), .int .i64 (s Q.c), .int .i64 (s Q.d)] 26)) ∧ Below W.heap.size W ((W.alloc (.cells #[.int .u64 (u P.v), .int .u64 (u P.m), .int .u64 (u P.a), .int .u64 (u P.b), .int .i64 (s P.c), .int .i64 (s P.d)] 26)).alloc (.cells #[.int .u64 (u Q.v), .int .u64 (u Q.m), .int .u64 (u Q.a), .int .u64 (u Q.b), .int .i64 (s Q.c), .int .i64 (s Q.d)] 26)) := by
  have h1 := num_new P W
  have b1 := below_box W (.cells #[.int .u64 (u P.v), .int .u64 (u P.m), .int .u64 (u P.a), .int .u64 (u P.b), .int .i64 (s P.c), .int .i64 (s P.d)] 26)
  obtain ⟨W1, hW1⟩ : ∃ V, W.alloc (.cells #[.int .u64 (u P.v), .int .u64 (u P.m), .int .u64 (u P.a), .int .u64 (u P.b), .int .i64 (s P.c), .int .i64 (s P.d)] 26) = V := ⟨_, rfl⟩
  have e1 : W1.heap.size = W.heap.size + 1 := by rw [← hW1]; simp
  rw [hW1] at h1 b1 ⊢
  have h2 := num_new Q W1
  rw [e1] at h2
  have b2 := below_box W1 (.cells #[.int .u64 (u Q.v), .int .u64 (u Q.m), .int .u64 (u Q.a), .int .u64 (u Q.b), .int .i64 (s Q.c), .int .i64 (s Q.d)] 26)
  exact ⟨num_keep h1 b2, h2, b1.trans (b2.mono (by omega))⟩
theorem eqlP (k : K) (w : World) : (binOp .eql 26 (.agg #[.int .u64 (u k.v), .int .u64 (u k.m), .int .u64 (u k.a), .int .u64 (u k.b), .int .i64 (s k.c), .int .i64 (s k.d)]) (.agg #[.int .u64 (u k.v), .int .u64 (u k.m), .int .u64 (u k.a), .int .u64 (u k.b), .int .i64 (s k.c), .int .i64 (s k.d)])).run Try.prog w = .ok (.bool true) w := by
  simp [go_sem]
theorem eqlB (b : Bool) : (b == b) = true := by cases b <;> rfl
theorem way_form (op : Int) (wide hs : Bool) (x y : K) : ∃ P Q ok, wayV op wide x y hs = .tuple #[numV P, numV Q, .bool ok] := by
  unfold wayV backV
  split
  · split
    · exact ⟨_, _, _, rfl⟩
    · exact ⟨_, _, _, rfl⟩
  · exact ⟨_, _, _, rfl⟩
attribute [local go_sem ↓] eqlP
set_option maxRecDepth 100000 in
set_option maxHeartbeats 8000000 in
theorem ways_law (op : Int) (wide hs : Bool) (a b : K) (w : World) (h0 : 0 ≤ op) (h1 : op ≤ 255) : Calls Try.prog 3 #[.int .u8 op, .bool wide, numV a, numV b, .bool hs] w (Gives (.bool true) w) := by
  have HP := Lib.hid (two_new a b w)
  have hal := fun W => alive_num W
  have hw := fun W => way_num op wide hs a b W
  have hr := fun W => ref_way op wide hs a b W h0 h1
  obtain ⟨P, Q, ok, e⟩ := way_form op wide hs a b
  rw [e] at hw hr
  clear e h0 h1
  have hok := eqlB ok
  unfold numV at *
  unfold Gives
  go_enter Try.func3, Try.ntmps3
  go_upto_region 3 with (go_at_call 5; refine (hal _).mono ?_; rintro e w1 ⟨rfl, hb⟩; have H1 := Lib.hid (wq_keep HP.out hb); clear hb)
  obtain ⟨a0, a1, a2, a3, a4, a5⟩ := num_cells H1.out.1
  obtain ⟨b0, b1, b2, b3, b4, b5⟩ := num_cells H1.out.2.1
  clear HP hal
  go_upto_region 4 with (go_at_call 6; refine (hw _).mono ?_; rintro e w2 ⟨rfl, hb⟩; have H2 := Lib.hid (wq_keep H1.out hb); clear hb a0 a1 a2 a3 a4 a5 b0 b1 b2 b3 b4 b5 H1)
  have H3 := Lib.hid (two_new P Q w2)
  have H1 := Lib.hid (wq_keep H2.out H3.out.2.2)
  obtain ⟨n, hn⟩ : ∃ n, w2.heap.size = n := ⟨_, rfl⟩
  obtain ⟨W, hW⟩ : ∃ W, ((w2.alloc (.cells #[.int .u64 (u P.v), .int .u64 (u P.m), .int .u64 (u P.a), .int .u64 (u P.b), .int .i64 (s P.c), .int .i64 (s P.d)] 26)).alloc (.cells #[.int .u64 (u Q.v), .int .u64 (u Q.m), .int .u64 (u Q.a), .int .u64 (u Q.b), .int .i64 (s Q.c), .int .i64 (s Q.d)] 26)) = W := ⟨_, rfl⟩
  try simp only [World.size_alloc]
  rw [hW] at H1 H3 ⊢
  rw [hn] at H3 ⊢
  have H4 := Lib.hid (show NumAt n P W ∧ NumAt (n + 1) Q W from ⟨H3.out.1, H3.out.2.1⟩)
  clear H3 H2 hn hW hw
  obtain ⟨a0, a1, a2, a3, a4, a5⟩ := num_cells H1.out.1
  obtain ⟨b0, b1, b2, b3, b4, b5⟩ := num_cells H1.out.2.1
  go_upto_region 5 with (go_at_call 7; refine (hr _).mono ?_; rintro e w3 ⟨rfl, hb⟩; have H2 := Lib.hid (wq_keep H1.out hb); have H5 := Lib.hid (show NumAt n P w3 ∧ NumAt (n + 1) Q w3 from ⟨num_keep H4.out.1 hb, num_keep H4.out.2 hb⟩); clear hb a0 a1 a2 a3 a4 a5 b0 b1 b2 b3 b4 b5 H1 H4)
  have H3 := Lib.hid (two_new P Q w3)
  have H1 := Lib.hid (wq_keep H2.out H3.out.2.2)
  have H4 := Lib.hid (show NumAt n P _ ∧ NumAt (n + 1) Q _ from ⟨num_keep H5.out.1 H3.out.2.2, num_keep H5.out.2 H3.out.2.2⟩)
  obtain ⟨m, hm⟩ : ∃ n, w3.heap.size = n := ⟨_, rfl⟩
  obtain ⟨V, hV⟩ : ∃ W, ((w3.alloc (.cells #[.int .u64 (u P.v), .int .u64 (u P.m), .int .u64 (u P.a), .int .u64 (u P.b), .int .i64 (s P.c), .int .i64 (s P.d)] 26)).alloc (.cells #[.int .u64 (u Q.v), .int .u64 (u Q.m), .int .u64 (u Q.a), .int .u64 (u Q.b), .int .i64 (s Q.c), .int .i64 (s Q.d)] 26)) = W := ⟨_, rfl⟩
  rw [hV] at H1 H3 H4 ⊢
  rw [hm] at H3 ⊢
  clear H2 H5 hm hV hr
  obtain ⟨p0, p1, p2, p3, p4, p5⟩ := num_cells H3.out.1
  obtain ⟨q0, q1, q2, q3, q4, q5⟩ := num_cells H3.out.2.1
  obtain ⟨r0, r1, r2, r3, r4, r5⟩ := num_cells H4.out.1
  obtain ⟨t0, t1, t2, t3, t4, t5⟩ := num_cells H4.out.2
  go_wp2_with fail
  go_ret
  exact ⟨by simp, H1.out.2.2⟩
theorem narrowWays.walk (v0 v1 v2 v3 v4 : Value) (w : World) (h0 : IsInt .u8 v0) (h1 : ∃ b : Bool, v1 = .bool b) (h2 : IsNum v2) (h3 : IsNum v3) (h4 : ∃ b : Bool, v4 = .bool b) :
    Calls Try.prog 3 #[v0, v1, v2, v3, v4] w fun e w' => e = .returned (.bool true) ∧ Below w.heap.size w w' := by
  obtain ⟨op, rfl, ho⟩ := h0
  obtain ⟨wide, rfl⟩ := h1
  obtain ⟨a, rfl⟩ := h2
  obtain ⟨b, rfl⟩ := h3
  obtain ⟨hs, rfl⟩ := h4
  have hr : 0 ≤ op ∧ op ≤ 255 := by
    have hm : (IntKind.u8.min = 0 ∧ IntKind.u8.max = 255) := by decide
    have ho : (decide (IntKind.u8.min ≤ op) && decide (op ≤ IntKind.u8.max)) = true := ho
    rw [hm.1, hm.2, Bool.and_eq_true, decide_eq_true_eq, decide_eq_true_eq] at ho
    exact ho
  exact ways_law op wide hs a b w hr.1 hr.2
end Go.Proofs.Ytbljijbmjccalaa
