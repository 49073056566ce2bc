/-
  Proved here: the law NarrowSound returns true, of any two known, and every condition and numbers. Conditions: none.
-/
import Derived.Test.YtbljijbmjccalaaW3
import Derived.Test.YtbljijbmjccalaaWaySound
import Derived.Test.YtbljijbmjccalaaNumIn
import Derived.Test.YtbljijbmjccalaaRefNum
namespace Go.Proofs.Ytbljijbmjccalaa
open Go.RowKit
attribute [local go_sem] u_and u_or u_xor u_andNot u_add u_sub s_conv u_conv max_u min_u max_s min_s u_inc u_less s_inc s_less s_inc64 s_less64
set_option linter.unusedSimpArgs false


/-- Both boxes of the law's arguments. -/
def LQ (w0 : World) (a b : K) (W : World) : Prop := NumAt w0.heap.size a W ∧ NumAt (w0.heap.size + 1) b W ∧ Below w0.heap.size w0 W
theorem lq_keep {w0 W W' : World} {a b : K} (h : LQ w0 a b W) (hb : Below W.heap.size W W') : LQ w0 a b W' := ⟨num_keep h.1 hb, num_keep h.2.1 hb, h.2.2.trans (hb.mono h.2.2.size)⟩
theorem lq_new (a b : K) (w : World) : LQ w a b ((w.alloc (.cells #[.int .u64 (u a.v), .int .u64 (u a.m), .int .u64 (u a.a), .int .u64 (u a.b), .int .i64 (s a.c), .int .i64 (s a.d)] 26)).alloc (.cells #[.int .u64 (u b.v), .int .u64 (u b.m), .int .u64 (u b.a), .int .u64 (u b.b), .int .i64 (s b.c), .int .i64 (s b.d)] 26)) := by
  have h1 := num_new a w
  have b1 := below_box w (.cells #[.int .u64 (u a.v), .int .u64 (u a.m), .int .u64 (u a.a), .int .u64 (u a.b), .int .i64 (s a.c), .int .i64 (s a.d)] 26)
  obtain ⟨W1, hW1⟩ : ∃ W, w.alloc (.cells #[.int .u64 (u a.v), .int .u64 (u a.m), .int .u64 (u a.a), .int .u64 (u a.b), .int .i64 (s a.c), .int .i64 (s a.d)] 26) = W := ⟨_, rfl⟩
  have e1 : W1.heap.size = w.heap.size + 1 := by rw [← hW1]; simp
  rw [hW1] at h1 b1 ⊢
  have h2 := num_new b W1
  rw [e1] at h2
  have b2 := below_box W1 (.cells #[.int .u64 (u b.v), .int .u64 (u b.m), .int .u64 (u b.a), .int .u64 (u b.b), .int .i64 (s b.c), .int .i64 (s b.d)] 26)
  exact ⟨num_keep h1 b2, h2, b1.trans (b2.mono (by omega))⟩
theorem holds_call (op : Int) (wide : Bool) (x y : B64) (w : World) : Calls Try.prog 8 #[.int .u8 op, .bool wide, .int .u64 (u x), .int .u64 (u y)] w (HoldPost w (holdI op wide (u x) (u y)) (isCond op)) :=
  holds_ref op wide (u x) (u y) w (u_bd x).1 (u_bd x).2 (u_bd y).1 (u_bd y).2
set_option maxRecDepth 100000 in
set_option maxHeartbeats 4000000 in
theorem sound_op (op : Int) (wide : Bool) (a b : K) (x y : B64) (w : World) (h : isCond op = false) : Calls Try.prog 4 #[.int .u8 op, .bool wide, numV a, numV b, .int .u64 (u x), .int .u64 (u y)] w (Gives (.bool true) w) := by
  have HP := Lib.hid (lq_new a b w)
  have hal := fun W => alive_num W
  have hd := fun W => holds_call op wide x y W
  have hha := fun W => refhas_num a x W
  have hhb := fun W => refhas_num b y W
  rw [h] at hd
  clear h
  obtain ⟨q, hq⟩ : ∃ q, holdI op wide (u x) (u y) = q := ⟨_, rfl⟩
  rw [hq] at hd
  clear hq
  unfold HoldPost at hd
  unfold numV at *
  unfold Gives
  go_enter Try.func4, Try.ntmps4
  go_upto_region 3 with (go_at_call 5; refine (hal _).mono ?_; rintro e w1 ⟨rfl, hb⟩; have H1 := Lib.hid (lq_keep HP.out hb); clear hb)
  obtain ⟨a0, a1, a2, a3, a4, a5⟩ := num_cells H1.out.1
  obtain ⟨b0, b1, b2, b3, b4, b5⟩ := num_cells H1.out.2.1
  clear HP hal
  go_wp2_with (first | (go_at_call 8; refine (hd _).mono ?_; rintro e w2 ⟨rfl, hb⟩; replace H1 := Lib.hid (lq_keep H1.out hb); clear hb; clear a0 a1 a2 a3 a4 a5 b0 b1 b2 b3 b4 b5; obtain ⟨a0, a1, a2, a3, a4, a5⟩ := num_cells H1.out.1; obtain ⟨b0, b1, b2, b3, b4, b5⟩ := num_cells H1.out.2.1))
  go_ret
  exact ⟨rfl, H1.out.2.2⟩
set_option maxRecDepth 100000 in
set_option maxHeartbeats 4000000 in
theorem sound_a (op : Int) (wide : Bool) (a b : K) (x y : B64) (w : World) (h : isCond op = true) (ha : a.has x = false) : Calls Try.prog 4 #[.int .u8 op, .bool wide, numV a, numV b, .int .u64 (u x), .int .u64 (u y)] w (Gives (.bool true) w) := by
  have HP := Lib.hid (lq_new a b w)
  have hal := fun W => alive_num W
  have hd := fun W => holds_call op wide x y W
  have hha := fun W => refhas_num a x W
  have hhb := fun W => refhas_num b y W
  rw [h] at hd
  rw [ha] at hha
  clear h ha
  obtain ⟨q, hq⟩ : ∃ q, holdI op wide (u x) (u y) = q := ⟨_, rfl⟩
  rw [hq] at hd
  clear hq
  unfold HoldPost at hd
  unfold numV at *
  unfold Gives
  go_enter Try.func4, Try.ntmps4
  go_upto_region 3 with (go_at_call 5; refine (hal _).mono ?_; rintro e w1 ⟨rfl, hb⟩; have H1 := Lib.hid (lq_keep HP.out hb); clear hb)
  obtain ⟨a0, a1, a2, a3, a4, a5⟩ := num_cells H1.out.1
  obtain ⟨b0, b1, b2, b3, b4, b5⟩ := num_cells H1.out.2.1
  clear HP hal
  go_wp2_with (first | (go_at_call 8; refine (hd _).mono ?_; rintro e w2 ⟨rfl, hb⟩; replace H1 := Lib.hid (lq_keep H1.out hb); clear hb; clear a0 a1 a2 a3 a4 a5 b0 b1 b2 b3 b4 b5; obtain ⟨a0, a1, a2, a3, a4, a5⟩ := num_cells H1.out.1; obtain ⟨b0, b1, b2, b3, b4, b5⟩ := num_cells H1.out.2.1) | (go_at_call_of 9 (Value.agg #[.int .u64 (u a.v), .int .u64 (u a.m), .int .u64 (u a.a), .int .u64 (u a.b), .int .i64 (s a.c), .int .i64 (s a.d)]); refine (hha _).mono ?_; rintro e w3 ⟨rfl, hb⟩; replace H1 := Lib.hid (lq_keep H1.out hb); clear hb; clear a0 a1 a2 a3 a4 a5 b0 b1 b2 b3 b4 b5; obtain ⟨a0, a1, a2, a3, a4, a5⟩ := num_cells H1.out.1; obtain ⟨b0, b1, b2, b3, b4, b5⟩ := num_cells H1.out.2.1))
  go_ret
  exact ⟨rfl, H1.out.2.2⟩
set_option maxRecDepth 100000 in
set_option maxHeartbeats 4000000 in
theorem sound_b (op : Int) (wide : Bool) (a b : K) (x y : B64) (w : World) (h : isCond op = true) (ha : a.has x = true) (hb : b.has y = false) : Calls Try.prog 4 #[.int .u8 op, .bool wide, numV a, numV b, .int .u64 (u x), .int .u64 (u y)] w (Gives (.bool true) w) := by
  have HP := Lib.hid (lq_new a b w)
  have hal := fun W => alive_num W
  have hd := fun W => holds_call op wide x y W
  have hha := fun W => refhas_num a x W
  have hhb := fun W => refhas_num b y W
  rw [h] at hd
  rw [ha] at hha
  rw [hb] at hhb
  clear h ha hb
  obtain ⟨q, hq⟩ : ∃ q, holdI op wide (u x) (u y) = q := ⟨_, rfl⟩
  rw [hq] at hd
  clear hq
  unfold HoldPost at hd
  unfold numV at *
  unfold Gives
  go_enter Try.func4, Try.ntmps4
  go_upto_region 3 with (go_at_call 5; refine (hal _).mono ?_; rintro e w1 ⟨rfl, hb⟩; have H1 := Lib.hid (lq_keep HP.out hb); clear hb)
  obtain ⟨a0, a1, a2, a3, a4, a5⟩ := num_cells H1.out.1
  obtain ⟨b0, b1, b2, b3, b4, b5⟩ := num_cells H1.out.2.1
  clear HP hal
  go_wp2_with (first | (go_at_call 8; refine (hd _).mono ?_; rintro e w2 ⟨rfl, hb⟩; replace H1 := Lib.hid (lq_keep H1.out hb); clear hb; clear a0 a1 a2 a3 a4 a5 b0 b1 b2 b3 b4 b5; obtain ⟨a0, a1, a2, a3, a4, a5⟩ := num_cells H1.out.1; obtain ⟨b0, b1, b2, b3, b4, b5⟩ := num_cells H1.out.2.1) | (go_at_call_of 9 (Value.agg #[.int .u64 (u a.v), .int .u64 (u a.m), .int .u64 (u a.a), .int .u64 (u a.b), .int .i64 (s a.c), .int .i64 (s a.d)]); refine (hha _).mono ?_; rintro e w3 ⟨rfl, hb⟩; replace H1 := Lib.hid (lq_keep H1.out hb); clear hb; clear a0 a1 a2 a3 a4 a5 b0 b1 b2 b3 b4 b5; obtain ⟨a0, a1, a2, a3, a4, a5⟩ := num_cells H1.out.1; obtain ⟨b0, b1, b2, b3, b4, b5⟩ := num_cells H1.out.2.1) | (go_at_call_of 9 (Value.agg #[.int .u64 (u b.v), .int .u64 (u b.m), .int .u64 (u b.a), .int .u64 (u b.b), .int .i64 (s b.c), .int .i64 (s b.d)]); refine (hhb _).mono ?_; rintro e w4 ⟨rfl, hb⟩; replace H1 := Lib.hid (lq_keep H1.out hb); clear hb; clear a0 a1 a2 a3 a4 a5 b0 b1 b2 b3 b4 b5; obtain ⟨a0, a1, a2, a3, a4, a5⟩ := num_cells H1.out.1; obtain ⟨b0, b1, b2, b3, b4, b5⟩ := num_cells H1.out.2.1))
  go_ret
  exact ⟨rfl, H1.out.2.2⟩
set_option maxRecDepth 100000 in
set_option maxHeartbeats 8000000 in
theorem sound_yes (op : Int) (wide : Bool) (a b : K) (x y : B64) (w : World) (h : isCond op = true) (ha : a.has x = true) (hb : b.has y = true) : Calls Try.prog 4 #[.int .u8 op, .bool wide, numV a, numV b, .int .u64 (u x), .int .u64 (u y)] w (Gives (.bool true) w) := by
  have key : ∃ P Q : K, wayV op wide a b (holdI op wide (u x) (u y)) = .tuple #[numV P, numV Q, .bool true] ∧ P.has x = true ∧ Q.has y = true := by
    unfold wayV
    cases ht : tells op wide a b
    · exact ⟨a, b, by rw [if_neg Bool.false_ne_true], ha, hb⟩
    · rw [if_pos rfl]
      have hk := rule_keeps (op := op) h ha hb (hold_tells h ha hb ht).symm
      obtain ⟨g1, g2, g3⟩ := good_of hk
      unfold backV
      rw [if_pos g1]
      exact ⟨_, _, rfl, g2, g3⟩
  have HP := Lib.hid (lq_new a b w)
  have hal := fun W => alive_num W
  have hd := fun W => holds_call op wide x y W
  have hha := fun W => refhas_num a x W
  have hhb := fun W => refhas_num b y W
  have hw := fun W => way_num op wide (holdI op wide (u x) (u y)) a b W
  obtain ⟨P, Q, hPQ, hPx, hQy⟩ := key
  rw [hPQ] at hw
  have hhp := fun W => refhas_num P x W
  have hhq := fun W => refhas_num Q y W
  rw [hPx] at hhp
  rw [hQy] at hhq
  rw [h] at hd
  rw [ha] at hha
  rw [hb] at hhb
  clear h ha hb hPQ hPx hQy
  obtain ⟨q, hq⟩ : ∃ q, holdI op wide (u x) (u y) = q := ⟨_, rfl⟩
  rw [hq] at hd hw
  clear hq
  unfold HoldPost at hd
  unfold numV at *
  unfold Gives
  go_enter Try.func4, Try.ntmps4
  go_upto_region 3 with (go_at_call 5; refine (hal _).mono ?_; rintro e w1 ⟨rfl, hb⟩; have H1 := Lib.hid (lq_keep HP.out hb); clear hb)
  obtain ⟨a0, a1, a2, a3, a4, a5⟩ := num_cells H1.out.1
  obtain ⟨b0, b1, b2, b3, b4, b5⟩ := num_cells H1.out.2.1
  clear HP hal
  go_upto_region 6 with (first | (go_at_call 8; refine (hd _).mono ?_; rintro e w2 ⟨rfl, hb⟩; replace H1 := Lib.hid (lq_keep H1.out hb); clear hb; clear a0 a1 a2 a3 a4 a5 b0 b1 b2 b3 b4 b5; obtain ⟨a0, a1, a2, a3, a4, a5⟩ := num_cells H1.out.1; obtain ⟨b0, b1, b2, b3, b4, b5⟩ := num_cells H1.out.2.1) | (go_at_call_of 9 (Value.agg #[.int .u64 (u a.v), .int .u64 (u a.m), .int .u64 (u a.a), .int .u64 (u a.b), .int .i64 (s a.c), .int .i64 (s a.d)]); refine (hha _).mono ?_; rintro e w3 ⟨rfl, hb⟩; replace H1 := Lib.hid (lq_keep H1.out hb); clear hb; clear a0 a1 a2 a3 a4 a5 b0 b1 b2 b3 b4 b5; obtain ⟨a0, a1, a2, a3, a4, a5⟩ := num_cells H1.out.1; obtain ⟨b0, b1, b2, b3, b4, b5⟩ := num_cells H1.out.2.1) | (go_at_call_of 9 (Value.agg #[.int .u64 (u b.v), .int .u64 (u b.m), .int .u64 (u b.a), .int .u64 (u b.b), .int .i64 (s b.c), .int .i64 (s b.d)]); refine (hhb _).mono ?_; rintro e w4 ⟨rfl, hb⟩; replace H1 := Lib.hid (lq_keep H1.out hb); clear hb; clear a0 a1 a2 a3 a4 a5 b0 b1 b2 b3 b4 b5; obtain ⟨a0, a1, a2, a3, a4, a5⟩ := num_cells H1.out.1; obtain ⟨b0, b1, b2, b3, b4, b5⟩ := num_cells H1.out.2.1))
  clear hd hha hhb
  go_upto_region 7 with (go_at_call 6; refine (hw _).mono ?_; rintro e w5 ⟨rfl, hb⟩; have H2 := Lib.hid (eb_new (H1.out.2.2.trans (hb.mono H1.out.2.2.size)) P); clear hb)
  have H3 := Lib.hid (eb_new H2.out.2.2 Q)
  replace H2 := Lib.hid (eb_keep H2.out (below_box _ (.cells #[.int .u64 (u Q.v), .int .u64 (u Q.m), .int .u64 (u Q.a), .int .u64 (u Q.b), .int .i64 (s Q.c), .int .i64 (s Q.d)] 26)))
  obtain ⟨g, hg⟩ : ∃ g, w5.heap.size = g := ⟨_, rfl⟩
  have hs : (w5.alloc (.cells #[.int .u64 (u P.v), .int .u64 (u P.m), .int .u64 (u P.a), .int .u64 (u P.b), .int .i64 (s P.c), .int .i64 (s P.d)] 26)).heap.size = g + 1 := by simp [hg]
  rw [hs] at H3
  rw [hg] at H2 ⊢
  clear hs hg hw H1 a0 a1 a2 a3 a4 a5 b0 b1 b2 b3 b4 b5
  generalize World.alloc _ _ = Wa at H2 H3 ⊢
  obtain ⟨W, hW⟩ : ∃ W, Wa = W := ⟨_, rfl⟩
  rw [hW] at H2 H3 ⊢
  clear hW
  obtain ⟨a0, a1, a2, a3, a4, a5⟩ := num_cells H2.out.1
  obtain ⟨b0, b1, b2, b3, b4, b5⟩ := num_cells H3.out.1
  go_wp2_with (first
    | (go_at_call_of 9 (Value.agg #[.int .u64 (u P.v), .int .u64 (u P.m), .int .u64 (u P.a), .int .u64 (u P.b), .int .i64 (s P.c), .int .i64 (s P.d)]); refine (hhp _).mono ?_; rintro e w6 ⟨rfl, hb⟩; replace H2 := Lib.hid (eb_keep H2.out hb); replace H3 := Lib.hid (eb_keep H3.out hb); clear hb a0 a1 a2 a3 a4 a5 b0 b1 b2 b3 b4 b5; obtain ⟨a0, a1, a2, a3, a4, a5⟩ := num_cells H2.out.1; obtain ⟨b0, b1, b2, b3, b4, b5⟩ := num_cells H3.out.1)
    | (go_at_call_of 9 (Value.agg #[.int .u64 (u Q.v), .int .u64 (u Q.m), .int .u64 (u Q.a), .int .u64 (u Q.b), .int .i64 (s Q.c), .int .i64 (s Q.d)]); refine (hhq _).mono ?_; rintro e w7 ⟨rfl, hb⟩; replace H2 := Lib.hid (eb_keep H2.out hb); clear hb))
  go_ret
  exact ⟨rfl, H2.out.2.2⟩
theorem narrowSound.walk (v0 v1 v2 v3 v4 v5 : Value) (w : World) (h0 : IsInt .u8 v0) (h1 : ∃ b : Bool, v1 = .bool b) (h2 : IsNum v2) (h3 : IsNum v3) (h4 : IsInt .u64 v4) (h5 : IsInt .u64 v5) :
    Calls Try.prog 4 #[v0, v1, v2, v3, v4, v5] w fun e w' => e = .returned (.bool true) ∧ Below w.heap.size w w' := by
  obtain ⟨op, rfl, ho⟩ := h0
  obtain ⟨wide, rfl⟩ := h1
  obtain ⟨a, rfl⟩ := h2
  obtain ⟨b, rfl⟩ := h3
  obtain ⟨x, rfl⟩ := u_in h4
  obtain ⟨y, rfl⟩ := u_in h5
  clear ho
  cases h : isCond op
  · exact sound_op op wide a b x y w h
  · cases ha : a.has x
    · exact sound_a op wide a b x y w h ha
    · cases hb : b.has y
      · exact sound_b op wide a b x y w h ha hb
      · exact sound_yes op wide a b x y w h ha hb
end Go.Proofs.Ytbljijbmjccalaa
