/-
  Proved here: the law NumSound returns true, where the first one has the number. Conditions: it has it.
-/
import Derived.Test.YtloeecmchedihaaSoundNo
namespace Go.Proofs.Ytloeecmchedihaa
open Go.RowKit
attribute [local go_sem] u_and u_or u_xor u_andNot u_add u_sub s_conv u_conv max_u min_u max_s min_s

set_option maxHeartbeats 8000000 in
theorem sound_yes (a b : K) (x : B64) (n : Int) (w : World) (hx : a.has x = true) : Calls Try.prog 6 #[numV a, numV b, .int .u64 (u x), .int .i64 n] w (Gives (.bool true) w) := by
  have HZ := Lib.hid (bt_new a b w)
  have hr := fun W => refine_num a W
  have hm := fun W => meet_both a b W
  have hha := fun W => has_num a x W
  have hhr := fun W => has_num a.fine x W
  have hhb := fun W => has_num b x W
  have hhm := fun W => has_num (a.both b) x W
  have hcut := fun W => cut_num a n W
  have hz := fun W => zext_has x n W
  have hhc := fun W => has_num (a.cutK n) (lowB x (bN n)) W
  have ho := has_okF hx
  rw [hx] at hha
  rw [(has_fine x ho).2 hx] at hhr
  rw [ho] at hr
  rw [has_cut n hx] at hhc
  obtain ⟨r, hr1⟩ : ∃ r, a.fine = r := ⟨_, rfl⟩
  rw [hr1] at hr hhr
  obtain ⟨c, hc1⟩ : ∃ c, a.cutK n = c := ⟨_, rfl⟩
  rw [hc1] at hcut hhc
  obtain ⟨y, hy1⟩ : ∃ y, lowB x (bN n) = y := ⟨_, rfl⟩
  rw [hy1] at hz hhc
  clear hr1 hc1 hy1 ho
  cases hbx : b.has x
  all_goals
    rw [hbx] at hhb
  · clear hx hbx hhm
    obtain ⟨m, hm1⟩ : ∃ m, a.both b = m := ⟨_, rfl⟩
    obtain ⟨o, ho1⟩ : ∃ o, a.okM b = o := ⟨_, rfl⟩
    rw [hm1, ho1] at hm
    clear hm1 ho1
    have hzx := hz
    clear hz
    unfold numV at hr hm hha hhr hhb hcut hhc
    unfold Gives numV
    go_enter Try.func6, Try.ntmps6
    go_upto_region 5 with (first
      | (go_at_call 7; refine (alive_num _).mono ?_; rintro e w1 ⟨rfl, hb⟩; have H1 := Lib.hid (bt_keep HZ.out hb); obtain ⟨n0, n1, n2, n3, n4, n5⟩ := num_cells H1.out.1; clear hb)
      | (go_at_call 15; refine (hr _).mono ?_; rintro e w2 ⟨rfl, hb⟩; have H2 := Lib.hid (bt_keep H1.out hb); have HR2 := Lib.hid (num_new r w2); have H3 := Lib.hid (bt_keep H2.out (below_box _ (.cells #[.int .u64 (u r.v), .int .u64 (u r.m), .int .u64 (u r.a), .int .u64 (u r.b), .int .i64 (s r.c), .int .i64 (s r.d)] 26))); clear n0 n1 n2 n3 n4 n5; obtain ⟨n0, n1, n2, n3, n4, n5⟩ := num_cells H2.out.1; obtain ⟨m0, m1, m2, m3, m4, m5⟩ := num_cells H2.out.2.1; have hz := num_lt H2.out.2.1; have hz0 := num_lt H2.out.1; clear hb)
      | (go_at_call 19; refine (hm _).mono ?_; rintro e w4 ⟨rfl, hb⟩; have H4 := Lib.hid (show Four w a b r m w2.heap.size w4.heap.size (w4.alloc (.cells #[.int .u64 (u m.v), .int .u64 (u m.m), .int .u64 (u m.a), .int .u64 (u m.b), .int .i64 (s m.c), .int .i64 (s m.d)] 26)) from ⟨bt_keep (bt_keep H3.out hb) (below_box _ _), num_keep (num_keep HR2.out hb) (below_box _ _), num_new m w4⟩); clear n0 n1 n2 n3 n4 n5 m0 m1 m2 m3 m4 m5 hz hz0 hb))
    obtain ⟨W, hW⟩ : ∃ W, w4.alloc (.cells #[.int .u64 (u m.v), .int .u64 (u m.m), .int .u64 (u m.a), .int .u64 (u m.b), .int .i64 (s m.c), .int .i64 (s m.d)] 26) = W := ⟨_, rfl⟩
    rw [hW] at H4 ⊢
    clear hW
    have hS0 := s12_of (four_drew H4.out)
    go_region_held3 (fun W => W.cell? ⟨w.heap.size, 0, none⟩ = some (.int .u64 (u a.v)) ∧ W.cell? ⟨w.heap.size, 1, none⟩ = some (.int .u64 (u a.m)) ∧ W.cell? ⟨w.heap.size, 2, none⟩ = some (.int .u64 (u a.a)) ∧ W.cell? ⟨w.heap.size, 3, none⟩ = some (.int .u64 (u a.b)) ∧ W.cell? ⟨w.heap.size, 4, none⟩ = some (.int .i64 (s a.c)) ∧ W.cell? ⟨w.heap.size, 5, none⟩ = some (.int .i64 (s a.d)) ∧ W.cell? ⟨w2.heap.size, 0, none⟩ = some (.int .u64 (u r.v)) ∧ W.cell? ⟨w2.heap.size, 1, none⟩ = some (.int .u64 (u r.m)) ∧ W.cell? ⟨w2.heap.size, 2, none⟩ = some (.int .u64 (u r.a)) ∧ W.cell? ⟨w2.heap.size, 3, none⟩ = some (.int .u64 (u r.b)) ∧ W.cell? ⟨w2.heap.size, 4, none⟩ = some (.int .i64 (s r.c)) ∧ W.cell? ⟨w2.heap.size, 5, none⟩ = some (.int .i64 (s r.d)) ∧ Four w a b r m w2.heap.size w4.heap.size W)
      (first | exact hS0 | exact hS7 | assumption)
      (first
        | ((go_at_call_of 9 (Value.agg #[.int .u64 (u a.v), .int .u64 (u a.m), .int .u64 (u a.a), .int .u64 (u a.b), .int .i64 (s a.c), .int .i64 (s a.d)])); refine (hha _).mono ?_; rintro e w7 ⟨rfl, hb7⟩; have hS7 := s12_of (four_keep (s12_four (w0 := w) (a := a) (b := b) (r := r) (m := m) (g := w2.heap.size) (h := w4.heap.size) (by assumption)) hb7); clear hb7)
        | ((go_at_call_of 9 (Value.agg #[.int .u64 (u r.v), .int .u64 (u r.m), .int .u64 (u r.a), .int .u64 (u r.b), .int .i64 (s r.c), .int .i64 (s r.d)])); refine (hhr _).mono ?_; rintro e w7 ⟨rfl, hb7⟩; have hS7 := s12_of (four_keep (s12_four (w0 := w) (a := a) (b := b) (r := r) (m := m) (g := w2.heap.size) (h := w4.heap.size) (by assumption)) hb7); clear hb7))
    all_goals
      have HF := Lib.hid (s12_four hS7)
      obtain ⟨n0, n1, n2, n3, n4, n5⟩ := num_cells HF.out.1.1
      obtain ⟨m0, m1, m2, m3, m4, m5⟩ := num_cells HF.out.1.2.1
      clear hS7 hS0
      go_wp2_with (first
        | ((go_at_call_of 9 (Value.agg #[.int .u64 (u a.v), .int .u64 (u a.m), .int .u64 (u a.a), .int .u64 (u a.b), .int .i64 (s a.c), .int .i64 (s a.d)])); refine (hha _).mono ?_; rintro e w6 ⟨rfl, hb⟩; replace HF := Lib.hid (four_keep HF.out hb); clear n0 n1 n2 n3 n4 n5 m0 m1 m2 m3 m4 m5 hb; obtain ⟨n0, n1, n2, n3, n4, n5⟩ := num_cells HF.out.1.1; obtain ⟨m0, m1, m2, m3, m4, m5⟩ := num_cells HF.out.1.2.1)
        | (go_at_call 20; refine (hcut _).mono ?_; rintro e w6 ⟨rfl, hb⟩; replace HF := Lib.hid (four_keep HF.out hb); clear n0 n1 n2 n3 n4 n5 m0 m1 m2 m3 m4 m5 hb; obtain ⟨n0, n1, n2, n3, n4, n5⟩ := num_cells HF.out.1.1; obtain ⟨m0, m1, m2, m3, m4, m5⟩ := num_cells HF.out.1.2.1)
        | (go_at_call 21; refine (hzx _).mono ?_; rintro e w6 ⟨rfl, rfl⟩)
        | ((go_at_call_of 9 (Value.agg #[.int .u64 (u c.v), .int .u64 (u c.m), .int .u64 (u c.a), .int .u64 (u c.b), .int .i64 (s c.c), .int .i64 (s c.d)])); refine (hhc _).mono ?_; rintro e w6 ⟨rfl, hb⟩; replace HF := Lib.hid (four_keep HF.out hb); clear n0 n1 n2 n3 n4 n5 m0 m1 m2 m3 m4 m5 hb; obtain ⟨n0, n1, n2, n3, n4, n5⟩ := num_cells HF.out.1.1; obtain ⟨m0, m1, m2, m3, m4, m5⟩ := num_cells HF.out.1.2.1)
        | ((go_at_call_of 9 (Value.agg #[.int .u64 (u b.v), .int .u64 (u b.m), .int .u64 (u b.a), .int .u64 (u b.b), .int .i64 (s b.c), .int .i64 (s b.d)])); refine (hhb _).mono ?_; rintro e w6 ⟨rfl, hb⟩; replace HF := Lib.hid (four_keep HF.out hb); clear n0 n1 n2 n3 n4 n5 m0 m1 m2 m3 m4 m5 hb; obtain ⟨m0, m1, m2, m3, m4, m5⟩ := num_cells HF.out.2.2))
      go_ret
      exact ⟨rfl, HF.out.1.2.2⟩
  · have hbo := has_both hx hbx
    rw [hbo.2] at hhm
    rw [hbo.1] at hm
    clear hx hbx hbo
    obtain ⟨m, hm1⟩ : ∃ m, a.both b = m := ⟨_, rfl⟩
    rw [hm1] at hm hhm
    clear hm1
    have hzx := hz
    clear hz
    unfold numV at hr hm hha hhr hhb hcut hhc hhm
    unfold Gives numV
    go_enter Try.func6, Try.ntmps6
    go_upto_region 5 with (first
      | (go_at_call 7; refine (alive_num _).mono ?_; rintro e w1 ⟨rfl, hb⟩; have H1 := Lib.hid (bt_keep HZ.out hb); obtain ⟨n0, n1, n2, n3, n4, n5⟩ := num_cells H1.out.1; clear hb)
      | (go_at_call 15; refine (hr _).mono ?_; rintro e w2 ⟨rfl, hb⟩; have H2 := Lib.hid (bt_keep H1.out hb); have HR2 := Lib.hid (num_new r w2); have H3 := Lib.hid (bt_keep H2.out (below_box _ (.cells #[.int .u64 (u r.v), .int .u64 (u r.m), .int .u64 (u r.a), .int .u64 (u r.b), .int .i64 (s r.c), .int .i64 (s r.d)] 26))); clear n0 n1 n2 n3 n4 n5; obtain ⟨n0, n1, n2, n3, n4, n5⟩ := num_cells H2.out.1; obtain ⟨m0, m1, m2, m3, m4, m5⟩ := num_cells H2.out.2.1; have hz := num_lt H2.out.2.1; have hz0 := num_lt H2.out.1; clear hb)
      | (go_at_call 19; refine (hm _).mono ?_; rintro e w4 ⟨rfl, hb⟩; have H4 := Lib.hid (show Four w a b r m w2.heap.size w4.heap.size (w4.alloc (.cells #[.int .u64 (u m.v), .int .u64 (u m.m), .int .u64 (u m.a), .int .u64 (u m.b), .int .i64 (s m.c), .int .i64 (s m.d)] 26)) from ⟨bt_keep (bt_keep H3.out hb) (below_box _ _), num_keep (num_keep HR2.out hb) (below_box _ _), num_new m w4⟩); clear n0 n1 n2 n3 n4 n5 m0 m1 m2 m3 m4 m5 hz hz0 hb))
    obtain ⟨W, hW⟩ : ∃ W, w4.alloc (.cells #[.int .u64 (u m.v), .int .u64 (u m.m), .int .u64 (u m.a), .int .u64 (u m.b), .int .i64 (s m.c), .int .i64 (s m.d)] 26) = W := ⟨_, rfl⟩
    rw [hW] at H4 ⊢
    clear hW
    have hS0 := s12_of (four_drew H4.out)
    go_region_held3 (fun W => W.cell? ⟨w.heap.size, 0, none⟩ = some (.int .u64 (u a.v)) ∧ W.cell? ⟨w.heap.size, 1, none⟩ = some (.int .u64 (u a.m)) ∧ W.cell? ⟨w.heap.size, 2, none⟩ = some (.int .u64 (u a.a)) ∧ W.cell? ⟨w.heap.size, 3, none⟩ = some (.int .u64 (u a.b)) ∧ W.cell? ⟨w.heap.size, 4, none⟩ = some (.int .i64 (s a.c)) ∧ W.cell? ⟨w.heap.size, 5, none⟩ = some (.int .i64 (s a.d)) ∧ W.cell? ⟨w2.heap.size, 0, none⟩ = some (.int .u64 (u r.v)) ∧ W.cell? ⟨w2.heap.size, 1, none⟩ = some (.int .u64 (u r.m)) ∧ W.cell? ⟨w2.heap.size, 2, none⟩ = some (.int .u64 (u r.a)) ∧ W.cell? ⟨w2.heap.size, 3, none⟩ = some (.int .u64 (u r.b)) ∧ W.cell? ⟨w2.heap.size, 4, none⟩ = some (.int .i64 (s r.c)) ∧ W.cell? ⟨w2.heap.size, 5, none⟩ = some (.int .i64 (s r.d)) ∧ Four w a b r m w2.heap.size w4.heap.size W)
      (first | exact hS0 | exact hS7 | assumption)
      (first
        | ((go_at_call_of 9 (Value.agg #[.int .u64 (u a.v), .int .u64 (u a.m), .int .u64 (u a.a), .int .u64 (u a.b), .int .i64 (s a.c), .int .i64 (s a.d)])); refine (hha _).mono ?_; rintro e w7 ⟨rfl, hb7⟩; have hS7 := s12_of (four_keep (s12_four (w0 := w) (a := a) (b := b) (r := r) (m := m) (g := w2.heap.size) (h := w4.heap.size) (by assumption)) hb7); clear hb7)
        | ((go_at_call_of 9 (Value.agg #[.int .u64 (u r.v), .int .u64 (u r.m), .int .u64 (u r.a), .int .u64 (u r.b), .int .i64 (s r.c), .int .i64 (s r.d)])); refine (hhr _).mono ?_; rintro e w7 ⟨rfl, hb7⟩; have hS7 := s12_of (four_keep (s12_four (w0 := w) (a := a) (b := b) (r := r) (m := m) (g := w2.heap.size) (h := w4.heap.size) (by assumption)) hb7); clear hb7))
    all_goals
      have HF := Lib.hid (s12_four hS7)
      obtain ⟨n0, n1, n2, n3, n4, n5⟩ := num_cells HF.out.1.1
      obtain ⟨m0, m1, m2, m3, m4, m5⟩ := num_cells HF.out.1.2.1
      clear hS7 hS0
      go_wp2_with (first
        | ((go_at_call_of 9 (Value.agg #[.int .u64 (u a.v), .int .u64 (u a.m), .int .u64 (u a.a), .int .u64 (u a.b), .int .i64 (s a.c), .int .i64 (s a.d)])); refine (hha _).mono ?_; rintro e w6 ⟨rfl, hb⟩; replace HF := Lib.hid (four_keep HF.out hb); clear n0 n1 n2 n3 n4 n5 m0 m1 m2 m3 m4 m5 hb; obtain ⟨n0, n1, n2, n3, n4, n5⟩ := num_cells HF.out.1.1; obtain ⟨m0, m1, m2, m3, m4, m5⟩ := num_cells HF.out.1.2.1)
        | (go_at_call 20; refine (hcut _).mono ?_; rintro e w6 ⟨rfl, hb⟩; replace HF := Lib.hid (four_keep HF.out hb); clear n0 n1 n2 n3 n4 n5 m0 m1 m2 m3 m4 m5 hb; obtain ⟨n0, n1, n2, n3, n4, n5⟩ := num_cells HF.out.1.1; obtain ⟨m0, m1, m2, m3, m4, m5⟩ := num_cells HF.out.1.2.1)
        | (go_at_call 21; refine (hzx _).mono ?_; rintro e w6 ⟨rfl, rfl⟩)
        | ((go_at_call_of 9 (Value.agg #[.int .u64 (u c.v), .int .u64 (u c.m), .int .u64 (u c.a), .int .u64 (u c.b), .int .i64 (s c.c), .int .i64 (s c.d)])); refine (hhc _).mono ?_; rintro e w6 ⟨rfl, hb⟩; replace HF := Lib.hid (four_keep HF.out hb); clear n0 n1 n2 n3 n4 n5 m0 m1 m2 m3 m4 m5 hb; obtain ⟨n0, n1, n2, n3, n4, n5⟩ := num_cells HF.out.1.1; obtain ⟨m0, m1, m2, m3, m4, m5⟩ := num_cells HF.out.1.2.1)
        | ((go_at_call_of 9 (Value.agg #[.int .u64 (u b.v), .int .u64 (u b.m), .int .u64 (u b.a), .int .u64 (u b.b), .int .i64 (s b.c), .int .i64 (s b.d)])); refine (hhb _).mono ?_; rintro e w6 ⟨rfl, hb⟩; replace HF := Lib.hid (four_keep HF.out hb); clear n0 n1 n2 n3 n4 n5 m0 m1 m2 m3 m4 m5 hb; obtain ⟨m0, m1, m2, m3, m4, m5⟩ := num_cells HF.out.2.2)
        | ((go_at_call_of 9 (Value.agg #[.int .u64 (u m.v), .int .u64 (u m.m), .int .u64 (u m.a), .int .u64 (u m.b), .int .i64 (s m.c), .int .i64 (s m.d)])); refine (hhm _).mono ?_; rintro e w6 ⟨rfl, hb⟩; replace HF := Lib.hid (four_keep HF.out hb); clear m0 m1 m2 m3 m4 m5 hb))
      go_ret
      exact ⟨rfl, HF.out.1.2.2⟩
end Go.Proofs.Ytloeecmchedihaa
