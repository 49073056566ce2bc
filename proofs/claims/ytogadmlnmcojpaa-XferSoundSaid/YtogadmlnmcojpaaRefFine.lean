/-
  Proved here: what Refine of the document's answers returns. Conditions: none.
-/
import Derived.Test.YtogadmlnmcojpaaRefRoundA
namespace Go.Proofs.Ytogadmlnmcojpaa
open Go.RowKit
attribute [local go_sem] u_and u_or u_xor u_andNot u_add u_sub s_conv u_conv max_u min_u max_s min_s

theorem rb_keep {w0 W W' : World} {k : K} (h : RB w0 k W) (hb : Below W.heap.size W W') : RB w0 k W' :=
  ⟨num_keep h.1 hb, num_keep h.2.1 hb, h.2.2.trans (hb.mono h.2.2.size)⟩
set_option maxHeartbeats 4000000 in
theorem reffine_num (k : K) (w : World) : Calls Try.prog 12 #[numV k] w (Gives (.tuple #[numV k.fine, .bool k.okF]) w) := by
  have HZ := Lib.hid (rb_new k w)
  have hr1 := fun W => refround_num k W
  cases ho : k.okR
  · rw [ho, if_neg Bool.false_ne_true] at hr1
    rw [fine_no (okF_no1 ho), okF_no1 ho]
    clear ho
    obtain ⟨q, hq⟩ : ∃ q, allK = q := ⟨_, rfl⟩
    rw [hq] at hr1 ⊢
    clear hq
    unfold numV at hr1
    unfold Gives numV
    go_enter Try.func12, Try.ntmps12
    go_wp2_with (first
      | (go_at_call 26; refine (hr1 _).mono ?_; rintro e w1 ⟨rfl, hb⟩; have H1 := Lib.hid (rb_keep HZ.out hb); obtain ⟨z0, z1, z2, z3, z4, z5⟩ := num_cells H1.out.2.1; obtain ⟨f0, f1, f2, f3, f4, f5⟩ := num_free H1.out.2.1; have hz := num_lt H1.out.2.1; clear hb))
    obtain ⟨y0, y1, y2, y3, y4, y5⟩ := num_cells (num_keep (num_six H1.out.2.1 q) (below_box _ (.cells #[.int .u64 (u q.v), .int .u64 (u q.m), .int .u64 (u q.a), .int .u64 (u q.b), .int .i64 (s q.c), .int .i64 (s q.d)] 26)))
    refine bodyPost_ret (v := .tuple #[numV q, .bool false]) (by unfold numV; simp [results, Try.results12, go_sem, y0, y1, y2, y3, y4, y5]) rfl ⟨rfl, ?_⟩
    exact (below_sixn (by omega) H1.out.2.2 _ _ _ _ _ _).alloc (below_sixn (by omega) H1.out.2.2 _ _ _ _ _ _).size _
  · rw [ho, if_pos rfl] at hr1
    have hr2 := fun W => refround_num k.nextR W
    have hf : k.fine = if k.nextR.okR = true then k.nextR.nextR else allK := by
      unfold K.fine K.okF
      rw [ho, Bool.true_and]
    have hok : k.okF = k.nextR.okR := by unfold K.okF; rw [ho, Bool.true_and]
    rw [hf, hok]
    clear hf hok ho
    obtain ⟨p, hp⟩ : ∃ p, k.nextR = p := ⟨_, rfl⟩
    rw [hp] at hr1 hr2 ⊢
    obtain ⟨q, hq⟩ : ∃ q, (if p.okR = true then p.nextR else allK) = q := ⟨_, rfl⟩
    rw [hq] at hr2 ⊢
    obtain ⟨o, ho⟩ : ∃ o, p.okR = o := ⟨_, rfl⟩
    rw [ho] at hr2 ⊢
    clear hp hq ho
    unfold numV at hr1 hr2
    unfold Gives numV
    go_enter Try.func12, Try.ntmps12
    go_wp2_with (first
      | ((go_at_call_of 26 (Value.agg #[.int .u64 (u k.v), .int .u64 (u k.m), .int .u64 (u k.a), .int .u64 (u k.b), .int .i64 (s k.c), .int .i64 (s k.d)])); refine (hr1 _).mono ?_; rintro e w1 ⟨rfl, hb⟩; have H1 := Lib.hid (rb_keep HZ.out hb); have H2 := Lib.hid (rb_keep H1.out (below_box _ (.cells #[.int .u64 (u p.v), .int .u64 (u p.m), .int .u64 (u p.a), .int .u64 (u p.b), .int .i64 (s p.c), .int .i64 (s p.d)] 26))); clear hb hr1 HZ)
      | (go_at_call 26; refine (hr2 _).mono ?_; rintro e w2 ⟨rfl, hb⟩; have H3 := Lib.hid (rb_keep H2.out hb); obtain ⟨z0, z1, z2, z3, z4, z5⟩ := num_cells H3.out.2.1; obtain ⟨f0, f1, f2, f3, f4, f5⟩ := num_free H3.out.2.1; have hz := num_lt H3.out.2.1; clear hb))
    obtain ⟨y0, y1, y2, y3, y4, y5⟩ := num_cells (num_six H3.out.2.1 q)
    refine bodyPost_ret (v := .tuple #[numV q, .bool o]) (by unfold numV; simp [results, Try.results12, go_sem, y0, y1, y2, y3, y4, y5]) rfl ⟨rfl, ?_⟩
    exact below_sixn (by omega) H3.out.2.2 _ _ _ _ _ _
end Go.Proofs.Ytogadmlnmcojpaa
