/-
  Proved here: the law NumRefines returns true, of everything known. Conditions: none.
-/
import Derived.Test.YtloeecmchedihaaRefFine
import Derived.Test.YtloeecmchedihaaHasNum
namespace Go.Proofs.Ytloeecmchedihaa
open Go.RowKit
attribute [local go_sem] u_and u_or u_xor u_andNot u_add u_sub s_conv u_conv max_u min_u max_s min_s
attribute [local go_sem ↓] eql_num

/-- A box, and what is below. -/
def Keeps (g : Nat) (k : K) (w0 W : World) : Prop := NumAt g k W ∧ Below w0.heap.size w0 W
theorem keeps_keep {g : Nat} {k : K} {w0 W W' : World} (h : Keeps g k w0 W) (hb : Below W.heap.size W W') : Keeps g k w0 W' := ⟨num_keep h.1 hb, h.2.trans (hb.mono h.2.size)⟩
theorem keeps_new (k : K) (w : World) : Keeps w.heap.size k w (w.alloc (.cells #[.int .u64 (u k.v), .int .u64 (u k.m), .int .u64 (u k.a), .int .u64 (u k.b), .int .i64 (s k.c), .int .i64 (s k.d)] 26)) := ⟨num_new k w, below_box _ _⟩
set_option maxHeartbeats 4000000 in
theorem law_refines (k : K) (w : World) : Calls Try.prog 4 #[numV k] w (Gives (.bool true) w) := by
  have HZ := Lib.hid (keeps_new k w)
  have hr := fun W => refine_num k W
  have hs := fun W => reffine_num k W
  obtain ⟨q, hq⟩ : ∃ q, k.fine = q := ⟨_, rfl⟩
  obtain ⟨o, ho⟩ : ∃ o, k.okF = o := ⟨_, rfl⟩
  rw [hq, ho] at hr hs
  clear hq ho
  unfold numV at hr hs
  unfold Gives numV
  cases o
  all_goals
    go_enter Try.func4, Try.ntmps4
    go_wp2_with (first
      | (go_at_call 7; refine (alive_num _).mono ?_; rintro e w1 ⟨rfl, hb⟩; have H1 := Lib.hid (keeps_keep HZ.out hb); obtain ⟨n0, n1, n2, n3, n4, n5⟩ := num_cells H1.out.1; clear hb)
      | (go_at_call 15; refine (hr _).mono ?_; rintro e w2 ⟨rfl, hb⟩; have H2 := Lib.hid (keeps_keep H1.out hb); have H3 := Lib.hid (keeps_keep H2.out (below_box _ (.cells #[.int .u64 (u q.v), .int .u64 (u q.m), .int .u64 (u q.a), .int .u64 (u q.b), .int .i64 (s q.c), .int .i64 (s q.d)] 26))); have Y2 := Lib.hid (num_new q w2); clear n0 n1 n2 n3 n4 n5; obtain ⟨n0, n1, n2, n3, n4, n5⟩ := num_cells H2.out.1; have hz := num_lt H2.out.1; clear hb)
      | (go_at_call 16; refine (hs _).mono ?_; rintro e w3 ⟨rfl, hb⟩; have H4 := Lib.hid (keeps_keep H3.out hb); have Y3 := Lib.hid (num_keep Y2.out hb); clear n0 n1 n2 n3 n4 n5 hz; obtain ⟨n0, n1, n2, n3, n4, n5⟩ := num_cells Y3.out; have hz := num_lt Y3.out; clear hb))
    go_ret
    exact ⟨rfl, H4.out.2.alloc H4.out.2.size _⟩
theorem numRefines.walk (v0 : Value) (w : World) (h0 : IsNum v0) : Calls Try.prog 4 #[v0] w fun e w' => e = .returned (.bool true) ∧ Below w.heap.size w w' := by
  obtain ⟨k, rfl⟩ := h0
  exact law_refines k w
end Go.Proofs.Ytloeecmchedihaa
