/-
  Proved here: the law NumHas returns true, of everything known and every number. Conditions: none.
-/
import Derived.Test.YtloeecmchedihaaAliveNum
import Derived.Test.YtloeecmchedihaaNumIn
namespace Go.Proofs.Ytloeecmchedihaa
open Go.RowKit
attribute [local go_sem] u_and u_or u_xor u_andNot u_add u_sub s_conv u_conv max_u min_u max_s min_s

theorem eql_num (a b c d e f : B64) (w : World) : (binOp .eql 26 (.agg #[.int .u64 (u a), .int .u64 (u b), .int .u64 (u c), .int .u64 (u d), .int .i64 (s e), .int .i64 (s f)]) (.agg #[.int .u64 (u a), .int .u64 (u b), .int .u64 (u c), .int .u64 (u d), .int .i64 (s e), .int .i64 (s f)])).run Try.prog w = .ok (.bool true) w := by
  simp [go_sem]
/-- A box of six cells, and what is below. -/
theorem six_keep {g : Nat} {w0 W W' : World} {a b c d e f : Value} (h : W.cell? ⟨g, 0, none⟩ = some a ∧ W.cell? ⟨g, 1, none⟩ = some b ∧ W.cell? ⟨g, 2, none⟩ = some c ∧ W.cell? ⟨g, 3, none⟩ = some d ∧ W.cell? ⟨g, 4, none⟩ = some e ∧ W.cell? ⟨g, 5, none⟩ = some f ∧ Below w0.heap.size w0 W) (hb : Below W.heap.size W W') :
    W'.cell? ⟨g, 0, none⟩ = some a ∧ W'.cell? ⟨g, 1, none⟩ = some b ∧ W'.cell? ⟨g, 2, none⟩ = some c ∧ W'.cell? ⟨g, 3, none⟩ = some d ∧ W'.cell? ⟨g, 4, none⟩ = some e ∧ W'.cell? ⟨g, 5, none⟩ = some f ∧ Below w0.heap.size w0 W' :=
  ⟨stays hb h.1, stays hb h.2.1, stays hb h.2.2.1, stays hb h.2.2.2.1, stays hb h.2.2.2.2.1, stays hb h.2.2.2.2.2.1, h.2.2.2.2.2.2.trans (hb.mono h.2.2.2.2.2.2.size)⟩
theorem six_of {g : Nat} {k : K} {w0 W : World} (h : NumAt g k W) (hb : Below w0.heap.size w0 W) : W.cell? ⟨g, 0, none⟩ = some (.int .u64 (u k.v)) ∧ W.cell? ⟨g, 1, none⟩ = some (.int .u64 (u k.m)) ∧ W.cell? ⟨g, 2, none⟩ = some (.int .u64 (u k.a)) ∧ W.cell? ⟨g, 3, none⟩ = some (.int .u64 (u k.b)) ∧ W.cell? ⟨g, 4, none⟩ = some (.int .i64 (s k.c)) ∧ W.cell? ⟨g, 5, none⟩ = some (.int .i64 (s k.d)) ∧ Below w0.heap.size w0 W := by
  obtain ⟨h0, h1, h2, h3, h4, h5⟩ := num_cells h
  exact ⟨h0, h1, h2, h3, h4, h5, hb⟩
attribute [local go_sem ↓] eql_num
set_option maxHeartbeats 4000000 in
theorem law_has_num (k : K) (x : B64) (w : World) : Calls Try.prog 3 #[numV k, .int .u64 (u x)] w (Gives (.bool true) w) := by
  have hcn := fun W => const_num x W
  have hcr := fun W => refconst_num x W
  have han := fun W => all_num W
  have har := fun W => refall_num W
  obtain ⟨c, hc⟩ : ∃ c, oneK x = c := ⟨_, rfl⟩
  obtain ⟨a, ha⟩ : ∃ a, allK = a := ⟨_, rfl⟩
  rw [hc] at hcn hcr
  rw [ha] at han har
  have hhn := fun W => has_num k x W
  have hhr := fun W => refhas_num k x W
  obtain ⟨h, hh⟩ : ∃ h, k.has x = h := ⟨_, rfl⟩
  rw [hh] at hhn hhr
  clear hh hc ha
  have hin := isConst_no k
  have hiy := isConst_yes k
  have HZ := Lib.hid (num_new k w)
  unfold numV at hcn hcr han har hhn hhr hin hiy
  by_cases hm : u k.m = 0
  · have hi := fun W => hiy W hm
    have HM := Lib.hid hm
    clear hin hiy hm
    unfold Gives numV
    go_enter Try.func3, Try.ntmps3
    go_upto_region 6 with (first
      | (go_at_call 7; refine (alive_num _).mono ?_; rintro e w1 ⟨rfl, hb⟩; have H1 := Lib.hid (show NumAt w.heap.size k w1 ∧ Below w.heap.size w w1 from ⟨num_keep HZ.out hb, (below_box _ _).trans (hb.mono (by simp))⟩); obtain ⟨n0, n1, n2, n3, n4, n5⟩ := num_cells H1.out.1; clear hb)
      | (go_at_call 8; refine (hi _).mono ?_; rintro e w2 ⟨rfl, hb⟩; have H2 := Lib.hid (show NumAt w.heap.size k w2 ∧ Below w.heap.size w w2 from ⟨num_keep H1.out.1 hb, H1.out.2.trans (hb.mono H1.out.2.size)⟩); clear n0 n1 n2 n3 n4 n5; obtain ⟨n0, n1, n2, n3, n4, n5⟩ := num_cells H2.out.1; have hm := HM.out; clear hb))
    clear hm
    have hS1 := six_of (w0 := w) (W := w2.drew) H2.out.1 H2.out.2.drew
    clear n0 n1 n2 n3 n4 n5
    go_region_held3 (fun W => W.cell? ⟨w.heap.size, 0, none⟩ = some (.int .u64 (u k.v)) ∧ W.cell? ⟨w.heap.size, 1, none⟩ = some (.int .u64 (u k.m)) ∧ W.cell? ⟨w.heap.size, 2, none⟩ = some (.int .u64 (u k.a)) ∧ W.cell? ⟨w.heap.size, 3, none⟩ = some (.int .u64 (u k.b)) ∧ W.cell? ⟨w.heap.size, 4, none⟩ = some (.int .i64 (s k.c)) ∧ W.cell? ⟨w.heap.size, 5, none⟩ = some (.int .i64 (s k.d)) ∧ Below w.heap.size w W)
      (first | exact hS1 | exact hS7 | assumption)
      (first
        | (go_at_call 9; refine (hhn _).mono ?_; rintro e w7 ⟨rfl, hb7⟩; have hS7 := six_keep (by assumption) hb7; clear hb7)
        | (go_at_call 10; refine (hhr _).mono ?_; rintro e w7 ⟨rfl, hb7⟩; have hS7 := six_keep (by assumption) hb7; clear hb7)
        | (go_at_call 11; refine (hcn _).mono ?_; rintro e w7 ⟨rfl, hb7⟩; have hS7 := six_keep (by assumption) hb7; clear hb7)
        | (go_at_call 12; refine (hcr _).mono ?_; rintro e w7 ⟨rfl, hb7⟩; have hS7 := six_keep (by assumption) hb7; clear hb7)
        | (go_at_call 13; refine (han _).mono ?_; rintro e w7 ⟨rfl, hb7⟩; have hS7 := six_keep (by assumption) hb7; clear hb7)
        | (go_at_call 14; refine (har _).mono ?_; rintro e w7 ⟨rfl, hb7⟩; have hS7 := six_keep (by assumption) hb7; clear hb7))
    all_goals
      go_wp2
      go_ret
      exact ⟨rfl, hS7.2.2.2.2.2.2⟩
  · have hi := fun W => hin W hm
    have HM := Lib.hid hm
    clear hin hiy hm
    unfold Gives numV
    go_enter Try.func3, Try.ntmps3
    go_upto_region 6 with (first
      | (go_at_call 7; refine (alive_num _).mono ?_; rintro e w1 ⟨rfl, hb⟩; have H1 := Lib.hid (show NumAt w.heap.size k w1 ∧ Below w.heap.size w w1 from ⟨num_keep HZ.out hb, (below_box _ _).trans (hb.mono (by simp))⟩); obtain ⟨n0, n1, n2, n3, n4, n5⟩ := num_cells H1.out.1; clear hb)
      | (go_at_call 8; refine (hi _).mono ?_; rintro e w2 ⟨rfl, hb⟩; have H2 := Lib.hid (show NumAt w.heap.size k w2 ∧ Below w.heap.size w w2 from ⟨num_keep H1.out.1 hb, H1.out.2.trans (hb.mono H1.out.2.size)⟩); clear n0 n1 n2 n3 n4 n5; obtain ⟨n0, n1, n2, n3, n4, n5⟩ := num_cells H2.out.1; have hm := HM.out; clear hb))
    clear hm
    have hS1 := six_of (w0 := w) (W := w2.drew) H2.out.1 H2.out.2.drew
    clear n0 n1 n2 n3 n4 n5
    go_region_held3 (fun W => W.cell? ⟨w.heap.size, 0, none⟩ = some (.int .u64 (u k.v)) ∧ W.cell? ⟨w.heap.size, 1, none⟩ = some (.int .u64 (u k.m)) ∧ W.cell? ⟨w.heap.size, 2, none⟩ = some (.int .u64 (u k.a)) ∧ W.cell? ⟨w.heap.size, 3, none⟩ = some (.int .u64 (u k.b)) ∧ W.cell? ⟨w.heap.size, 4, none⟩ = some (.int .i64 (s k.c)) ∧ W.cell? ⟨w.heap.size, 5, none⟩ = some (.int .i64 (s k.d)) ∧ Below w.heap.size w W)
      (first | exact hS1 | exact hS7 | assumption)
      (first
        | (go_at_call 9; refine (hhn _).mono ?_; rintro e w7 ⟨rfl, hb7⟩; have hS7 := six_keep (by assumption) hb7; clear hb7)
        | (go_at_call 10; refine (hhr _).mono ?_; rintro e w7 ⟨rfl, hb7⟩; have hS7 := six_keep (by assumption) hb7; clear hb7)
        | (go_at_call 11; refine (hcn _).mono ?_; rintro e w7 ⟨rfl, hb7⟩; have hS7 := six_keep (by assumption) hb7; clear hb7)
        | (go_at_call 12; refine (hcr _).mono ?_; rintro e w7 ⟨rfl, hb7⟩; have hS7 := six_keep (by assumption) hb7; clear hb7)
        | (go_at_call 13; refine (han _).mono ?_; rintro e w7 ⟨rfl, hb7⟩; have hS7 := six_keep (by assumption) hb7; clear hb7)
        | (go_at_call 14; refine (har _).mono ?_; rintro e w7 ⟨rfl, hb7⟩; have hS7 := six_keep (by assumption) hb7; clear hb7))
    all_goals
      go_wp2
      go_ret
      exact ⟨rfl, hS7.2.2.2.2.2.2⟩
theorem numHas.walk (v0 v1 : Value) (w : World) (h0 : IsNum v0) (h1 : IsInt .u64 v1) :
    Calls Try.prog 3 #[v0, v1] w fun e w' => e = .returned (.bool true) ∧ Below w.heap.size w w' := by
  obtain ⟨k, rfl⟩ := h0
  obtain ⟨x, rfl⟩ := u_in h1
  exact law_has_num k x w
end Go.Proofs.Ytloeecmchedihaa
