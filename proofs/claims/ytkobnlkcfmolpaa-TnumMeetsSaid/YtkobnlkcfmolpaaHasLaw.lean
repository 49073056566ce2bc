/-
  Proved here: the law TnumHas returns true, of every pattern and two numbers. Conditions: none.
-/
import Derived.Test.YtkobnlkcfmolpaaRefRange
namespace Go.Proofs.Ytkobnlkcfmolpaa
open Go.RowKit

theorem tnEq_same (a b : B64) : tnEq a b a b = true := by unfold tnEq; simp
attribute [local go_sem ↓] eql_tn neq_tn tnEq_same
attribute [local go_sem] u_and u_or u_xor u_andNot u_add u_sub
theorem may_eq (v m : B64) : tnEq v m (pv v m) m = (u (v &&& m) == 0) := by
  rw [← u_0, u_beq, Bool.eq_iff_iff]
  unfold tnEq
  rw [decide_eq_true_eq, beq_iff_eq]
  constructor
  · rintro ⟨h, -⟩
    apply BitVec.eq_of_getLsbD_eq
    intro i hi
    have e := congrArg (fun y : B64 => y.getLsbD i) h
    simp only [pv_bit _ _ _ hi] at e
    rw [BitVec.getLsbD_and, BitVec.getLsbD_zero]
    revert e
    cases v.getLsbD i <;> cases m.getLsbD i <;> decide
  · intro h
    refine ⟨?_, rfl⟩
    apply BitVec.eq_of_getLsbD_eq
    intro i hi
    have e := congrArg (fun y : B64 => y.getLsbD i) h
    simp only [BitVec.getLsbD_and, BitVec.getLsbD_zero] at e
    rw [pv_bit _ _ _ hi]
    revert e
    cases v.getLsbD i <;> cases m.getLsbD i <;> decide
theorem pv_0 (x : B64) : pv x 0#64 = x := by
  unfold pv
  apply BitVec.eq_of_getLsbD_eq
  intro i hi
  rw [BitVec.getLsbD_and, not_bit _ _ hi]
  simp
theorem const_lit (x : B64) (w : World) : Calls Try.prog 12 #[.int .u64 (u x)] w (Gives (.agg #[.int .u64 (u x), .int .u64 0]) w) := by
  have := const_tnum x w
  rw [pv_0] at this
  exact this
theorem all_lit (w : World) : Calls Try.prog 13 #[] w (Gives (.agg #[.int .u64 0, .int .u64 18446744073709551615]) w) := all_tnum w
/-- What Range tells. -/
def rgV (x y : B64) : B64 := if u x ≤ u y then pv x (lowM (rgL x y)) else 0#64
def rgM (x y : B64) : B64 := if u x ≤ u y then lowM (rgL x y) else ~~~0#64
theorem range_any (x y : B64) (w : World) : Calls Try.prog 14 #[.int .u64 (u x), .int .u64 (u y)] w (Gives (tnV (rgV x y) (rgM x y)) w) := by
  unfold rgV rgM
  by_cases h : u x ≤ u y
  · rw [if_pos h, if_pos h]; exact range_tnum x y w h
  · rw [if_neg h, if_neg h]; exact range_no x y w (by omega)
theorem refrange_any (x y : B64) (w : World) : Calls Try.prog 15 #[.int .u64 (u x), .int .u64 (u y)] w (Gives (tnV (rgV x y) (rgM x y)) w) := by
  unfold rgV rgM
  by_cases h : u x ≤ u y
  · rw [if_pos h, if_pos h]; exact range_ref x y w h
  · rw [if_neg h, if_neg h]; exact refrange_no x y w (by omega)
set_option maxHeartbeats 4000000 in
theorem law_has (v m x y : B64) (w : World) : Calls Try.prog 3 #[tnV v m, .int .u64 (u x), .int .u64 (u y)] w (Gives (.bool true) w) := by
  have HM := Lib.hid (may_eq v m)
  obtain ⟨t, ht⟩ : ∃ t, (u (v &&& m) == 0) = t := ⟨_, rfl⟩
  rw [ht] at HM
  obtain ⟨r, hr⟩ : ∃ r, hasB v m x = r := ⟨_, rfl⟩
  have HH := Lib.hid hr
  clear hr
  obtain ⟨A, hA⟩ : ∃ A, rgV x y = A := ⟨_, rfl⟩
  obtain ⟨B, hB⟩ : ∃ B, rgM x y = B := ⟨_, rfl⟩
  have HA := Lib.hid hA
  have HB := Lib.hid hB
  clear hA hB
  unfold Gives tnV
  go_enter Try.func3, Try.ntmps3
  go_wp2_with (go_at_call 8; refine (alive _).mono ?_; rintro e w1 ⟨rfl, hb⟩; have hS0 := keep2 (new2 w (.int .u64 (u v)) (.int .u64 (u m)) 24) hb; clear hb)
  have hS1 := drew2 hS0
  clear hS0
  go_region_held3 (fun W => W.cell? ⟨w.heap.size, 0, none⟩ = some (.int .u64 (u v)) ∧ W.cell? ⟨w.heap.size, 1, none⟩ = some (.int .u64 (u m)) ∧ Below w.heap.size w W)
    (first | exact hS1 | exact hS7 | assumption)
    (first
      | (go_at_call 9; refine (may_tnum v m _).mono ?_; rw [HM.out]; rintro e w7 ⟨rfl, hb7⟩; have hS7 := keep2 (by assumption) hb7; clear hb7)
      | (go_at_call 10; refine (has_tnum v m x _).mono ?_; rw [HH.out]; rintro e w7 ⟨rfl, hb7⟩; have hS7 := keep2 (by assumption) hb7; clear hb7)
      | (go_at_call 11; refine (has_ref v m x _).mono ?_; rw [HH.out]; rintro e w7 ⟨rfl, hb7⟩; have hS7 := keep2 (by assumption) hb7; clear hb7)
      | (go_at_call 12; refine (const_lit x _).mono ?_; rintro e w7 ⟨rfl, hb7⟩; have hS7 := keep2 (by assumption) hb7; clear hb7)
      | (go_at_call 13; refine (all_lit _).mono ?_; rintro e w7 ⟨rfl, hb7⟩; have hS7 := keep2 (by assumption) hb7; clear hb7)
      | (go_at_call 14; refine (range_any x y _).mono ?_; rw [HA.out, HB.out]; rintro e w7 ⟨rfl, hb7⟩; unfold tnV; have hS7 := keep2 (by assumption) hb7; clear hb7)
      | (go_at_call 15; refine (refrange_any x y _).mono ?_; rw [HA.out, HB.out]; rintro e w7 ⟨rfl, hb7⟩; unfold tnV; have hS7 := keep2 (by assumption) hb7; clear hb7))
  all_goals
    go_wp2
    go_ret
    exact ⟨rfl, hS7.2.2⟩
theorem tnumHas.walk (v0 v1 v2 : Value) (w : World) (h0 : IsInts [.u64, .u64] v0) (h1 : IsInt .u64 v1) (h2 : IsInt .u64 v2) :
    Calls Try.prog 3 #[v0, v1, v2] w fun e w' => e = .returned (.bool true) ∧ Below w.heap.size w w' := by
  obtain ⟨v, m, rfl⟩ := tn_in h0
  obtain ⟨x, rfl⟩ := u_in h1
  obtain ⟨y, rfl⟩ := u_in h2
  exact law_has v m x y w
end Go.Proofs.Ytkobnlkcfmolpaa
