/-
  Proved here: the law TnumHas returns true, of every pattern and two numbers. Conditions: none.
-/
import Derived.Test.YtbljijbmjccalaaHRefRange
namespace Go.Proofs.Ytbljijbmjccalaa
open Go.RowKit

theorem tnEq_same (a b : B64) : tnEq a b a b = true := by unfold tnEq; simp
attribute [local go_sem ↓] eql_tn neq_tn tnEq_same
attribute [local go_sem] u_and u_or u_xor u_andNot u_add u_sub
theorem may_eq (v m : B64) : tnEq v m (pv v m) m = (u (v &&& m) == 0) := by
  rw [← u_0, u_beq, Bool.eq_iff_iff]
  unfold tnEq
  rw [decide_eq_true_eq, beq_iff_eq]
  constructor
  · rintro ⟨h, -⟩
    apply BitVec.eq_of_getLsbD_eq
    intro i hi
    have e := congrArg (fun y : B64 => y.getLsbD i) h
    simp only [pv_bit _ _ _ hi] at e
    rw [BitVec.getLsbD_and, BitVec.getLsbD_zero]
    revert e
    cases v.getLsbD i <;> cases m.getLsbD i <;> decide
  · intro h
    refine ⟨?_, rfl⟩
    apply BitVec.eq_of_getLsbD_eq
    intro i hi
    have e := congrArg (fun y : B64 => y.getLsbD i) h
    simp only [BitVec.getLsbD_and, BitVec.getLsbD_zero] at e
    rw [pv_bit _ _ _ hi]
    revert e
    cases v.getLsbD i <;> cases m.getLsbD i <;> decide
theorem pv_0 (x : B64) : pv x 0#64 = x := by
  unfold pv
  apply BitVec.eq_of_getLsbD_eq
  intro i hi
  rw [BitVec.getLsbD_and, not_bit _ _ hi]
  simp
theorem all_lit (w : World) : Calls Try.prog 59 #[] w (Gives (.agg #[.int .u64 0, .int .u64 18446744073709551615]) w) := all_tnum w
/-- What Range tells. -/
def rgV (x y : B64) : B64 := if u x ≤ u y then pv x (lowM (rgL x y)) else 0#64
def rgM (x y : B64) : B64 := if u x ≤ u y then lowM (rgL x y) else ~~~0#64
theorem range_any (x y : B64) (w : World) : Calls Try.prog 58 #[.int .u64 (u x), .int .u64 (u y)] w (Gives (tnV (rgV x y) (rgM x y)) w) := by
  unfold rgV rgM
  by_cases h : u x ≤ u y
  · rw [if_pos h, if_pos h]; exact range_tnum x y w h
  · rw [if_neg h, if_neg h]; exact range_no x y w (by omega)
theorem refrange_any (x y : B64) (w : World) : Calls Try.prog 60 #[.int .u64 (u x), .int .u64 (u y)] w (Gives (tnV (rgV x y) (rgM x y)) w) := by
  unfold rgV rgM
  by_cases h : u x ≤ u y
  · rw [if_pos h, if_pos h]; exact range_ref x y w h
  · rw [if_neg h, if_neg h]; exact refrange_no x y w (by omega)
end Go.Proofs.Ytbljijbmjccalaa
