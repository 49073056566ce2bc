/-
  Proved here: alive of halberdlaw06 (the document's examples) returns true. Conditions: none.
-/
import Derived.Test.YtkobnlkcfmolpaaPatF
namespace Go.Proofs.Ytkobnlkcfmolpaa
open Go.RowKit

theorem lit_vals : (tnV (pv 5#64 0#64) 0#64 = .agg #[.int .u64 5, .int .u64 0]) ∧ (tnV (pv 1#64 0#64) 0#64 = .agg #[.int .u64 1, .int .u64 0]) ∧
    (tnV (twoV 0 0#64 1#64 1#64 0#64) (twoM 0 0#64 1#64 1#64 0#64) = .agg #[.int .u64 0, .int .u64 3]) ∧
    (tnV (pv 4#64 (lowM (rgL 4#64 7#64))) (lowM (rgL 4#64 7#64)) = .agg #[.int .u64 4, .int .u64 3]) ∧ tnV 0#64 (~~~0#64) = .agg #[.int .u64 0, .int .u64 18446744073709551615] := by
  refine ⟨rfl, rfl, rfl, ?_, rfl⟩
  have e : rgL 4#64 7#64 = 2 := by decide +kernel
  rw [e]
  rfl
theorem const_5 (w : World) : Calls Try.prog 12 #[.int .u64 5] w (Gives (.agg #[.int .u64 5, .int .u64 0]) w) := by
  rw [← lit_vals.1]; exact const_tnum 5#64 w
theorem const_1 (w : World) : Calls Try.prog 12 #[.int .u64 1] w (Gives (.agg #[.int .u64 1, .int .u64 0]) w) := by
  rw [← lit_vals.2.1]; exact const_tnum 1#64 w
theorem add_01 (w : World) : Calls Try.prog 16 #[.agg #[.int .u64 0, .int .u64 1], .agg #[.int .u64 1, .int .u64 0]] w (Gives (.agg #[.int .u64 0, .int .u64 3]) w) := by
  rw [← lit_vals.2.2.1]; exact add_tnum 0#64 1#64 1#64 0#64 w
theorem range_47 (w : World) : Calls Try.prog 14 #[.int .u64 4, .int .u64 7] w (Gives (.agg #[.int .u64 4, .int .u64 3]) w) := by
  rw [← lit_vals.2.2.2.1]; exact range_tnum 4#64 7#64 w (by decide)
theorem meet_35 (w : World) : Calls Try.prog 28 #[.agg #[.int .u64 0, .int .u64 3], .agg #[.int .u64 5, .int .u64 0]] w (Gives (.tuple #[.agg #[.int .u64 0, .int .u64 18446744073709551615], .bool false]) w) := by
  rw [← lit_vals.2.2.2.2]; exact meet_no 0#64 3#64 5#64 0#64 w (by decide)
theorem alive (w : World) : Calls Try.prog 8 #[] w (Gives (.bool true) w) := by
  have HB := Lib.hid (Below.refl w.heap.size w)
  unfold Gives
  go_enter Try.func8, Try.ntmps8
  go_wp2_with (first
    | ((go_at_call_of 12 (Value.int .u64 5)); refine (const_5 _).mono ?_; rintro e w1 ⟨rfl, hb⟩; replace HB := Lib.hid (HB.out.trans (hb.mono HB.out.size)); clear hb)
    | ((go_at_call_of 12 (Value.int .u64 1)); refine (const_1 _).mono ?_; rintro e w1 ⟨rfl, hb⟩; replace HB := Lib.hid ((HB.out.alloc HB.out.size _).trans (hb.mono (by have := HB.out.size; simp; omega))); clear hb)
    | (go_at_call 28; refine (meet_35 _).mono ?_; rintro e w1 ⟨rfl, hb⟩; replace HB := Lib.hid (HB.out.trans (hb.mono HB.out.size)); clear hb)
    | (go_at_call 16; refine (add_01 _).mono ?_; rintro e w1 ⟨rfl, hb⟩; replace HB := Lib.hid (HB.out.trans (hb.mono HB.out.size)); clear hb)
    | (go_at_call 14; refine (range_47 _).mono ?_; rintro e w1 ⟨rfl, hb⟩; replace HB := Lib.hid (HB.out.trans (hb.mono HB.out.size)); clear hb))
  go_ret
  exact ⟨rfl, HB.out⟩
end Go.Proofs.Ytkobnlkcfmolpaa
