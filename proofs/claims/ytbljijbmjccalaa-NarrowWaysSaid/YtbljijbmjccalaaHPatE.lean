/-
  Proved here: what Cut, Meet and Range of package tnum return. Conditions: none.
-/
import Derived.Test.YtbljijbmjccalaaQ1
namespace Go.Proofs.Ytbljijbmjccalaa
open Go.RowKit
attribute [local go_sem ↓] eql_tn neq_tn
attribute [local go_sem] u_and u_or u_xor u_andNot u_add u_sub

/-- How many bits are left. -/
def bN (n : Int) : Nat := if n = 1 then 8 else if n = 2 then 16 else if n = 4 then 32 else 64
theorem zx_u (x : B64) (n : Int) : zx (u x) n = u (lowB x (bN n)) := by
  rw [u_lowB]
  have := u_bd x
  unfold zx bN
  by_cases h1 : n = 1
  · rw [if_pos h1, if_pos h1]; rfl
  · rw [if_neg h1, if_neg h1]
    by_cases h2 : n = 2
    · rw [if_pos h2, if_pos h2]; rfl
    · rw [if_neg h2, if_neg h2]
      by_cases h4 : n = 4
      · rw [if_pos h4, if_pos h4]; rfl
      · rw [if_neg h4, if_neg h4]
        have e : (2 : Int) ^ 64 = 18446744073709551616 := by decide
        rw [e]
        omega
/-! ### Meet -/
theorem three_cells {w0 W : World} {a b c d x y : Value} (h : Three w0 a b c d x y W) :
    W.cell? ⟨w0.heap.size, 0, none⟩ = some a ∧ W.cell? ⟨w0.heap.size, 1, none⟩ = some b ∧ W.cell? ⟨w0.heap.size + 1, 0, none⟩ = some c ∧ W.cell? ⟨w0.heap.size + 1, 1, none⟩ = some d ∧ Three w0 a b c d x y W :=
  ⟨(blk_facts h.1).1, (blk_facts h.1).2.1, (blk_facts h.2.1).1, (blk_facts h.2.1).2.1, h⟩
/-- The same, whatever the result's box holds. -/
def ThreeAny (w0 : World) (a b c d : Value) (W : World) : Prop := ∃ x y, Three w0 a b c d x y W
theorem any_cells {w0 W : World} {a b c d : Value} (h : ThreeAny w0 a b c d W) :
    W.cell? ⟨w0.heap.size, 0, none⟩ = some a ∧ W.cell? ⟨w0.heap.size, 1, none⟩ = some b ∧ W.cell? ⟨w0.heap.size + 1, 0, none⟩ = some c ∧ W.cell? ⟨w0.heap.size + 1, 1, none⟩ = some d ∧ ThreeAny w0 a b c d W := by
  obtain ⟨x, y, g⟩ := h
  obtain ⟨h0, h1, h2, h3, -⟩ := three_cells g
  exact ⟨h0, h1, h2, h3, x, y, g⟩
theorem any_keep {w0 W W' : World} {a b c d : Value} (h : ThreeAny w0 a b c d W) (hb : Below W.heap.size W W') : ThreeAny w0 a b c d W' := by
  obtain ⟨x, y, g⟩ := h
  exact ⟨x, y, three_keep g hb⟩
theorem any_set {w0 W : World} {a b c d x' y' : Value} (h : ThreeAny w0 a b c d W) : ThreeAny w0 a b c d ((W.setCell ⟨w0.heap.size + 2, 0, none⟩ x').setCell ⟨w0.heap.size + 2, 1, none⟩ y') := by
  obtain ⟨x, y, h1, h2, h3, hB⟩ := h
  have s3 := (blk_facts h3).2.2.2.2
  refine ⟨x', y', ?_, ?_, ?_, ?_⟩
  · simp [World.setCell, Array.getElem?_modify, h1]
  · simp [World.setCell, Array.getElem?_modify, h2]
  · simp [World.setCell, Array.getElem?_modify, h3]
  · exact (hB.setCell (by simp) _).setCell (by simp) _
theorem field_tn (a b : Value) (w : World) : (Instr.field 24 (.agg #[a, b]) 0).run Try.prog w = .ok a w := by kernel_rfl
attribute [local go_sem] field_tn
theorem any_res {w0 W : World} {a b c d : Value} (h : ThreeAny w0 a b c d W) : (∃ x y, W.cell? ⟨w0.heap.size + 2, 0, none⟩ = some x ∧ W.cell? ⟨w0.heap.size + 2, 1, none⟩ = some y) ∧ W.frozen? ⟨w0.heap.size + 2, 0, none⟩ = false ∧ W.frozen? ⟨w0.heap.size + 2, 1, none⟩ = false ∧ Below w0.heap.size w0 W := by
  obtain ⟨x, y, h1, h2, h3, hB⟩ := h
  obtain ⟨d4, d5, g4, g5, -⟩ := blk_facts h3
  exact ⟨⟨x, y, d4, d5⟩, g4, g5, hB⟩
theorem mtOk_eq (va ma vb mb : B64) : tnEq (pv va (ma ||| mb)) (ma ||| mb) (pv vb (ma ||| mb)) (ma ||| mb) = mtOk va ma vb mb := by
  unfold tnEq mtOk
  simp
set_option maxHeartbeats 4000000 in
theorem meet_no (va ma vb mb : B64) (w : World) (hok : mtOk va ma vb mb = false) : Calls Try.prog 54 #[tnV va ma, tnV vb mb] w (Gives (.tuple #[tnV 0#64 (~~~0#64), .bool false]) w) := by
  rw [← mtOk_eq] at hok
  unfold Gives tnV
  go_enter Try.func54, Try.ntmps54
  go_wp2
  have hS0 := three_cells (three_new w (.int .u64 (u va)) (.int .u64 (u ma)) (.int .u64 (u vb)) (.int .u64 (u mb)) (.int .u64 0) (.int .u64 0))
  go_region_held3 (fun W => W.cell? ⟨w.heap.size, 0, none⟩ = some (.int .u64 (u va)) ∧ W.cell? ⟨w.heap.size, 1, none⟩ = some (.int .u64 (u ma)) ∧ W.cell? ⟨w.heap.size + 1, 0, none⟩ = some (.int .u64 (u vb)) ∧ W.cell? ⟨w.heap.size + 1, 1, none⟩ = some (.int .u64 (u mb)) ∧ Three w (.int .u64 (u va)) (.int .u64 (u ma)) (.int .u64 (u vb)) (.int .u64 (u mb)) (.int .u64 0) (.int .u64 0) W) (first | exact hS0 | exact hS1 | assumption)
    (first | (go_at_call 61; refine (pattern_tnum _ _ _).mono ?_; rintro e w1 ⟨rfl, hb⟩; unfold tnV; have hS1 := three_cells (w0 := w) (three_keep (And.right (And.right (And.right (And.right (by assumption))))) hb); clear hb))
  all_goals
    obtain ⟨c0, c1, c2, c3, hT⟩ := hS1
    have HT := Lib.hid hT
    clear hT
    go_wp2_with (go_at_call 59; refine (all_tnum _).mono ?_; rintro e w2 ⟨rfl, hb⟩; unfold tnV; have hT2 := three_keep HT.out hb; obtain ⟨d4, d5, g4, g5, y2⟩ := blk_facts hT2.2.2.1; have HB := Lib.hid hT2.2.2.2; clear hb hT2)
    refine bodyPost_ret (v := .tuple #[.agg #[.int .u64 (u 0#64), .int .u64 (u (~~~0#64))], .bool false]) (by simp [results, Try.results54, go_sem, d4, d5]) rfl ⟨rfl, ?_⟩
    exact (HB.out.setCell (by simp; omega) _).setCell (by simp; omega) _
set_option maxHeartbeats 4000000 in
theorem meet_yes (va ma vb mb : B64) (w : World) (hok : mtOk va ma vb mb = true) : Calls Try.prog 54 #[tnV va ma, tnV vb mb] w (Gives (.tuple #[tnV (pv (pv va ma ||| pv vb mb) (ma &&& mb)) (ma &&& mb), .bool true]) w) := by
  rw [← mtOk_eq] at hok
  unfold Gives tnV
  go_enter Try.func54, Try.ntmps54
  go_wp2
  have hS0 := three_cells (three_new w (.int .u64 (u va)) (.int .u64 (u ma)) (.int .u64 (u vb)) (.int .u64 (u mb)) (.int .u64 0) (.int .u64 0))
  go_region_held3 (fun W => W.cell? ⟨w.heap.size, 0, none⟩ = some (.int .u64 (u va)) ∧ W.cell? ⟨w.heap.size, 1, none⟩ = some (.int .u64 (u ma)) ∧ W.cell? ⟨w.heap.size + 1, 0, none⟩ = some (.int .u64 (u vb)) ∧ W.cell? ⟨w.heap.size + 1, 1, none⟩ = some (.int .u64 (u mb)) ∧ Three w (.int .u64 (u va)) (.int .u64 (u ma)) (.int .u64 (u vb)) (.int .u64 (u mb)) (.int .u64 0) (.int .u64 0) W) (first | exact hS0 | exact hS1 | assumption)
    (first | (go_at_call 61; refine (pattern_tnum _ _ _).mono ?_; rintro e w1 ⟨rfl, hb⟩; unfold tnV; have hS1 := three_cells (w0 := w) (three_keep (And.right (And.right (And.right (And.right (by assumption))))) hb); clear hb))
  all_goals
    have hS2 := any_cells (w0 := w) (W := w1.drew) ⟨_, _, hS1.2.2.2.2.1, hS1.2.2.2.2.2.1, hS1.2.2.2.2.2.2.1, hS1.2.2.2.2.2.2.2.drew⟩
    go_wp2
    clear hS1
    go_region_held3 (fun W => W.cell? ⟨w.heap.size, 0, none⟩ = some (.int .u64 (u va)) ∧ W.cell? ⟨w.heap.size, 1, none⟩ = some (.int .u64 (u ma)) ∧ W.cell? ⟨w.heap.size + 1, 0, none⟩ = some (.int .u64 (u vb)) ∧ W.cell? ⟨w.heap.size + 1, 1, none⟩ = some (.int .u64 (u mb)) ∧ ThreeAny w (.int .u64 (u va)) (.int .u64 (u ma)) (.int .u64 (u vb)) (.int .u64 (u mb)) W) (first | exact hS2 | exact hS3 | exact any_cells (any_set HS3.out) | assumption)
      (first
        | (go_at_call 62; refine (proper_tnum _ _ _).mono ?_; rintro e w3 ⟨rfl, hb⟩; unfold tnV; have hS3 := any_cells (w0 := w) (any_keep (And.right (And.right (And.right (And.right (by assumption))))) hb); clear hb)
        | (go_at_call 61; refine (pattern_tnum _ _ _).mono ?_; rintro e w3 ⟨rfl, hb⟩; unfold tnV; have HS3 := Lib.hid (any_keep (w0 := w) (And.right (And.right (And.right (And.right (by assumption))))) hb); have hS3 := any_cells (w0 := w) HS3.out; obtain ⟨⟨x4, x5, d4, d5⟩, g4, g5, hB3⟩ := any_res HS3.out; have HB3 := Lib.hid hB3; clear hb hB3))
    all_goals
      go_wp2
      refine bodyPost_ret (v := .tuple #[.agg #[.int .u64 (u (pv (pv va ma ||| pv vb mb) (ma &&& mb))), .int .u64 (u (ma &&& mb))], .bool true]) (by simp [results, Try.results54, go_sem, d4, d5]) rfl ⟨rfl, ?_⟩
      exact (HB3.out.setCell (by simp; omega) _).setCell (by simp; omega) _
end Go.Proofs.Ytbljijbmjccalaa
