/-
  Proved here: the walks of the laws RingPlays and RingFills, over whatever memory of the program's ring keeps its contracts. Conditions: the contracts; what came in reads as its types say.
-/
import Derived.Test.YthpfockaipbhgaaLaw13
import Derived.Test.YthpfockaipbhgaaFills13
namespace Go.Proofs.Ythpfockaipbhgaa
open Go.RowKit

theorem plays_walk {PS : RgMem} (ac : Acts13 PS) (v0 v1 v2 : Value) (w : World) (h0 : IsInt .i64 v0) (h1 : FitV Try.prog w 4 22 v1) (h2 : IsInt .u8 v2) :
    Calls Try.prog 3 #[v0, v1, v2] w fun e w' => e = .returned (.bool true) ∧ Below w.heap.size w w' := by
  obtain ⟨room, rfl, wr⟩ := h0
  obtain ⟨t, rfl, wt⟩ := h2
  obtain ⟨A, len, cap, rfl, hl, ho⟩ := rows_ops h1
  by_cases h : 1 ≤ room ∧ room ≤ 256
  · exact law_may room t w A len cap ac (alive13 ac) h hl ho (bounds_u8 wt)
  · exact law_not ac room t w A len cap h
theorem fills_walk {PS : RgMem} (ac : Acts13 PS) (v0 v1 v2 : Value) (w : World) (h0 : IsInt .u8 v0) (h1 : IsInt .u8 v1) (h2 : IsInt .u8 v2) :
    Calls Try.prog 5 #[v0, v1, v2] w fun e w' => e = .returned (.bool true) ∧ Below w.heap.size w w' := by
  obtain ⟨a, rfl, wa⟩ := h0
  obtain ⟨b, rfl, wb⟩ := h1
  obtain ⟨c, rfl, wc⟩ := h2
  have ha := bounds_u8 wa
  have hb := bounds_u8 wb
  have hc := bounds_u8 wc
  obtain ⟨M, hM⟩ := Int.eq_ofNat_of_zero_le (show 0 ≤ a + 1 by omega)
  obtain ⟨N, hN⟩ := Int.eq_ofNat_of_zero_le (show 0 ≤ b % 32 + 1 by omega)
  obtain ⟨K, hK⟩ := Int.eq_ofNat_of_zero_le (show 0 ≤ c % 9 by omega)
  exact fills_law ac a b c M N K (M / (N + 8)) w ha hb hc hM hN hK rfl
end Go.Proofs.Ythpfockaipbhgaa
