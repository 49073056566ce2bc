/-
  Proved here: the walk of the law ArrayPlays, over what came in. Conditions: what came in reads as its types say.
-/
import Derived.Test.YtdboapeookmfkaaLaw
namespace Go.Proofs.Ytdboapeookmfkaa.arrayPlays
open Go.RowKit

theorem walk (v0 v1 v2 v3 : Value) (w : World) (h0 : IsInt .i64 v0) (h1 : IsInt .i64 v1) (h2 : IsRows [.i64, .i64, .u8] w v2) (h3 : IsInt .u8 v3) :
    Calls Try.prog 3 #[v0, v1, v2, v3] w fun e w' => e = .returned (.bool true) ∧ Below w.heap.size w w' := by
  obtain ⟨s, rfl, ws⟩ := h0
  obtain ⟨n, rfl, wn⟩ := h1
  obtain ⟨t, rfl, wt⟩ := h3
  obtain ⟨A, len, cap, rfl, hl, ho⟩ := rows_ops h2
  by_cases h : 1 ≤ s ∧ s ≤ 32 ∧ 1 ≤ n ∧ n ≤ 16
  · obtain ⟨a, b, c, d⟩ := h
    obtain ⟨s, rfl⟩ := Int.eq_ofNat_of_zero_le (show 0 ≤ s by omega)
    obtain ⟨n, rfl⟩ := Int.eq_ofNat_of_zero_le (show 0 ≤ n by omega)
    exact law_may s n (s * n) t w A len cap ⟨by omega, by omega, by omega, by omega, rfl⟩ hl ho (bounds_u8 wt)
  · exact law_not s n t w A len cap h
end Go.Proofs.Ytdboapeookmfkaa.arrayPlays
