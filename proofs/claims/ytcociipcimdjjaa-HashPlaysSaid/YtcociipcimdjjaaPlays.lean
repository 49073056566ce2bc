/-
  Proved here: the walk of the law HashPlays, over what came in. Conditions: what came in reads as its types say.
-/
import Derived.Test.YtcociipcimdjjaaLaw11
import Derived.Test.YtcociipcimdjjaaAlive11
namespace Go.Proofs.Ytcociipcimdjjaa
open Go.RowKit

set_option maxRecDepth 100000 in
theorem law_not (key s n t : Int) (w : World) (A : Option Addr) (len cap : Nat) (h : ¬ (1 ≤ s ∧ s ≤ 32 ∧ 1 ≤ n ∧ n ≤ 16 ∧ 1 ≤ key ∧ key ≤ 8)) :
    Calls Try.prog 3 #[.int .i64 key, .int .i64 s, .int .i64 n, .slice A len cap, .int .u8 t] w (LawPost w) := by
  have hm : mayH key s n = false := by
    cases e : mayH key s n
    · rfl
    · exfalso
      apply h
      simp [mayH, mayB, and_assoc] at e
      omega
  go_enter Try.func3, Try.ntmps3
  go_wp2_with (first
    | (go_at_call 5; refine (alive11 _).mono ?_; rintro e w1 ⟨rfl, hb1⟩; have HB1 := Lib.hid hb1; clear hb1)
    | (go_at_call 6; refine (hm_new_not _ _ _ _ h).mono ?_; rintro e w2 ⟨rfl, hb2⟩; have HB2 := Lib.hid hb2; clear hb2)
    | (go_at_call 7; refine (ref_mayH _ _ _ _).mono ?_; rintro e w3 ⟨rfl, rfl⟩))
  go_ret
  exact ⟨rfl, HB1.out.trans (HB2.out.mono HB1.out.size)⟩
end Go.Proofs.Ytcociipcimdjjaa
namespace Go.Proofs.Ytcociipcimdjjaa.hashPlays
open Go.RowKit

theorem walk (v0 v1 v2 v3 v4 : Value) (w : World) (h0 : IsInt .i64 v0) (h1 : IsInt .i64 v1) (h2 : IsInt .i64 v2) (h3 : FitV Try.prog w 4 22 v3) (h4 : IsInt .u8 v4) :
    Calls Try.prog 3 #[v0, v1, v2, v3, v4] w fun e w' => e = .returned (.bool true) ∧ Below w.heap.size w w' := by
  obtain ⟨key, rfl, wk⟩ := h0
  obtain ⟨s, rfl, ws⟩ := h1
  obtain ⟨n, rfl, wn⟩ := h2
  obtain ⟨t, rfl, wt⟩ := h4
  obtain ⟨A, len, cap, rfl, hl, ho⟩ := rows_ops h3
  by_cases h : 1 ≤ s ∧ s ≤ 32 ∧ 1 ≤ n ∧ n ≤ 16 ∧ 1 ≤ key ∧ key ≤ 8
  · obtain ⟨a, b, c, d, e, f⟩ := h
    obtain ⟨s, rfl⟩ := Int.eq_ofNat_of_zero_le (show 0 ≤ s by omega)
    obtain ⟨n, rfl⟩ := Int.eq_ofNat_of_zero_le (show 0 ≤ n by omega)
    obtain ⟨key, rfl⟩ := Int.eq_ofNat_of_zero_le (show 0 ≤ key by omega)
    have hd : Dim s n (s * n) := ⟨by omega, by omega, by omega, by omega, rfl⟩
    exact law_may key s n (s * n) t w A len cap (hm_acts key s n (s * n) hd (by omega) (by omega)) alive11 hd (by omega) (by omega) hl ho (bounds_u8 wt)
  · exact law_not key s n t w A len cap h
end Go.Proofs.Ytcociipcimdjjaa.hashPlays
