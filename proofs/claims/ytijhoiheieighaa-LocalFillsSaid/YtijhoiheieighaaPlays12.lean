/-
  Proved here: the walks of the three laws of storages, over whatever memory of the program's storage keeps its contracts. Conditions: the contracts; what came in reads as its types say.
-/
import Derived.Test.YtijhoiheieighaaLaw12
import Derived.Test.YtijhoiheieighaaFills12
import Derived.Test.YtijhoiheieighaaGens12
namespace Go.Proofs.Ytijhoiheieighaa
open Go.RowKit

/-- What the program must keep: its storages' memory, for each size; what it answers where there can't be one. -/
structure Keeps12 (PS : Nat → Nat → StMem) : Prop where
  acts : ∀ s n, Dim s n (s * n) → Acts12 (PS s n) s n (s * n)
  no : ∀ (s n : Int) (w : World), ¬ (1 ≤ s ∧ s ≤ 32 ∧ 1 ≤ n ∧ n ≤ 16) → Calls Try.prog 7 #[.int .i64 s, .int .i64 n] w (fun e w' => e = .returned (.tuple #[.pointer none, .int .i64 22]) ∧ Below w.heap.size w w')
theorem Keeps12.one {PS : Nat → Nat → StMem} (k : Keeps12 PS) : Acts12 (PS 1 1) 1 1 1 := k.acts 1 1 ⟨by omega, by omega, by omega, by omega, rfl⟩
set_option maxRecDepth 100000 in
theorem law_not {PS : Nat → Nat → StMem} (kp : Keeps12 PS) (s n t : Int) (w : World) (A : Option Addr) (len cap : Nat) (h : ¬ (1 ≤ s ∧ s ≤ 32 ∧ 1 ≤ n ∧ n ≤ 16)) :
    Calls Try.prog 3 #[.int .i64 s, .int .i64 n, .slice A len cap, .int .u8 t] w (LawPost w) := by
  have hm : mayB s n = false := by
    cases e : mayB s n
    · rfl
    · exfalso
      apply h
      simp [mayB, and_assoc] at e
      omega
  have KP := Lib.hid kp
  clear kp
  go_enter Try.func3, Try.ntmps3
  go_wp2_with (first
    | (go_at_call 6; refine (alive12 KP.out.one _).mono ?_; rintro e w1 ⟨rfl, hb1⟩; have HB1 := Lib.hid hb1; clear hb1)
    | (go_at_call 7; refine (KP.out.no _ _ _ h).mono ?_; rintro e w2 ⟨rfl, hb2⟩; have HB2 := Lib.hid hb2; clear hb2)
    | (go_at_call 8; refine (ref_may _ _ _).mono ?_; rintro e w3 ⟨rfl, rfl⟩))
  go_ret
  exact ⟨rfl, HB1.out.trans (HB2.out.mono HB1.out.size)⟩
theorem plays_walk {PS : Nat → Nat → StMem} (kp : Keeps12 PS) (v0 v1 v2 v3 : Value) (w : World) (h0 : IsInt .i64 v0) (h1 : IsInt .i64 v1) (h2 : FitV Try.prog w 5 22 v2) (h3 : IsInt .u8 v3) :
    Calls Try.prog 3 #[v0, v1, v2, v3] w fun e w' => e = .returned (.bool true) ∧ Below w.heap.size w w' := by
  obtain ⟨s, rfl, ws⟩ := h0
  obtain ⟨n, rfl, wn⟩ := h1
  obtain ⟨t, rfl, wt⟩ := h3
  obtain ⟨A, len, cap, rfl, hl, ho⟩ := rows_ops h2
  by_cases h : 1 ≤ s ∧ s ≤ 32 ∧ 1 ≤ n ∧ n ≤ 16
  · obtain ⟨a, b, c, d⟩ := h
    obtain ⟨s, rfl⟩ := Int.eq_ofNat_of_zero_le (show 0 ≤ s by omega)
    obtain ⟨n, rfl⟩ := Int.eq_ofNat_of_zero_le (show 0 ≤ n by omega)
    have hd : Dim s n (s * n) := ⟨by omega, by omega, by omega, by omega, rfl⟩
    exact law_may s n (s * n) t w A len cap (kp.acts s n hd) (alive12 kp.one) hd hl ho (bounds_u8 wt)
  · exact law_not kp s n t w A len cap h
theorem fills_walk {PS : Nat → Nat → StMem} (kp : Keeps12 PS) (v0 v1 : Value) (w : World) (h0 : IsInt .u8 v0) (h1 : IsInt .u8 v1) :
    Calls Try.prog 5 #[v0, v1] w fun e w' => e = .returned (.bool true) ∧ Below w.heap.size w w' := by
  obtain ⟨nn, rfl, wn⟩ := h0
  obtain ⟨dd, rfl, wd⟩ := h1
  have hn := bounds_u8 wn
  have hd := bounds_u8 wd
  obtain ⟨m, hm⟩ := Int.eq_ofNat_of_zero_le (show 0 ≤ nn % 16 + 1 by omega)
  have ha := kp.acts 1 m ⟨by omega, by omega, by omega, by omega, rfl⟩
  rw [Nat.one_mul] at ha
  exact fills_law nn dd m w ha kp.one (by omega) (by omega) hm hn hd
theorem ints_two {v : Value} (h : IsInts [.i64, .i64] v) : ∃ x y : Int, v = .agg #[.int .i64 x, .int .i64 y] := by
  obtain ⟨cs, rfl, hl, hc⟩ := h
  obtain ⟨x, hx, -⟩ := hc 0 .i64 rfl
  obtain ⟨y, hy, -⟩ := hc 1 .i64 rfl
  refine ⟨x, y, ?_⟩
  match cs, hl with
  | [a, b], _ =>
    simp at hx hy
    subst hx hy
    rfl
theorem gens_walk {PS : Nat → Nat → StMem} (kp : Keeps12 PS) (v0 v1 v2 : Value) (w : World) (h0 : IsInts [.i64, .i64] v0) (h1 : IsInts [.i64, .i64] v1) (h2 : IsInt .u8 v2) :
    Calls Try.prog 4 #[v0, v1, v2] w fun e w' => e = .returned (.bool true) ∧ Below w.heap.size w w' := by
  obtain ⟨x1, y1, rfl⟩ := ints_two h0
  obtain ⟨x2, y2, rfl⟩ := ints_two h1
  obtain ⟨c, rfl, -⟩ := h2
  exact gens_law x1 y1 x2 y2 c w (kp.acts 2 2 ⟨by omega, by omega, by omega, by omega, rfl⟩) kp.one
end Go.Proofs.Ytijhoiheieighaa
