/-
  Proved here: the law HelpersOwn walked, over whatever package keeps the contracts; and the three laws over what came in. Conditions: Acts16.
-/
import Derived.Test.YthjdmnbpidoifaaHOwn
import Derived.Test.YthjdmnbpidoifaaFit
namespace Go.Proofs.Ythjdmnbpidoifaa
open Go.RowKit

theorem own_law16_no (A : Acts16) (k at_ c : Int) (w : World) (h : ¬ (1 ≤ k ∧ k ≤ 13)) : Calls Try.prog 5 #[.int .i64 k, .int .i64 at_, .int .u8 c] w (TrueB w) := by
  have HH := Lib.hid h
  clear h
  by_cases hat : at_ < 0
  · go_enter Try.func5, Try.ntmps5
    go_wp2_with (first
      | (go_at_call 6; refine (alive16 A _).mono ?_; rintro e w1 ⟨rfl, hb1⟩; have HB1 := Lib.hid hb1; clear hb1)
      | (go_at_call 7; refine (A.of_no k _ HH.out).mono ?_; rintro e w2 ⟨rfl, hb2⟩; have HB2 := Lib.hid hb2; clear hb2))
    go_loop [9] (fun x => x = .int .i64 0) (fun _ => 0)
    case atStart => rfl
    case round =>
      obtain rfl := hrel
      go_wp2_with fail
      refine (of_law16 A _ _ _).mono ?_
      rintro e w7 ⟨rfl, hb7⟩
      have HB7 := Lib.hid hb7
      clear hb7
      go_wp2_with fail
      refine (of_law16 A _ _ _).mono ?_
      rintro e w8 ⟨rfl, hb8⟩
      have HB8 := Lib.hid hb8
      clear hb8
      go_wp2
      go_ret
      have hw2 : Below w.heap.size w w2 := HB1.out.trans (HB2.out.mono HB1.out.size)
      have hw3 := hw2.trans ((below_box HB7.out).mono hw2.size)
      exact ⟨rfl, hw3.trans (HB8.out.mono hw3.size)⟩
  · have hat0 : 0 ≤ at_ := by omega
    clear hat
    go_enter Try.func5, Try.ntmps5
    go_wp2_with (first
      | (go_at_call 6; refine (alive16 A _).mono ?_; rintro e w1 ⟨rfl, hb1⟩; have HB1 := Lib.hid hb1; clear hb1)
      | (go_at_call 7; refine (A.of_no k _ HH.out).mono ?_; rintro e w2 ⟨rfl, hb2⟩; have HB2 := Lib.hid hb2; clear hb2))
    go_loop [9] (fun x => x = .int .i64 0) (fun _ => 0)
    case atStart => rfl
    case round =>
      obtain rfl := hrel
      go_wp2_with fail
      refine (of_law16 A _ _ _).mono ?_
      rintro e w7 ⟨rfl, hb7⟩
      have HB7 := Lib.hid hb7
      clear hb7
      go_wp2_with fail
      refine (of_law16 A _ _ _).mono ?_
      rintro e w8 ⟨rfl, hb8⟩
      have HB8 := Lib.hid hb8
      clear hb8
      go_wp2
      go_ret
      have hw2 : Below w.heap.size w w2 := HB1.out.trans (HB2.out.mono HB1.out.size)
      have hw3 := hw2.trans ((below_box HB7.out).mono hw2.size)
      exact ⟨rfl, hw3.trans (HB8.out.mono hw3.size)⟩
theorem own_law16 (A : Acts16) (k at_ c : Int) (w : World) : Calls Try.prog 5 #[.int .i64 k, .int .i64 at_, .int .u8 c] w (TrueB w) := by
  by_cases h : 1 ≤ k ∧ k ≤ 13
  · obtain ⟨k, rfl⟩ := Int.eq_ofNat_of_zero_le (show 0 ≤ k by omega)
    exact own_law16_at A k at_ c w (by omega) (by omega) (by omega)
  · exact own_law16_no A k at_ c w h
theorem fitV_string {P : Program} {w : World} {n : Nat} {t : TypeId} {v : Value} (ht : P.underlying t = some .string) (h : FitV P w n t v) : ∃ s, v = .string s := by
  have h2 := h.2
  rw [ht] at h2
  exact h2
theorem helpersOf_walk (A : Acts16) (v0 v1 : Value) (w : World) (h0 : IsInt .i64 v0) (h1 : IsInt .i64 v1) : Calls Try.prog 3 #[v0, v1] w fun e w' => e = .returned (.bool true) ∧ Below w.heap.size w w' := by
  obtain ⟨k, rfl, -⟩ := h0
  obtain ⟨j, rfl, -⟩ := h1
  exact of_law16 A k j w
theorem helpersBy_walk (A : Acts16) (v0 : Value) (w : World) (h0 : FitV Try.prog w 1 9 v0) : Calls Try.prog 4 #[v0] w fun e w' => e = .returned (.bool true) ∧ Below w.heap.size w w' := by
  obtain ⟨s, rfl⟩ := fitV_string Try.underlying9 h0
  exact by_law16 A s w
theorem helpersOwn_walk (A : Acts16) (v0 v1 v2 : Value) (w : World) (h0 : IsInt .i64 v0) (h1 : IsInt .i64 v1) (h2 : IsInt .u8 v2) : Calls Try.prog 5 #[v0, v1, v2] w fun e w' => e = .returned (.bool true) ∧ Below w.heap.size w w' := by
  obtain ⟨k, rfl, -⟩ := h0
  obtain ⟨j, rfl, -⟩ := h1
  obtain ⟨c, rfl, -⟩ := h2
  exact own_law16 A k j c w
end Go.Proofs.Ythjdmnbpidoifaa
