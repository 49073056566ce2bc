/-
  Proved here: the law TnumTwo returns true, of every two patterns. Conditions: none.
-/
import Derived.Test.YtkobnlkcfmolpaaRefTwoA
import Derived.Test.YtkobnlkcfmolpaaRefTwoB
import Derived.Test.YtkobnlkcfmolpaaRefTwoC
import Derived.Test.YtkobnlkcfmolpaaRefTwoD
import Derived.Test.YtkobnlkcfmolpaaRefTwoE
namespace Go.Proofs.Ytkobnlkcfmolpaa
open Go.RowKit
attribute [local go_sem ↓] eql_tn neq_tn tnEq_same

theorem pair_all {w0 W W' : World} {a b c d : B64}
    (h : W.cell? ⟨w0.heap.size, 0, none⟩ = some (.int .u64 (u a)) ∧ W.cell? ⟨w0.heap.size, 1, none⟩ = some (.int .u64 (u b)) ∧ W.cell? ⟨w0.heap.size + 1, 0, none⟩ = some (.int .u64 (u c)) ∧ W.cell? ⟨w0.heap.size + 1, 1, none⟩ = some (.int .u64 (u d)) ∧ Pair w0 a b c d W) (hb : Below W.heap.size W W') :
    W'.cell? ⟨w0.heap.size, 0, none⟩ = some (.int .u64 (u a)) ∧ W'.cell? ⟨w0.heap.size, 1, none⟩ = some (.int .u64 (u b)) ∧ W'.cell? ⟨w0.heap.size + 1, 0, none⟩ = some (.int .u64 (u c)) ∧ W'.cell? ⟨w0.heap.size + 1, 1, none⟩ = some (.int .u64 (u d)) ∧ Pair w0 a b c d W' := by
  have hp := pair_keep h.2.2.2.2 hb
  obtain ⟨c0, c1, c2, c3⟩ := pair_cells hp
  exact ⟨c0, c1, c2, c3, hp⟩
set_option maxHeartbeats 64000000 in
theorem law_two (va ma vb mb : B64) (w : World) : Calls Try.prog 4 #[tnV va ma, tnV vb mb] w (Gives (.bool true) w) := by
  obtain ⟨A0, hA0⟩ : ∃ A, twoV 0 va ma vb mb = A := ⟨_, rfl⟩
  obtain ⟨B0, hB0⟩ : ∃ B, twoM 0 va ma vb mb = B := ⟨_, rfl⟩
  obtain ⟨A1, hA1⟩ : ∃ A, twoV 1 va ma vb mb = A := ⟨_, rfl⟩
  obtain ⟨B1, hB1⟩ : ∃ B, twoM 1 va ma vb mb = B := ⟨_, rfl⟩
  obtain ⟨A2, hA2⟩ : ∃ A, twoV 2 va ma vb mb = A := ⟨_, rfl⟩
  obtain ⟨B2, hB2⟩ : ∃ B, twoM 2 va ma vb mb = B := ⟨_, rfl⟩
  obtain ⟨A3, hA3⟩ : ∃ A, twoV 3 va ma vb mb = A := ⟨_, rfl⟩
  obtain ⟨B3, hB3⟩ : ∃ B, twoM 3 va ma vb mb = B := ⟨_, rfl⟩
  obtain ⟨A4, hA4⟩ : ∃ A, twoV 4 va ma vb mb = A := ⟨_, rfl⟩
  obtain ⟨B4, hB4⟩ : ∃ B, twoM 4 va ma vb mb = B := ⟨_, rfl⟩
  have F0 := Lib.hid (fun W => (hB0 ▸ hA0 ▸ add_tnum va ma vb mb W : Calls Try.prog 16 #[tnV va ma, tnV vb mb] W (Gives (tnV A0 B0) W)))
  have G0 := Lib.hid (fun W => (hB0 ▸ hA0 ▸ two_ref0 va ma vb mb W : Calls Try.prog 17 #[.int .i64 0, tnV va ma, tnV vb mb] W (Gives (tnV A0 B0) W)))
  have F1 := Lib.hid (fun W => (hB1 ▸ hA1 ▸ sub_tnum va ma vb mb W : Calls Try.prog 18 #[tnV va ma, tnV vb mb] W (Gives (tnV A1 B1) W)))
  have G1 := Lib.hid (fun W => (hB1 ▸ hA1 ▸ two_ref1 va ma vb mb W : Calls Try.prog 17 #[.int .i64 1, tnV va ma, tnV vb mb] W (Gives (tnV A1 B1) W)))
  have F2 := Lib.hid (fun W => (hB2 ▸ hA2 ▸ and_tnum va ma vb mb W : Calls Try.prog 19 #[tnV va ma, tnV vb mb] W (Gives (tnV A2 B2) W)))
  have G2 := Lib.hid (fun W => (hB2 ▸ hA2 ▸ two_ref2 va ma vb mb W : Calls Try.prog 17 #[.int .i64 2, tnV va ma, tnV vb mb] W (Gives (tnV A2 B2) W)))
  have F3 := Lib.hid (fun W => (hB3 ▸ hA3 ▸ or_tnum va ma vb mb W : Calls Try.prog 20 #[tnV va ma, tnV vb mb] W (Gives (tnV A3 B3) W)))
  have G3 := Lib.hid (fun W => (hB3 ▸ hA3 ▸ two_ref3 va ma vb mb W : Calls Try.prog 17 #[.int .i64 3, tnV va ma, tnV vb mb] W (Gives (tnV A3 B3) W)))
  have F4 := Lib.hid (fun W => (hB4 ▸ hA4 ▸ xor_tnum va ma vb mb W : Calls Try.prog 21 #[tnV va ma, tnV vb mb] W (Gives (tnV A4 B4) W)))
  have G4 := Lib.hid (fun W => (hB4 ▸ hA4 ▸ two_ref4 va ma vb mb W : Calls Try.prog 17 #[.int .i64 4, tnV va ma, tnV vb mb] W (Gives (tnV A4 B4) W)))
  clear hA0 hB0 hA1 hB1 hA2 hB2 hA3 hB3 hA4 hB4
  unfold Gives tnV
  have HP := Lib.hid (pair_new w va ma vb mb)
  go_enter Try.func4, Try.ntmps4
  go_wp2_with (go_at_call 8; refine (alive _).mono ?_; rintro e w1 ⟨rfl, hb⟩; have HP1 := Lib.hid (pair_keep HP.out hb); clear hb)
  have hS1 : w1.drew.cell? ⟨w.heap.size, 0, none⟩ = some (.int .u64 (u va)) ∧ w1.drew.cell? ⟨w.heap.size, 1, none⟩ = some (.int .u64 (u ma)) ∧ w1.drew.cell? ⟨w.heap.size + 1, 0, none⟩ = some (.int .u64 (u vb)) ∧ w1.drew.cell? ⟨w.heap.size + 1, 1, none⟩ = some (.int .u64 (u mb)) ∧ Pair w va ma vb mb w1.drew :=
    ⟨(pair_cells HP1.out).1, (pair_cells HP1.out).2.1, (pair_cells HP1.out).2.2.1, (pair_cells HP1.out).2.2.2, HP1.out.1, HP1.out.2.1, HP1.out.2.2.drew⟩
  go_region_held3 (fun W => W.cell? ⟨w.heap.size, 0, none⟩ = some (.int .u64 (u va)) ∧ W.cell? ⟨w.heap.size, 1, none⟩ = some (.int .u64 (u ma)) ∧ W.cell? ⟨w.heap.size + 1, 0, none⟩ = some (.int .u64 (u vb)) ∧ W.cell? ⟨w.heap.size + 1, 1, none⟩ = some (.int .u64 (u mb)) ∧ Pair w va ma vb mb W)
    (first | exact hS1 | exact hS7 | assumption)
    (first
      | (go_at_call 16; refine (F0.out _).mono ?_; rintro e w7 ⟨rfl, hb7⟩; unfold tnV; have hS7 := pair_all (w0 := w) (by assumption) hb7; clear hb7)
      | (go_at_call_of 17 (Value.int .i64 0); refine (G0.out _).mono ?_; rintro e w7 ⟨rfl, hb7⟩; unfold tnV; have hS7 := pair_all (w0 := w) (by assumption) hb7; clear hb7)
      | (go_at_call 18; refine (F1.out _).mono ?_; rintro e w7 ⟨rfl, hb7⟩; unfold tnV; have hS7 := pair_all (w0 := w) (by assumption) hb7; clear hb7)
      | (go_at_call_of 17 (Value.int .i64 1); refine (G1.out _).mono ?_; rintro e w7 ⟨rfl, hb7⟩; unfold tnV; have hS7 := pair_all (w0 := w) (by assumption) hb7; clear hb7)
      | (go_at_call 19; refine (F2.out _).mono ?_; rintro e w7 ⟨rfl, hb7⟩; unfold tnV; have hS7 := pair_all (w0 := w) (by assumption) hb7; clear hb7)
      | (go_at_call_of 17 (Value.int .i64 2); refine (G2.out _).mono ?_; rintro e w7 ⟨rfl, hb7⟩; unfold tnV; have hS7 := pair_all (w0 := w) (by assumption) hb7; clear hb7)
      | (go_at_call 20; refine (F3.out _).mono ?_; rintro e w7 ⟨rfl, hb7⟩; unfold tnV; have hS7 := pair_all (w0 := w) (by assumption) hb7; clear hb7)
      | (go_at_call_of 17 (Value.int .i64 3); refine (G3.out _).mono ?_; rintro e w7 ⟨rfl, hb7⟩; unfold tnV; have hS7 := pair_all (w0 := w) (by assumption) hb7; clear hb7)
      | (go_at_call 21; refine (F4.out _).mono ?_; rintro e w7 ⟨rfl, hb7⟩; unfold tnV; have hS7 := pair_all (w0 := w) (by assumption) hb7; clear hb7)
      | (go_at_call_of 17 (Value.int .i64 4); refine (G4.out _).mono ?_; rintro e w7 ⟨rfl, hb7⟩; unfold tnV; have hS7 := pair_all (w0 := w) (by assumption) hb7; clear hb7))
  all_goals
    go_wp2
    go_ret
    exact ⟨rfl, hS7.2.2.2.2.2.2⟩
theorem tnumTwo.walk (v0 v1 : Value) (w : World) (h0 : IsInts [.u64, .u64] v0) (h1 : IsInts [.u64, .u64] v1) :
    Calls Try.prog 4 #[v0, v1] w fun e w' => e = .returned (.bool true) ∧ Below w.heap.size w w' := by
  obtain ⟨va, ma, rfl⟩ := tn_in h0
  obtain ⟨vb, mb, rfl⟩ := tn_in h1
  exact law_two va ma vb mb w
end Go.Proofs.Ytkobnlkcfmolpaa
