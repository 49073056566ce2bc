/-
  Proved here: the law TnumShifts returns true, of every pattern and two numbers. Conditions: none.
-/
import Derived.Test.YtkobnlkcfmolpaaRefCut
namespace Go.Proofs.Ytkobnlkcfmolpaa
open Go.RowKit
attribute [local go_sem ↓] eql_tn neq_tn tnEq_same

set_option maxHeartbeats 16000000 in
theorem law_shifts (v m n : B64) (s : Int) (w : World) : Calls Try.prog 5 #[tnV v m, .int .u64 (u n), .int .i64 s] w (Gives (.bool true) w) := by
  obtain ⟨A0, hA0⟩ : ∃ A, pv (shX 0 v (n.toNat % 64)) (shX 0 m (n.toNat % 64)) = A := ⟨_, rfl⟩
  obtain ⟨B0, hB0⟩ : ∃ B, shX 0 m (n.toNat % 64) = B := ⟨_, rfl⟩
  obtain ⟨A1, hA1⟩ : ∃ A, pv (shX 1 v (n.toNat % 64)) (shX 1 m (n.toNat % 64)) = A := ⟨_, rfl⟩
  obtain ⟨B1, hB1⟩ : ∃ B, shX 1 m (n.toNat % 64) = B := ⟨_, rfl⟩
  obtain ⟨A2, hA2⟩ : ∃ A, pv (shX 2 v (n.toNat % 64)) (shX 2 m (n.toNat % 64)) = A := ⟨_, rfl⟩
  obtain ⟨B2, hB2⟩ : ∃ B, shX 2 m (n.toNat % 64) = B := ⟨_, rfl⟩
  obtain ⟨A3, hA3⟩ : ∃ A, pv (lowB v (bN s)) (lowB m (bN s)) = A := ⟨_, rfl⟩
  obtain ⟨B3, hB3⟩ : ∃ B, lowB m (bN s) = B := ⟨_, rfl⟩
  have F0 := Lib.hid (fun W => (hB0 ▸ hA0 ▸ lsh_tnum v m n W : Calls Try.prog 22 #[tnV v m, .int .u64 (u n)] W (Gives (tnV A0 B0) W)))
  have G0 := Lib.hid (fun W => (hB0 ▸ hA0 ▸ shift_ref0 v m n W : Calls Try.prog 23 #[.int .i64 0, tnV v m, .int .u64 (u n)] W (Gives (tnV A0 B0) W)))
  have F1 := Lib.hid (fun W => (hB1 ▸ hA1 ▸ rsh_tnum v m n W : Calls Try.prog 24 #[tnV v m, .int .u64 (u n)] W (Gives (tnV A1 B1) W)))
  have G1 := Lib.hid (fun W => (hB1 ▸ hA1 ▸ shift_ref1 v m n W : Calls Try.prog 23 #[.int .i64 1, tnV v m, .int .u64 (u n)] W (Gives (tnV A1 B1) W)))
  have F2 := Lib.hid (fun W => (hB2 ▸ hA2 ▸ arsh_tnum v m n W : Calls Try.prog 25 #[tnV v m, .int .u64 (u n)] W (Gives (tnV A2 B2) W)))
  have G2 := Lib.hid (fun W => (hB2 ▸ hA2 ▸ shift_ref2 v m n W : Calls Try.prog 23 #[.int .i64 2, tnV v m, .int .u64 (u n)] W (Gives (tnV A2 B2) W)))
  have F3 := Lib.hid (fun W => (hB3 ▸ hA3 ▸ cut_tnum v m s W : Calls Try.prog 26 #[tnV v m, .int .i64 s] W (Gives (tnV A3 B3) W)))
  have G3 := Lib.hid (fun W => (hB3 ▸ hA3 ▸ cut_ref v m s W : Calls Try.prog 27 #[tnV v m, .int .i64 s] W (Gives (tnV A3 B3) W)))
  clear hA0 hB0 hA1 hB1 hA2 hB2 hA3 hB3
  unfold Gives tnV
  go_enter Try.func5, Try.ntmps5
  go_wp2_with (go_at_call 8; refine (alive _).mono ?_; rintro e w1 ⟨rfl, hb⟩; have hS0 := keep2 (new2 w (.int .u64 (u v)) (.int .u64 (u m)) 24) hb; clear hb)
  have hS1 := drew2 hS0
  clear hS0
  go_region_held3 (fun W => W.cell? ⟨w.heap.size, 0, none⟩ = some (.int .u64 (u v)) ∧ W.cell? ⟨w.heap.size, 1, none⟩ = some (.int .u64 (u m)) ∧ Below w.heap.size w W)
    (first | exact hS1 | exact hS7 | assumption)
    (first
      | (go_at_call 22; refine (F0.out _).mono ?_; rintro e w7 ⟨rfl, hb7⟩; unfold tnV; have hS7 := keep2 (by assumption) hb7; clear hb7)
      | (go_at_call_of 23 (Value.int .i64 0); refine (G0.out _).mono ?_; rintro e w7 ⟨rfl, hb7⟩; unfold tnV; have hS7 := keep2 (by assumption) hb7; clear hb7)
      | (go_at_call 24; refine (F1.out _).mono ?_; rintro e w7 ⟨rfl, hb7⟩; unfold tnV; have hS7 := keep2 (by assumption) hb7; clear hb7)
      | (go_at_call_of 23 (Value.int .i64 1); refine (G1.out _).mono ?_; rintro e w7 ⟨rfl, hb7⟩; unfold tnV; have hS7 := keep2 (by assumption) hb7; clear hb7)
      | (go_at_call 25; refine (F2.out _).mono ?_; rintro e w7 ⟨rfl, hb7⟩; unfold tnV; have hS7 := keep2 (by assumption) hb7; clear hb7)
      | (go_at_call_of 23 (Value.int .i64 2); refine (G2.out _).mono ?_; rintro e w7 ⟨rfl, hb7⟩; unfold tnV; have hS7 := keep2 (by assumption) hb7; clear hb7)
      | (go_at_call 26; refine (F3.out _).mono ?_; rintro e w7 ⟨rfl, hb7⟩; unfold tnV; have hS7 := keep2 (by assumption) hb7; clear hb7)
      | (go_at_call 27; refine (G3.out _).mono ?_; rintro e w7 ⟨rfl, hb7⟩; unfold tnV; have hS7 := keep2 (by assumption) hb7; clear hb7))
  all_goals
    go_wp2
    go_ret
    exact ⟨rfl, hS7.2.2⟩
theorem i_in {v : Value} (h : IsInt .i64 v) : ∃ n : Int, v = .int .i64 n := by
  obtain ⟨n, rfl, hw⟩ := h
  exact ⟨n, rfl⟩
theorem tnumShifts.walk (v0 v1 v2 : Value) (w : World) (h0 : IsInts [.u64, .u64] v0) (h1 : IsInt .u64 v1) (h2 : IsInt .i64 v2) :
    Calls Try.prog 5 #[v0, v1, v2] w fun e w' => e = .returned (.bool true) ∧ Below w.heap.size w w' := by
  obtain ⟨v, m, rfl⟩ := tn_in h0
  obtain ⟨n, rfl⟩ := u_in h1
  obtain ⟨s, rfl⟩ := i_in h2
  exact law_shifts v m n s w
end Go.Proofs.Ytkobnlkcfmolpaa
