/-
  Proved here: what Size, Power and Zext of the document's answers return. Conditions: Power's number is from 0 to 63, Zext's is of 64 bits.
-/
import Derived.Test.YtloeecmchedihaaInts
import Derived.Below
namespace Go.Proofs.Ytloeecmchedihaa
open Go.RowKit

theorem size_ref (n : Int) (w : World) : Calls Try.prog 36 #[.int .i64 n] w (Ret (.bool (sizeB n)) w) := by
  unfold Ret sizeB
  go_enter Try.func36, Try.ntmps36
  go_wp2
  all_goals
    go_ret
    exact ⟨ret_bool (by simp [*]), rfl⟩
theorem power (m : Int) (w : World) (h0 : 0 ≤ m) (h : m ≤ 63) : Calls Try.prog 37 #[.int .i64 m] w (Ret (.int .u64 (2 ^ m.toNat)) w) := by
  unfold Ret
  go_enter Try.func37, Try.ntmps37
  go_wp2
  go_loop [3, 4] (fun p i => ∃ k : Nat, (k : Int) ≤ m ∧ i = .int .i64 k ∧ p = .int .u64 (2 ^ k)) (fun _ i => m.toNat - (intOf i).toNat)
  case atStart => exact ⟨0, by omega, rfl, rfl⟩
  case round =>
    obtain ⟨k, hk, rfl, rfl⟩ := hrel
    by_cases hlt : (k : Int) < m
    · have hp := pow_le63 (n := k) (by omega)
      have hp2 := pow_le63 (n := k + 1) (by omega)
      have hb : (0 : Int) ≤ 2 ^ k * 2 ∧ (2 : Int) ^ k * 2 ≤ 18446744073709551615 := by omega
      clear hp hp2
      go_wp2
      go_round
      case rel => exact ⟨k + 1, by omega, by go_num, by rw [Int.pow_succ]⟩
      case measure => simp [intOf]; omega
    · obtain rfl : m = k := by omega
      go_wp2
      go_ret
      exact ⟨ret_u64 (by simp), rfl⟩

/-! ### Low -/
theorem zext_ref (x n : Int) (w : World) (h0 : 0 ≤ x) (h1 : x ≤ 18446744073709551615) : Calls Try.prog 21 #[.int .u64 x, .int .i64 n] w (Ret (.int .u64 (zx x n)) w) := by
  unfold Ret
  by_cases n1 : n = 1
  · subst n1
    have hs := sizeB_1
    go_enter Try.func21, Try.ntmps21
    go_wp2_with (first | (go_at_call 36; refine (size_ref _ _).mono ?_; rintro e w' ⟨rfl, rfl⟩) | (go_at_call 37; refine (power _ _ (by omega) (by omega)).mono ?_; rintro e w' ⟨rfl, rfl⟩))
    go_ret
    exact ⟨ret_u64 (by simp [zx]), rfl⟩
  by_cases n2 : n = 2
  · subst n2
    have hs := sizeB_2
    go_enter Try.func21, Try.ntmps21
    go_wp2_with (first | (go_at_call 36; refine (size_ref _ _).mono ?_; rintro e w' ⟨rfl, rfl⟩) | (go_at_call 37; refine (power _ _ (by omega) (by omega)).mono ?_; rintro e w' ⟨rfl, rfl⟩))
    go_ret
    exact ⟨ret_u64 (by simp [zx]), rfl⟩
  by_cases n4 : n = 4
  · subst n4
    have hs := sizeB_4
    go_enter Try.func21, Try.ntmps21
    go_wp2_with (first | (go_at_call 36; refine (size_ref _ _).mono ?_; rintro e w' ⟨rfl, rfl⟩) | (go_at_call 37; refine (power _ _ (by omega) (by omega)).mono ?_; rintro e w' ⟨rfl, rfl⟩))
    go_ret
    exact ⟨ret_u64 (by simp [zx]), rfl⟩
  by_cases n8 : n = 8
  · subst n8
    have hs := sizeB_8
    go_enter Try.func21, Try.ntmps21
    go_wp2_with (first | (go_at_call 36; refine (size_ref _ _).mono ?_; rintro e w' ⟨rfl, rfl⟩) | (go_at_call 37; refine (power _ _ (by omega) (by omega)).mono ?_; rintro e w' ⟨rfl, rfl⟩))
    go_ret
    exact ⟨ret_u64 (by simp [zx]), rfl⟩
  have hs := sizeB_not n1 n2 n4 n8
  have ez : zx x n = x := by rw [zx, if_neg n1, if_neg n2, if_neg n4]
  rw [ez]
  go_enter Try.func21, Try.ntmps21
  go_wp2_with (go_at_call 36; refine (size_ref _ _).mono ?_; rintro e w' ⟨rfl, rfl⟩)
  go_ret
  exact ⟨rfl, rfl⟩
/-! ### Sext -/
end Go.Proofs.Ytloeecmchedihaa
