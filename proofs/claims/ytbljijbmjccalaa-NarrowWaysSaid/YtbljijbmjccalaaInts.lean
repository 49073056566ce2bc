/-
  Proved here: what IsSize, Zext, Sext, Low of package words, and Size, Power, Zext, Sext, Low of the document's answers, return, as closed numbers. Conditions: a number that is cut is a uint64; Power's argument lies between 0 and 63.
-/
import Derived.Test.YtbljijbmjccalaaRows
import Derived.WalkKit
import Derived.IntWalk
import Derived.Laws.BitsAllLaws
namespace Go.Proofs.Ytbljijbmjccalaa
open Go.RowKit

/-- A size. -/
def sizeB (n : Int) : Bool := n == 1 || n == 2 || n == 4 || n == 8
/-- The n low bytes of x. -/
def zx (x n : Int) : Int := if n = 1 then x % 256 else if n = 2 then x % 65536 else if n = 4 then x % 4294967296 else x
/-- These as a number with a sign, as 64 bits again. -/
def sx (x n : Int) : Int :=
  if n = 1 then (if 128 ≤ x % 256 then x % 256 - 256 + 18446744073709551616 else x % 256)
  else if n = 2 then (if 32768 ≤ x % 65536 then x % 65536 - 65536 + 18446744073709551616 else x % 65536)
  else if n = 4 then (if 2147483648 ≤ x % 4294967296 then x % 4294967296 - 4294967296 + 18446744073709551616 else x % 4294967296)
  else x
/-- The number whose n lowest bits are 1. -/
def lw (n : Int) : Int := if n < 1 then 0 else if 63 < n then 18446744073709551615 else 2 ^ n.toNat - 1
def Ret (v : Value) (w : World) (e : Ending) (w' : World) : Prop := e = .returned v ∧ w = w'

theorem pow_le63 {n : Nat} (h : n ≤ 63) : (1 : Int) ≤ 2 ^ n ∧ (2 : Int) ^ n ≤ 9223372036854775808 := by
  constructor
  · exact Int.pow_pos (by decide)
  · have : (2 : Nat) ^ n ≤ 2 ^ 63 := Nat.pow_le_pow_right (by decide) h
    have h2 : ((2 ^ n : Nat) : Int) ≤ ((2 ^ 63 : Nat) : Int) := by exact_mod_cast this
    simpa using h2
theorem ret_u64 {a b : Int} (h : a = b) : Ending.returned (.int .u64 a) = .returned (.int .u64 b) := by rw [h]
theorem ret_bool {a b : Bool} (h : a = b) : Ending.returned (.bool a) = .returned (.bool b) := by rw [h]

/-! ### IsSize, Size -/
theorem size_ref (n : Int) (w : World) : Calls Try.prog 49 #[.int .i64 n] w (Ret (.bool (sizeB n)) w) := by
  unfold Ret sizeB
  go_enter Try.func49, Try.ntmps49
  go_wp2
  all_goals
    go_ret
    exact ⟨ret_bool (by simp [*]), rfl⟩
/-! ### Power -/
theorem power (m : Int) (w : World) (h0 : 0 ≤ m) (h : m ≤ 63) : Calls Try.prog 50 #[.int .i64 m] w (Ret (.int .u64 (2 ^ m.toNat)) w) := by
  unfold Ret
  go_enter Try.func50, Try.ntmps50
  go_wp2
  go_loop [3, 4] (fun p i => ∃ k : Nat, (k : Int) ≤ m ∧ i = .int .i64 k ∧ p = .int .u64 (2 ^ k)) (fun _ i => m.toNat - (intOf i).toNat)
  case atStart => exact ⟨0, by omega, rfl, rfl⟩
  case round =>
    obtain ⟨k, hk, rfl, rfl⟩ := hrel
    by_cases hlt : (k : Int) < m
    · have hp := pow_le63 (n := k) (by omega)
      have hp2 := pow_le63 (n := k + 1) (by omega)
      have hb : (0 : Int) ≤ 2 ^ k * 2 ∧ (2 : Int) ^ k * 2 ≤ 18446744073709551615 := by omega
      clear hp hp2
      go_wp2
      go_round
      case rel => exact ⟨k + 1, by omega, by go_num, by rw [Int.pow_succ]⟩
      case measure => simp [intOf]; omega
    · obtain rfl : m = k := by omega
      go_wp2
      go_ret
      exact ⟨ret_u64 (by simp), rfl⟩

/-! ### Low -/
theorem low_words (n : Int) (w : World) : Calls Try.prog 44 #[.int .i64 n] w (Ret (.int .u64 (lw n)) w) := by
  unfold Ret
  by_cases h1 : n < 1
  · go_enter Try.func44, Try.ntmps44
    go_wp2
    go_ret
    exact ⟨ret_u64 (by simp [lw, h1]), rfl⟩
  · by_cases h2 : 63 < n
    · go_enter Try.func44, Try.ntmps44
      go_wp2
      go_ret
      exact ⟨ret_u64 (by simp [lw, h1, h2]), rfl⟩
    · have hp := pow_le63 (n := n.toNat) (by omega)
      have e1 : IntKind.u64.wrap (2 ^ n.toNat) = 2 ^ n.toNat := IntWalk.u64_in _ (by omega)
      go_enter Try.func44, Try.ntmps44
      go_wp2
      go_ret
      exact ⟨ret_u64 (by rw [lw, if_neg (by omega), if_neg (by omega)]), rfl⟩
/-! ### Zext -/
theorem sizeB_not {n : Int} (h1 : n ≠ 1) (h2 : n ≠ 2) (h4 : n ≠ 4) (h8 : n ≠ 8) : sizeB n = false := by
  simp [sizeB, h1, h2, h4, h8]
theorem sizeB_1 : sizeB 1 = true := rfl
theorem sizeB_2 : sizeB 2 = true := rfl
theorem sizeB_4 : sizeB 4 = true := rfl
theorem sizeB_8 : sizeB 8 = true := rfl
theorem and_low (x : Int) (h0 : 0 ≤ x) (h1 : x ≤ 18446744073709551615) (m : Nat) (hm : m ≤ 63) : bits BinOp.and IntKind.u64 x (2 ^ m - 1) = x % 2 ^ m := by
  have hp := pow_le63 hm
  obtain ⟨y, rfl⟩ := Int.eq_ofNat_of_zero_le h0
  rw [u64_and y _ h0 (by omega) (by omega) (by omega)]
  have e : ((2 : Int) ^ m - 1).toNat = 2 ^ m - 1 := by
    have : ((2 : Int) ^ m) = ((2 ^ m : Nat) : Int) := by simp
    rw [this]; omega
  rw [e, Nat.and_two_pow_sub_one_eq_mod]
  simp
theorem and_all (x : Int) (h0 : 0 ≤ x) (h1 : x ≤ 18446744073709551615) : bits BinOp.and IntKind.u64 x 18446744073709551615 = x := by
  obtain ⟨y, rfl⟩ := Int.eq_ofNat_of_zero_le h0
  rw [u64_and y _ h0 (by omega) (by omega) (by omega)]
  have e : (18446744073709551615 : Int).toNat = 2 ^ 64 - 1 := by decide
  rw [e, Nat.and_two_pow_sub_one_eq_mod]
  simp; omega
/-! ### Sext -/
theorem sext_ref (x n : Int) (w : World) (h0 : 0 ≤ x) (h1 : x ≤ 18446744073709551615) : Calls Try.prog 36 #[.int .u64 x, .int .i64 n] w (Ret (.int .u64 (sx x n)) w) := by
  unfold Ret
  by_cases n1 : n = 1
  · subst n1
    have hz := sizeB_1
    by_cases hs : 128 ≤ x % 256
    all_goals
      go_enter Try.func36, Try.ntmps36
      go_wp2_with (first | (go_at_call 49; refine (size_ref _ _).mono ?_; rintro e w' ⟨rfl, rfl⟩) | (go_at_call 50; refine (power _ _ (by omega) (by omega)).mono ?_; rintro e w' ⟨rfl, rfl⟩))
      go_ret
      refine ⟨ret_u64 ?_, rfl⟩
      simp [sx, hs]
    · simp only [IntKind.wrap, IntKind.bits, IntKind.signed]
      simp
      omega
    · omega
  by_cases n2 : n = 2
  · subst n2
    have hz := sizeB_2
    by_cases hs : 32768 ≤ x % 65536
    all_goals
      go_enter Try.func36, Try.ntmps36
      go_wp2_with (first | (go_at_call 49; refine (size_ref _ _).mono ?_; rintro e w' ⟨rfl, rfl⟩) | (go_at_call 50; refine (power _ _ (by omega) (by omega)).mono ?_; rintro e w' ⟨rfl, rfl⟩))
      go_ret
      refine ⟨ret_u64 ?_, rfl⟩
      simp [sx, hs]
    · simp only [IntKind.wrap, IntKind.bits, IntKind.signed]
      simp
      omega
    · omega
  by_cases n4 : n = 4
  · subst n4
    have hz := sizeB_4
    by_cases hs : 2147483648 ≤ x % 4294967296
    all_goals
      go_enter Try.func36, Try.ntmps36
      go_wp2_with (first | (go_at_call 49; refine (size_ref _ _).mono ?_; rintro e w' ⟨rfl, rfl⟩) | (go_at_call 50; refine (power _ _ (by omega) (by omega)).mono ?_; rintro e w' ⟨rfl, rfl⟩))
      go_ret
      refine ⟨ret_u64 ?_, rfl⟩
      simp [sx, hs]
    · simp only [IntKind.wrap, IntKind.bits, IntKind.signed]
      simp
      omega
    · omega
  by_cases n8 : n = 8
  · subst n8
    have hs := sizeB_8
    go_enter Try.func36, Try.ntmps36
    go_wp2_with (first | (go_at_call 49; refine (size_ref _ _).mono ?_; rintro e w' ⟨rfl, rfl⟩) | (go_at_call 50; refine (power _ _ (by omega) (by omega)).mono ?_; rintro e w' ⟨rfl, rfl⟩))
    go_ret
    exact ⟨ret_u64 (by simp [sx]), rfl⟩
  have hs := sizeB_not n1 n2 n4 n8
  have ez : sx x n = x := by rw [sx, if_neg n1, if_neg n2, if_neg n4]
  rw [ez]
  go_enter Try.func36, Try.ntmps36
  go_wp2_with (go_at_call 49; refine (size_ref _ _).mono ?_; rintro e w' ⟨rfl, rfl⟩)
  go_ret
  exact ⟨rfl, rfl⟩
end Go.Proofs.Ytbljijbmjccalaa
