/-
  Proved here: what IsSize, Zext, Sext, Low of package words, and Size, Power, Zext, Sext, Low of the document's answers, return, as closed numbers. Conditions: a number that is cut is a uint64; Power's argument lies between 0 and 63.
-/
import Derived.Test.YtcdpmggjdmibjaaRows
import Derived.WalkKit
import Derived.IntWalk
import Derived.Laws.BitsAllLaws
namespace Go.Proofs.Ytcdpmggjdmibjaa
open Go.RowKit

/-- A size. -/
def sizeB (n : Int) : Bool := n == 1 || n == 2 || n == 4 || n == 8
/-- The n low bytes of x. -/
def zx (x n : Int) : Int := if n = 1 then x % 256 else if n = 2 then x % 65536 else if n = 4 then x % 4294967296 else x
/-- These as a number with a sign, as 64 bits again. -/
def sx (x n : Int) : Int :=
  if n = 1 then (if 128 ≤ x % 256 then x % 256 - 256 + 18446744073709551616 else x % 256)
  else if n = 2 then (if 32768 ≤ x % 65536 then x % 65536 - 65536 + 18446744073709551616 else x % 65536)
  else if n = 4 then (if 2147483648 ≤ x % 4294967296 then x % 4294967296 - 4294967296 + 18446744073709551616 else x % 4294967296)
  else x
/-- The number whose n lowest bits are 1. -/
def lw (n : Int) : Int := if n < 1 then 0 else if 63 < n then 18446744073709551615 else 2 ^ n.toNat - 1
def Ret (v : Value) (w : World) (e : Ending) (w' : World) : Prop := e = .returned v ∧ w = w'

theorem pow_le63 {n : Nat} (h : n ≤ 63) : (1 : Int) ≤ 2 ^ n ∧ (2 : Int) ^ n ≤ 9223372036854775808 := by
  constructor
  · exact Int.pow_pos (by decide)
  · have : (2 : Nat) ^ n ≤ 2 ^ 63 := Nat.pow_le_pow_right (by decide) h
    have h2 : ((2 ^ n : Nat) : Int) ≤ ((2 ^ 63 : Nat) : Int) := by exact_mod_cast this
    simpa using h2
theorem ret_u64 {a b : Int} (h : a = b) : Ending.returned (.int .u64 a) = .returned (.int .u64 b) := by rw [h]
theorem ret_bool {a b : Bool} (h : a = b) : Ending.returned (.bool a) = .returned (.bool b) := by rw [h]

/-! ### IsSize, Size -/
theorem size_ref (n : Int) (w : World) : Calls Try.prog 30 #[.int .i64 n] w (Ret (.bool (sizeB n)) w) := by
  unfold Ret sizeB
  go_enter Try.func30, Try.ntmps30
  go_wp2
  all_goals
    go_ret
    exact ⟨ret_bool (by simp [*]), rfl⟩
theorem size_words (n : Int) (w : World) : Calls Try.prog 44 #[.int .i64 n] w (Ret (.bool (sizeB n)) w) := by
  unfold Ret sizeB
  go_enter Try.func44, Try.ntmps44
  go_wp2
  all_goals
    go_ret
    exact ⟨ret_bool (by simp [*]), rfl⟩

/-! ### Power -/
/-! ### Low -/
/-! ### Zext -/
theorem sizeB_not {n : Int} (h1 : n ≠ 1) (h2 : n ≠ 2) (h4 : n ≠ 4) (h8 : n ≠ 8) : sizeB n = false := by
  simp [sizeB, h1, h2, h4, h8]
theorem sizeB_1 : sizeB 1 = true := rfl
theorem sizeB_2 : sizeB 2 = true := rfl
theorem sizeB_4 : sizeB 4 = true := rfl
theorem sizeB_8 : sizeB 8 = true := rfl
theorem and_low (x : Int) (h0 : 0 ≤ x) (h1 : x ≤ 18446744073709551615) (m : Nat) (hm : m ≤ 63) : bits BinOp.and IntKind.u64 x (2 ^ m - 1) = x % 2 ^ m := by
  have hp := pow_le63 hm
  obtain ⟨y, rfl⟩ := Int.eq_ofNat_of_zero_le h0
  rw [u64_and y _ h0 (by omega) (by omega) (by omega)]
  have e : ((2 : Int) ^ m - 1).toNat = 2 ^ m - 1 := by
    have : ((2 : Int) ^ m) = ((2 ^ m : Nat) : Int) := by simp
    rw [this]; omega
  rw [e, Nat.and_two_pow_sub_one_eq_mod]
  simp
theorem and_all (x : Int) (h0 : 0 ≤ x) (h1 : x ≤ 18446744073709551615) : bits BinOp.and IntKind.u64 x 18446744073709551615 = x := by
  obtain ⟨y, rfl⟩ := Int.eq_ofNat_of_zero_le h0
  rw [u64_and y _ h0 (by omega) (by omega) (by omega)]
  have e : (18446744073709551615 : Int).toNat = 2 ^ 64 - 1 := by decide
  rw [e, Nat.and_two_pow_sub_one_eq_mod]
  simp; omega
/-! ### Sext -/
end Go.Proofs.Ytcdpmggjdmibjaa
