/-
  Proved here: 64-bit numbers as vectors of bits, and what the model's operations on them are; a number made of bits, from the lowest on. No Go text is spoken of. Conditions: none.
-/
import Derived.WalkKit
import Derived.IntWalk
import Derived.Laws.BitsAllLaws
namespace Go.Proofs.Ytbljijbmjccalaa
open Go.RowKit

abbrev B64 := BitVec 64
/-- The number that a vector of bits is. -/
def u (x : B64) : Int := (x.toNat : Int)
theorem u_bd (x : B64) : 0 ≤ u x ∧ u x ≤ 18446744073709551615 := by
  unfold u
  have := x.isLt
  omega
theorem u_of {n : Int} (h0 : 0 ≤ n) (h1 : n ≤ 18446744073709551615) : ∃ x : B64, n = u x := by
  obtain ⟨k, rfl⟩ := Int.eq_ofNat_of_zero_le h0
  exact ⟨BitVec.ofNat 64 k, by unfold u; rw [BitVec.toNat_ofNat, Nat.mod_eq_of_lt (by omega)]⟩
theorem u_inj {x y : B64} (h : u x = u y) : x = y := by
  unfold u at h
  exact BitVec.eq_of_toNat_eq (by omega)
theorem u_iff (x y : B64) : u x = u y ↔ x = y := ⟨u_inj, fun h => by rw [h]⟩
theorem u_dec (x y : B64) : decide (u x = u y) = decide (x = y) := decide_eq_decide.2 (u_iff x y)
theorem u_beq (x y : B64) : (u x == u y) = (x == y) := by
  rw [Bool.eq_iff_iff]
  simp [u_iff]
theorem u_0 : u 0#64 = 0 := rfl
theorem u_all : u (~~~0#64) = 18446744073709551615 := by decide
theorem u_ofInt (x : B64) : BitVec.ofInt 64 (u x) = x := by
  apply BitVec.eq_of_toNat_eq
  unfold u
  rw [ofInt_u64 _ x.isLt]
theorem u_and (x y : B64) : bits .and .u64 (u x) (u y) = u (x &&& y) := by
  unfold u
  rw [u64_and_nat _ _ x.isLt y.isLt, BitVec.toNat_and]
theorem u_or (x y : B64) : bits .or .u64 (u x) (u y) = u (x ||| y) := by
  unfold u
  rw [u64_or_nat _ _ x.isLt y.isLt, BitVec.toNat_or]
theorem u_xor (x y : B64) : bits .xor .u64 (u x) (u y) = u (x ^^^ y) := by
  unfold u
  rw [u64_xor_nat _ _ x.isLt y.isLt, BitVec.toNat_xor]
theorem u_andNot (x y : B64) : bits .andNot .u64 (u x) (u y) = u (x &&& ~~~y) := by
  unfold u
  rw [u64_andNot_nat _ _ x.isLt y.isLt, BitVec.toNat_and, BitVec.toNat_not]
theorem wrap_u (n : Int) : IntKind.u64.wrap n = n % 18446744073709551616 := by simp [IntKind.wrap, IntKind.bits, IntKind.signed]
theorem u_add (x y : B64) : IntKind.u64.wrap (u x + u y) = u (x + y) := by
  rw [wrap_u]
  unfold u
  rw [BitVec.toNat_add]
  omega
theorem u_sub (x y : B64) : IntKind.u64.wrap (u x - u y) = u (x - y) := by
  rw [wrap_u]
  unfold u
  rw [BitVec.toNat_sub]
  have := x.isLt
  have := y.isLt
  omega

/-! ### A number made of bits -/
/-- The sum of the first k bits' worth. -/
def sumB (f : Nat → Bool) : Nat → Nat
  | 0 => 0
  | k + 1 => sumB f k + if f k then 2 ^ k else 0
theorem sumB_lt (f : Nat → Bool) : ∀ k, sumB f k < 2 ^ k
  | 0 => by simp [sumB]
  | k + 1 => by
    have := sumB_lt f k
    unfold sumB
    rw [Nat.pow_succ]
    split <;> omega
theorem sumB_bit (f : Nat → Bool) : ∀ k i, i < k → (sumB f k).testBit i = f i
  | 0, i, h => by omega
  | k + 1, i, h => by
    have hl := sumB_lt f k
    unfold sumB
    by_cases e : i = k
    · subst e
      by_cases hf : f i = true
      · rw [if_pos hf, hf, Nat.add_comm, Nat.testBit_two_pow_add_eq, Nat.testBit_lt_two_pow hl]
        rfl
      · rw [if_neg hf, Nat.add_zero, Nat.testBit_lt_two_pow hl]
        simpa using hf
    · have hi : i < k := by omega
      by_cases hf : f k = true
      · rw [if_pos hf, Nat.add_comm, Nat.testBit_two_pow_add_gt hi, sumB_bit f k i hi]
      · rw [if_neg hf, Nat.add_zero, sumB_bit f k i hi]
theorem sumB_congr {f g : Nat → Bool} : ∀ k, (∀ i, i < k → f i = g i) → sumB f k = sumB g k
  | 0, _ => rfl
  | k + 1, h => by
    unfold sumB
    rw [sumB_congr k (fun i hi => h i (by omega)), h k (by omega)]
/-- The number whose bits these are. -/
def ofB (f : Nat → Bool) : B64 := BitVec.ofNat 64 (sumB f 64)
theorem ofB_bit (f : Nat → Bool) (i : Nat) (h : i < 64) : (ofB f).getLsbD i = f i := by
  unfold ofB
  rw [BitVec.getLsbD_ofNat, sumB_bit f 64 i h]
  simp [h]
theorem ofB_eq (f : Nat → Bool) (x : B64) (h : ∀ i, i < 64 → f i = x.getLsbD i) : ofB f = x := by
  apply BitVec.eq_of_getLsbD_eq
  intro i hi
  rw [ofB_bit f i hi, h i hi]
theorem u_ofB (f : Nat → Bool) : u (ofB f) = (sumB f 64 : Int) := by
  unfold u ofB
  rw [BitVec.toNat_ofNat, Nat.mod_eq_of_lt (sumB_lt f 64)]

/-! ### A pattern's bits -/
/-- May bit number i be 0? -/
def bz (v m : B64) (i : Nat) : Bool := m.getLsbD i || !v.getLsbD i
/-- May it be 1? -/
def bo (v m : B64) (i : Nat) : Bool := m.getLsbD i || v.getLsbD i
/-- Of bits that may be: those that may be both. -/
def maskB (z o : Nat → Bool) : B64 := ofB fun i => z i && o i
/-- Those that are 1. -/
def valB (z o : Nat → Bool) : B64 := ofB fun i => !z i && o i
end Go.Proofs.Ytbljijbmjccalaa
