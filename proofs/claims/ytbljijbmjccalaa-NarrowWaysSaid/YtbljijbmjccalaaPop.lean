/-
  Proved here: bits.OnesCount64 returns how many bits are 1. Conditions: none.
-/
import Derived.Test.YtbljijbmjccalaaPopBv
import Derived.Test.YtbljijbmjccalaaInts
import Derived.Lib.Hide
import Derived.Laws.Bits128
namespace Go.Proofs.Ytbljijbmjccalaa
open Go.RowKit
theorem wrap_nat {n : Nat} (h : n < 18446744073709551616) : IntKind.u64.wrap (n : Int) = n := by
  rw [wrap_u]; omega
theorem and_nat {a b : Nat} (ha : a < 18446744073709551616) (hb : b < 18446744073709551616) : bits .and .u64 (a : Int) (b : Int) = ((a &&& b : Nat) : Int) := u64_and_nat a b ha hb
theorem and_le_nat (a b : Nat) : a &&& b ≤ b := Nat.and_le_right
theorem pop_int1 {n : Nat} (h : n < 18446744073709551616) (hs : pop1 n < 18446744073709551616) :
    IntKind.u64.wrap (bits .and .u64 ((n : Int) / 2) 6148914691236517205 + bits .and .u64 (n : Int) 6148914691236517205) = (pop1 n : Int) := by
  have e : ((n : Int) / 2) = ((n / 2 : Nat) : Int) := by omega
  rw [e, show (6148914691236517205 : Int) = ((6148914691236517205 : Nat) : Int) from rfl, and_nat (by omega) (by decide), and_nat h (by decide), ← Int.natCast_add]
  exact wrap_nat hs
theorem pop_int2 {n : Nat} (h : n < 18446744073709551616) (hs : pop2 n < 18446744073709551616) :
    IntKind.u64.wrap (bits .and .u64 ((n : Int) / 4) 3689348814741910323 + bits .and .u64 (n : Int) 3689348814741910323) = (pop2 n : Int) := by
  have e : ((n : Int) / 4) = ((n / 4 : Nat) : Int) := by omega
  rw [e, show (3689348814741910323 : Int) = ((3689348814741910323 : Nat) : Int) from rfl, and_nat (by omega) (by decide), and_nat h (by decide), ← Int.natCast_add]
  exact wrap_nat hs
theorem pop_int3 {n : Nat} (h : n < 4919131752989213765) :
    bits .and .u64 (IntKind.u64.wrap ((n : Int) / 16 + n)) 1085102592571150095 = (pop3 n : Int) := by
  have e : ((n : Int) / 16 + n) = ((n / 16 + n : Nat) : Int) := by omega
  rw [e, wrap_nat (by omega), show (1085102592571150095 : Int) = ((1085102592571150095 : Nat) : Int) from rfl, and_nat (by omega) (by decide)]
  rfl
theorem pop_int4 {y3 r : Nat} (h : y3 < 1000000000000000000) (q6 : (y3 + y3 / 256 + (y3 + y3 / 256) / 65536 + (y3 + y3 / 256 + (y3 + y3 / 256) / 65536) / 4294967296) % 128 = r) :
    ∃ y4 y5 : Int, IntKind.u64.wrap ((y3 : Int) + (y3 : Int) / 256) = y4 ∧ IntKind.u64.wrap (y4 + y4 / 65536) = y5 ∧ IntKind.i64.wrap (IntKind.u64.wrap (y5 + y5 / 4294967296)) % 128 = (r : Int) := by
  refine ⟨((y3 + y3 / 256 : Nat) : Int), _, ?_, rfl, ?_⟩
  · rw [show ((y3 : Int) + (y3 : Int) / 256) = ((y3 + y3 / 256 : Nat) : Int) by omega]
    exact wrap_nat (by omega)
  · have h4 : y3 + y3 / 256 < 1100000000000000000 := by omega
    generalize y3 + y3 / 256 = y4 at q6 h4 ⊢
    have h5 : y4 + y4 / 65536 < 1200000000000000000 := by omega
    rw [show ((y4 : Int) + (y4 : Int) / 65536) = ((y4 + y4 / 65536 : Nat) : Int) by omega, wrap_nat (n := y4 + y4 / 65536) (by omega)]
    generalize y4 + y4 / 65536 = y5 at q6 h5 ⊢
    have h6 : y5 + y5 / 4294967296 < 1300000000000000000 := by omega
    rw [show ((y5 : Int) + (y5 : Int) / 4294967296) = ((y5 + y5 / 4294967296 : Nat) : Int) by omega, wrap_nat (n := y5 + y5 / 4294967296) (by omega)]
    generalize y5 + y5 / 4294967296 = y6 at q6 h6 ⊢
    rw [show IntKind.i64.wrap (y6 : Int) = ((y6 : Int) + 9223372036854775808) % 18446744073709551616 - 9223372036854775808 by simp [IntKind.wrap, IntKind.bits, IntKind.signed]; omega]
    omega
set_option maxHeartbeats 4000000 in
theorem ones_call (x : B64) (w : World) : Calls Try.prog 42 #[.int .u64 (u x)] w (Ret (.int .i64 (ones x.toNat)) w) := by
  obtain ⟨q1, q2, q3, q4⟩ := pops x.toNat x.isLt
  have r1 := pop_int1 (n := x.toNat) x.isLt q1
  have r2 := pop_int2 q1 (by omega)
  have r3 := pop_int3 q2
  obtain ⟨q5, q6⟩ := pop_end _ q3
  rw [q4] at q6
  generalize pop3 (pop2 (pop1 x.toNat)) = y3 at r3 q5 q6
  generalize pop2 (pop1 x.toNat) = y2 at r2 r3
  generalize pop1 x.toNat = y1 at r1 r2
  generalize ones x.toNat = r at q6 ⊢
  have e0 : u x = (x.toNat : Int) := rfl
  rw [e0]
  generalize x.toNat = n at r1 ⊢
  obtain ⟨y4, y5, r4, r5, r6⟩ := pop_int4 q5 q6
  rw [← i64_and127, IntWalk.i64_left] at r6
  clear q1 q2 q3 q4 q5 q6 e0
  unfold Ret
  go_enter Try.func42, Try.ntmps42
  go_wp2
  go_ret
  exact ⟨rfl, rfl⟩
end Go.Proofs.Ytbljijbmjccalaa
