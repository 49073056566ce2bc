/-
  Proved here: what the conditions of package alu, which are closures over their numbers, tell. Conditions: numbers are uint64.
-/
import Derived.Test.YtnodajcllgglcaaOps
import Derived.Test.YtnodajcllgglcaaOpen
import Derived.Below
import Derived.BigQuiet
namespace Go.Proofs.Ytnodajcllgglcaa
open Go.RowKit
theorem ret_same {k : FuncId} {args : Array Value} {v : Value} {w : World} (h : Calls Try.prog k args w (Ret v w)) : Calls Try.prog k args w fun e w' => e = .returned v ∧ w' = w :=
  h.mono fun _ _ h => ⟨h.1, h.2.symm⟩
theorem ret_add {k : FuncId} {args : Array Value} {v : Value} {w : World} {a n : Nat} (h : Calls Try.prog k args (w.drewN (a + n)) (Ret v (w.drewN (a + n)))) :
    Calls Try.prog k args (w.drewN (a + n)) fun e w' => e = .returned v ∧ ∃ m, w' = w.drewN (a + m) :=
  h.mono fun _ _ h => ⟨h.1, n, h.2.symm⟩
theorem below_drews {B : Nat} {a w : World} (h : Below B a w) (n : Nat) : Below B a (w.drewN n) := ⟨h.os, h.tape, h.output, h.size, h.block⟩
theorem jeq_c (a b : Int) (A B : Addr) (w : World) (ha : w.cell? A = some (.int .u64 a)) (hb : w.cell? B = some (.int .u64 b)) :
    Calls Try.prog 36 #[.pointer (some A), .pointer (some B)] w fun e w' => e = .returned (.bool (a == b)) ∧ Below w.heap.size w w' := by
  go_enter Try.func36, Try.ntmps36
  go_wp2
  go_ret
  exact ⟨rfl, Below.refl _ _⟩
theorem jne_c (a b : Int) (A B : Addr) (w : World) (ha : w.cell? A = some (.int .u64 a)) (hb : w.cell? B = some (.int .u64 b)) :
    Calls Try.prog 37 #[.pointer (some A), .pointer (some B)] w fun e w' => e = .returned (.bool (a != b)) ∧ Below w.heap.size w w' := by
  go_enter Try.func37, Try.ntmps37
  go_wp2
  go_ret
  exact ⟨rfl, Below.refl _ _⟩
theorem jgt_c (a b : Int) (A B : Addr) (w : World) (ha : w.cell? A = some (.int .u64 a)) (hb : w.cell? B = some (.int .u64 b)) :
    Calls Try.prog 38 #[.pointer (some A), .pointer (some B)] w fun e w' => e = .returned (.bool (decide (b < a))) ∧ Below w.heap.size w w' := by
  go_enter Try.func38, Try.ntmps38
  go_wp2
  go_ret
  exact ⟨rfl, Below.refl _ _⟩
theorem jge_c (a b : Int) (A B : Addr) (w : World) (ha : w.cell? A = some (.int .u64 a)) (hb : w.cell? B = some (.int .u64 b)) :
    Calls Try.prog 39 #[.pointer (some A), .pointer (some B)] w fun e w' => e = .returned (.bool (decide (b ≤ a))) ∧ Below w.heap.size w w' := by
  go_enter Try.func39, Try.ntmps39
  go_wp2
  go_ret
  exact ⟨rfl, Below.refl _ _⟩
theorem jlt_c (a b : Int) (A B : Addr) (w : World) (ha : w.cell? A = some (.int .u64 a)) (hb : w.cell? B = some (.int .u64 b)) :
    Calls Try.prog 40 #[.pointer (some A), .pointer (some B)] w fun e w' => e = .returned (.bool (decide (a < b))) ∧ Below w.heap.size w w' := by
  go_enter Try.func40, Try.ntmps40
  go_wp2
  go_ret
  exact ⟨rfl, Below.refl _ _⟩
theorem jle_c (a b : Int) (A B : Addr) (w : World) (ha : w.cell? A = some (.int .u64 a)) (hb : w.cell? B = some (.int .u64 b)) :
    Calls Try.prog 41 #[.pointer (some A), .pointer (some B)] w fun e w' => e = .returned (.bool (decide (a ≤ b))) ∧ Below w.heap.size w w' := by
  go_enter Try.func41, Try.ntmps41
  go_wp2
  go_ret
  exact ⟨rfl, Below.refl _ _⟩
theorem jset_c (a b : Int) (A B : Addr) (w : World) (ha : w.cell? A = some (.int .u64 a)) (hb : w.cell? B = some (.int .u64 b)) :
    Calls Try.prog 46 #[.pointer (some A), .pointer (some B)] w fun e w' => e = .returned (.bool (bits .and .u64 a b != 0)) ∧ Below w.heap.size w w' := by
  go_enter Try.func46, Try.ntmps46
  go_wp2
  go_ret
  exact ⟨rfl, Below.refl _ _⟩
theorem jsgt_c (a b n : Int) (A B C : Addr) (w : World) (a0 : 0 ≤ a) (a1 : a ≤ 18446744073709551615) (b0 : 0 ≤ b) (b1 : b ≤ 18446744073709551615) (ha : w.cell? A = some (.int .u64 a)) (hb : w.cell? B = some (.int .u64 b)) (hc : w.cell? C = some (.int .i64 n)) :
    Calls Try.prog 42 #[.pointer (some A), .pointer (some C), .pointer (some B)] w fun e w' => e = .returned (.bool (decide (sgI b n < sgI a n))) ∧ Below w.heap.size w w' := by
  go_enter Try.func42, Try.ntmps42
  go_wp2
  go_quiet ((go_at_call 32; exact Calls.quiet_of_same (ret_same (signed_alu _ _ _ (by omega) (by omega)))))
  go_wp2
  go_ret
  exact ⟨rfl, below_drews (Below.refl _ _) _⟩
theorem jsge_c (a b n : Int) (A B C : Addr) (w : World) (a0 : 0 ≤ a) (a1 : a ≤ 18446744073709551615) (b0 : 0 ≤ b) (b1 : b ≤ 18446744073709551615) (ha : w.cell? A = some (.int .u64 a)) (hb : w.cell? B = some (.int .u64 b)) (hc : w.cell? C = some (.int .i64 n)) :
    Calls Try.prog 43 #[.pointer (some A), .pointer (some C), .pointer (some B)] w fun e w' => e = .returned (.bool (decide (sgI b n ≤ sgI a n))) ∧ Below w.heap.size w w' := by
  go_enter Try.func43, Try.ntmps43
  go_wp2
  go_quiet ((go_at_call 32; exact Calls.quiet_of_same (ret_same (signed_alu _ _ _ (by omega) (by omega)))))
  go_wp2
  go_ret
  exact ⟨rfl, below_drews (Below.refl _ _) _⟩
theorem jslt_c (a b n : Int) (A B C : Addr) (w : World) (a0 : 0 ≤ a) (a1 : a ≤ 18446744073709551615) (b0 : 0 ≤ b) (b1 : b ≤ 18446744073709551615) (ha : w.cell? A = some (.int .u64 a)) (hb : w.cell? B = some (.int .u64 b)) (hc : w.cell? C = some (.int .i64 n)) :
    Calls Try.prog 44 #[.pointer (some A), .pointer (some C), .pointer (some B)] w fun e w' => e = .returned (.bool (decide (sgI a n < sgI b n))) ∧ Below w.heap.size w w' := by
  go_enter Try.func44, Try.ntmps44
  go_wp2
  go_quiet ((go_at_call 32; exact Calls.quiet_of_same (ret_same (signed_alu _ _ _ (by omega) (by omega)))))
  go_wp2
  go_ret
  exact ⟨rfl, below_drews (Below.refl _ _) _⟩
theorem jsle_c (a b n : Int) (A B C : Addr) (w : World) (a0 : 0 ≤ a) (a1 : a ≤ 18446744073709551615) (b0 : 0 ≤ b) (b1 : b ≤ 18446744073709551615) (ha : w.cell? A = some (.int .u64 a)) (hb : w.cell? B = some (.int .u64 b)) (hc : w.cell? C = some (.int .i64 n)) :
    Calls Try.prog 45 #[.pointer (some A), .pointer (some C), .pointer (some B)] w fun e w' => e = .returned (.bool (decide (sgI a n ≤ sgI b n))) ∧ Below w.heap.size w w' := by
  go_enter Try.func45, Try.ntmps45
  go_wp2
  go_quiet ((go_at_call 32; exact Calls.quiet_of_same (ret_same (signed_alu _ _ _ (by omega) (by omega)))))
  go_wp2
  go_ret
  exact ⟨rfl, below_drews (Below.refl _ _) _⟩
end Go.Proofs.Ytnodajcllgglcaa
