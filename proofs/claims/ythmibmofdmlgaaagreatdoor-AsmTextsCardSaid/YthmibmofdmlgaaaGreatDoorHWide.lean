import Derived.Test.YthmibmofdmlgaaaGreatDoorG01
import Derived.Deep.QuietTactic
import Derived.BigQuiet
import Derived.RowKit3
import Derived.Below
import Derived.Lib.Hide
import Derived.Deep.Draws
/-
  Proved here: what Wide and Pair of package inst, and Wide of the document's answers, return. Conditions: the fields fit their kinds.
-/
namespace Go.Proofs.YthmibmofdmlgaaaGreatDoor
open Go.RowKit

theorem ret_same {k : FuncId} {args : Array Value} {v : Value} {w : World} (h : Calls Tryz.prog k args w (Ret v w)) : Calls Tryz.prog k args w fun e w' => e = .returned v ∧ w' = w :=
  h.mono fun _ _ h => ⟨h.1, h.2.symm⟩
theorem ret_add {k : FuncId} {args : Array Value} {v : Value} {w : World} {a n : Nat} (h : Calls Tryz.prog k args (w.drewN (a + n)) (Ret v (w.drewN (a + n)))) :
    Calls Tryz.prog k args (w.drewN (a + n)) fun e w' => e = .returned v ∧ ∃ m, w' = w.drewN (a + m) :=
  h.mono fun _ _ h => ⟨h.1, n, h.2.symm⟩
theorem below_drews {B : Nat} {a w : World} (h : Below B a w) (n : Nat) : Below B a (w.drewN n) := ⟨h.os, h.tape, h.output, h.size, h.block⟩
theorem u64_mod (m : Int) : IntKind.u64.wrap m = m % 18446744073709551616 := by
  simp [IntKind.wrap, IntKind.bits, IntKind.signed]
/-- A number as a uint64. -/
theorem u64_of (m : Int) : ∃ u, IntKind.u64.wrap m = u ∧ 0 ≤ u ∧ u ≤ 18446744073709551615 ∧ u = m % 18446744073709551616 :=
  ⟨_, rfl, by rw [u64_mod]; omega, by rw [u64_mod]; omega, u64_mod m⟩
theorem zx4 (x : Int) : zx x 4 = x % 4294967296 := by simp [zx]
theorem or_high (a z : Int) (a0 : 0 ≤ a) (a1 : a < 4294967296) (z0 : 0 ≤ z) (z1 : z < 4294967296) : bits BinOp.or IntKind.u64 a (z * 4294967296) = a + z * 4294967296 := by
  obtain ⟨a, rfl⟩ := Int.eq_ofNat_of_zero_le a0
  obtain ⟨z, rfl⟩ := Int.eq_ofNat_of_zero_le z0
  have e2 : ((z : Int) * 4294967296) = ((z * 4294967296 : Nat) : Int) := by simp
  rw [e2, u64_or_nat _ _ (by omega) (by omega)]
  have e := Nat.two_pow_add_eq_or_of_lt (i := 32) (b := a) (by omega) z
  rw [Nat.or_comm, Nat.mul_comm z, show 4294967296 = 2 ^ 32 by rfl, ← e]
  simp; omega
theorem wide_num {m m' u v : Int} (hu : u = m % 18446744073709551616) (hv : v = m' % 18446744073709551616) :
    bits BinOp.or IntKind.u64 (zx u 4) (IntKind.u64.wrap (v * 4294967296)) = m % 4294967296 + m' % 4294967296 * 4294967296 := by
  have e : IntKind.u64.wrap (v * 4294967296) = m' % 4294967296 * 4294967296 := by rw [u64_mod]; omega
  rw [e, zx4, or_high _ _ (by omega) (by omega) (by omega) (by omega)]
  omega
theorem wide_num2 {m m' u v : Int} (hu : u = m % 18446744073709551616) (hv : v = m' % 18446744073709551616) :
    IntKind.u64.wrap (zx u 4 + IntKind.u64.wrap (4294967296 * zx v 4)) = m % 4294967296 + m' % 4294967296 * 4294967296 := by
  rw [u64_mod, u64_mod, zx4, zx4]
  omega
theorem wide_inst (o d s f m o' d' s' f' m' : Int) (w : World) :
    Calls Tryz.prog 44 #[insV o d s f m, insV o' d' s' f' m'] w fun e w' => e = .returned (.int .u64 (m % 4294967296 + m' % 4294967296 * 4294967296)) ∧ Below w.heap.size w w' := by
  obtain ⟨u, hu, u0, u1, hum⟩ := u64_of m
  obtain ⟨v, hv, v0, v1, hvm⟩ := u64_of m'
  have HU := Lib.hid hum
  have HV := Lib.hid hvm
  clear hum hvm
  unfold insV
  go_enter Tryz.func44, Tryz.ntmps44
  go_wp2
  go_quiet ((go_at_call 60; exact Calls.quiet_of_same (ret_same (zext_words _ _ _ (by omega) (by omega)))))
  go_wp2
  go_ret
  exact ⟨ret_u64 (wide_num HU.out HV.out), below_drews (((Below.refl _ _).alloc (Nat.le_refl _) _).alloc (by simp) _) _⟩
theorem wide_ref (o d s f m o' d' s' f' m' : Int) (w : World) (h : -2147483648 ≤ m ∧ m ≤ 2147483647) (h' : -2147483648 ≤ m' ∧ m' ≤ 2147483647) :
    Calls Tryz.prog 27 #[insV o d s f m, insV o' d' s' f' m'] w fun e w' => e = .returned (.int .u64 (m % 4294967296 + m' % 4294967296 * 4294967296)) ∧ Below w.heap.size w w' := by
  obtain ⟨u, hu, u0, u1, hum⟩ := u64_of m
  obtain ⟨v, hv, v0, v1, hvm⟩ := u64_of m'
  have HU := Lib.hid hum
  have HV := Lib.hid hvm
  clear hum hvm
  unfold insV
  go_enter Tryz.func27, Tryz.ntmps27
  go_wp2
  go_quiet ((go_at_call 47; first | exact Calls.quiet_of_same (ret_same (zext_ref _ _ _ (by omega) (by omega)))))
  go_wp2
  go_ret
  exact ⟨ret_u64 (wide_num2 HU.out HV.out), below_drews (((Below.refl _ _).alloc (Nat.le_refl _) _).alloc (by simp) _) _⟩
/-- Two instructions as an array's value. -/
def pairV (o d s f m o' d' s' f' m' : Int) : Value := .agg #[.int .u8 o, .int .u8 d, .int .u8 s, .int .i16 f, .int .i32 m, .int .u8 o', .int .u8 d', .int .u8 s', .int .i16 f', .int .i32 m']
end Go.Proofs.YthmibmofdmlgaaaGreatDoor
