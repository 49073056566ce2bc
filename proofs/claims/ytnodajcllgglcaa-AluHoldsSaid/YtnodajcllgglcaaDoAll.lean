/-
  Proved here: what Do of package alu tells, of every number. Conditions: an operation's number is a uint8, the two others are uint64.
-/
import Derived.Test.YtnodajcllgglcaaDoA
import Derived.Test.YtnodajcllgglcaaDoB
import Derived.Test.YtnodajcllgglcaaDoC
namespace Go.Proofs.Ytnodajcllgglcaa
open Go.RowKit

theorem wrap_bd (x : Int) : 0 ≤ IntKind.u64.wrap x ∧ IntKind.u64.wrap x ≤ 18446744073709551615 := by
  simp only [IntKind.wrap, IntKind.bits, IntKind.signed]
  simp
  omega
theorem bits_bd {a b : Int} (ha0 : 0 ≤ a) (ha1 : a ≤ 18446744073709551615) (hb0 : 0 ≤ b) (hb1 : b ≤ 18446744073709551615) :
    (0 ≤ bits .or .u64 a b ∧ bits .or .u64 a b ≤ 18446744073709551615) ∧ (0 ≤ bits .and .u64 a b ∧ bits .and .u64 a b ≤ 18446744073709551615) ∧ (0 ≤ bits .xor .u64 a b ∧ bits .xor .u64 a b ≤ 18446744073709551615) := by
  rw [u64_or a b (by omega) (by omega) (by omega) (by omega), u64_and a b (by omega) (by omega) (by omega) (by omega), u64_xor a b (by omega) (by omega) (by omega) (by omega)]
  have h1 : a.toNat < 2 ^ 64 := by omega
  have h2 : b.toNat < 2 ^ 64 := by omega
  have h3 := Nat.or_lt_two_pow h1 h2
  have h4 := Nat.xor_lt_two_pow h1 h2
  have h5 := Nat.and_lt_two_pow a.toNat h2
  omega
theorem div_bd {a b : Int} (ha0 : 0 ≤ a) (ha1 : a ≤ 18446744073709551615) (hb0 : 0 ≤ b) : 0 ≤ a / b ∧ a / b ≤ 18446744073709551615 := by
  have h1 := Int.ediv_nonneg ha0 hb0
  have h2 := Int.ediv_le_self b ha0
  omega
theorem mod_bd {a b : Int} (ha0 : 0 ≤ a) (ha1 : a ≤ 18446744073709551615) (hb0 : 0 ≤ b) (hb1 : b ≤ 18446744073709551615) : 0 ≤ a % b ∧ a % b ≤ 18446744073709551615 := by
  by_cases h : b = 0
  · subst h; rw [Int.emod_zero]; omega
  · have h1 := Int.emod_nonneg a h
    have h2 := Int.emod_lt_of_pos a (show 0 < b by omega)
    omega
theorem pow_nonneg2 (k : Nat) : (0 : Int) ≤ 2 ^ k := Int.le_of_lt (Int.pow_pos (by decide))

/-- What Do tells. -/
def doI (op : Int) (wide : Bool) (a b : Int) : Int := zx (opI op (zx a (szI wide)) (zx b (szI wide)) (szI wide)) (szI wide)

theorem ite_D {c : Prop} [Decidable c] {x y : Int} (hx : u64D x) (hy : u64D y) : u64D (if c then x else y) := by
  by_cases h : c
  · rw [if_pos h]; exact hx
  · rw [if_neg h]; exact hy
theorem opI_bd (op a b n : Int) (ha0 : 0 ≤ a) (ha1 : a ≤ 18446744073709551615) (hb0 : 0 ≤ b) (hb1 : b ≤ 18446744073709551615) : 0 ≤ opI op a b n ∧ opI op a b n ≤ 18446744073709551615 := by
  have hb := bits_bd ha0 ha1 hb0 hb1
  show u64D (opI op a b n)
  unfold opI
  refine ite_D ?_ (ite_D ?_ (ite_D ?_ (ite_D ?_ (ite_D ?_ (ite_D ?_ (ite_D ?_ (ite_D ?_ (ite_D ?_ (ite_D ?_ (ite_D ?_ (ite_D ?_ (ite_D ?_ ?_))))))))))))
  all_goals first
    | exact wrap_bd _
    | exact div_bd ha0 ha1 hb0
    | exact div_bd ha0 ha1 (pow_nonneg2 _)
    | exact mod_bd ha0 ha1 hb0 hb1
    | exact hb.1
    | exact hb.2.1
    | exact hb.2.2
    | exact ⟨hb0, hb1⟩
    | exact ⟨by decide, by decide⟩

theorem do_alu (op : Int) (wide : Bool) (a b : Int) (w : World) (h0 : 0 ≤ op) (h1 : op ≤ 255) (ha0 : 0 ≤ a) (ha1 : a ≤ 18446744073709551615) (hb0 : 0 ≤ b) (hb1 : b ≤ 18446744073709551615) :
    Calls Try.prog 8 #[.int .u8 op, .bool wide, .int .u64 a, .int .u64 b] w (DoPost w (doI op wide a b) (isOp op)) := by
  by_cases ho : isOp op = true
  · have hsz := szI_or wide
    obtain ⟨x0, x1⟩ := zx_bd (n := szI wide) ha0 ha1
    obtain ⟨y0, y1⟩ := zx_bd (n := szI wide) hb0 hb1
    obtain ⟨r0, r1⟩ := opI_bd op _ _ (szI wide) x0 x1 y0 y1
    simp only [isOp, Bool.or_eq_true, beq_iff_eq, or_assoc] at ho
    unfold doI
    obtain rfl | rfl | rfl | rfl | rfl | rfl | rfl | rfl | rfl | rfl | rfl | rfl | rfl := ho
    · exact do_18 0 0 wide a b _ w ha0 ha1 hb0 hb1 rfl r0 r1 (fun w => add_alu _ _ _ w)
    · exact do_19 16 1 wide a b _ w ha0 ha1 hb0 hb1 rfl r0 r1 (fun w => sub_alu _ _ _ w)
    · exact do_20 32 2 wide a b _ w ha0 ha1 hb0 hb1 rfl r0 r1 (fun w => mul_alu _ _ _ w)
    · exact do_21 48 3 wide a b _ w ha0 ha1 hb0 hb1 rfl r0 r1 (fun w => quo_alu _ _ _ w x0 x1 y0 y1)
    · exact do_22 64 4 wide a b _ w ha0 ha1 hb0 hb1 rfl r0 r1 (fun w => or_alu _ _ _ w)
    · exact do_23 80 5 wide a b _ w ha0 ha1 hb0 hb1 rfl r0 r1 (fun w => and_alu _ _ _ w)
    · exact do_24 96 6 wide a b _ w ha0 ha1 hb0 hb1 rfl r0 r1 (fun w => lsh_alu _ _ _ w y0 y1 hsz)
    · exact do_26 112 7 wide a b _ w ha0 ha1 hb0 hb1 rfl r0 r1 (fun w => rsh_alu _ _ _ w y0 y1 hsz)
    · exact do_27 128 8 wide a b _ w ha0 ha1 hb0 hb1 rfl r0 r1 (fun w => neg_alu _ _ _ w)
    · exact do_28 144 9 wide a b _ w ha0 ha1 hb0 hb1 rfl r0 r1 (fun w => rest_alu _ _ _ w x0 x1 y0 y1)
    · exact do_29 160 10 wide a b _ w ha0 ha1 hb0 hb1 rfl r0 r1 (fun w => xor_alu _ _ _ w)
    · exact do_30 176 11 wide a b _ w ha0 ha1 hb0 hb1 rfl r0 r1 (fun w => mov_alu _ _ _ w)
    · exact do_31 192 12 wide a b _ w ha0 ha1 hb0 hb1 rfl r0 r1 (fun w => arsh_alu _ _ _ w x0 x1 y0 y1 hsz)
  · have ho' : isOp op = false := by simpa using ho
    have e : doI op wide a b = 0 := by
      have e2 : opI op (zx a (szI wide)) (zx b (szI wide)) (szI wide) = 0 := by
        simp only [isOp, Bool.or_eq_false_iff, beq_eq_false_iff_ne, ne_eq, and_assoc] at ho'
        obtain ⟨g1, g2, g3, g4, g5, g6, g7, g8, g9, g10, g11, g12, g13⟩ := ho'
        simp [opI, *]
      unfold doI
      rw [e2]
      cases wide <;> rfl
    rw [e, ho']
    exact do_none op wide a b w h0 h1 ho'
end Go.Proofs.Ytnodajcllgglcaa
