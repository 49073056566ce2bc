/-
  Proved here: what Do of the document's answers tells, of every number. Conditions: an operation's number is a uint8, the two others are uint64.
-/
import Derived.Test.YtnodajcllgglcaaRefDoB
import Derived.Test.YtnodajcllgglcaaRefArsh
namespace Go.Proofs.Ytnodajcllgglcaa
open Go.RowKit

theorem doI_none {op : Int} (wide : Bool) (a b : Int) (h : isOp op = false) : doI op wide a b = 0 := by
  have e2 : opI op (zx a (szI wide)) (zx b (szI wide)) (szI wide) = 0 := by
    simp only [isOp, Bool.or_eq_false_iff, beq_eq_false_iff_ne, ne_eq, and_assoc] at h
    obtain ⟨g1, g2, g3, g4, g5, g6, g7, g8, g9, g10, g11, g12, g13⟩ := h
    simp [opI, *]
  unfold doI
  rw [e2]
  cases wide <;> rfl
theorem do_ref (op : Int) (wide : Bool) (a b : Int) (w : World) (ha0 : 0 ≤ a) (ha1 : a ≤ 18446744073709551615) (hb0 : 0 ≤ b) (hb1 : b ≤ 18446744073709551615) :
    Calls Try.prog 9 #[.int .u8 op, .bool wide, .int .u64 a, .int .u64 b] w (Ret (.tuple #[.int .u64 (doI op wide a b), .bool (isOp op)]) w) := by
  by_cases ho : isOp op = true
  · have hh := ho
    simp only [isOp, Bool.or_eq_true, beq_iff_eq, or_assoc] at hh
    rw [ho]
    clear ho
    obtain rfl | rfl | rfl | rfl | rfl | rfl | rfl | rfl | rfl | rfl | rfl | rfl | rfl := hh
    · exact ref_0 wide a b w ha0 ha1 hb0 hb1
    · exact ref_16 wide a b w ha0 ha1 hb0 hb1
    · exact ref_32 wide a b w ha0 ha1 hb0 hb1
    · exact ref_48 wide a b w ha0 ha1 hb0 hb1
    · exact ref_64 wide a b w ha0 ha1 hb0 hb1
    · exact ref_80 wide a b w ha0 ha1 hb0 hb1
    · exact ref_96 wide a b w ha0 ha1 hb0 hb1
    · exact ref_112 wide a b w ha0 ha1 hb0 hb1
    · exact ref_128 wide a b w ha0 ha1 hb0 hb1
    · exact ref_144 wide a b w ha0 ha1 hb0 hb1
    · exact ref_160 wide a b w ha0 ha1 hb0 hb1
    · exact ref_176 wide a b w ha0 ha1 hb0 hb1
    · exact ref_192 wide a b w ha0 ha1 hb0 hb1
  · have ho' : isOp op = false := by simpa using ho
    rw [doI_none wide a b ho', ho']
    exact ref_none wide a b w op ho' ha0 ha1 hb0 hb1
end Go.Proofs.Ytnodajcllgglcaa
