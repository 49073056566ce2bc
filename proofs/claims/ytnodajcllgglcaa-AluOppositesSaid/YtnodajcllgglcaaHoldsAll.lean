/-
  Proved here: what Holds of package alu, and of the document's answers, tell: one closed answer. Conditions: an operation's number is a uint8, the two others are uint64.
-/
import Derived.Test.YtnodajcllgglcaaHoldsA
import Derived.Test.YtnodajcllgglcaaHoldsB
import Derived.Test.YtnodajcllgglcaaHoldsC
import Derived.Test.YtnodajcllgglcaaRefHoldsA
import Derived.Test.YtnodajcllgglcaaRefHoldsB
import Derived.Test.YtnodajcllgglcaaRefHoldsC
namespace Go.Proofs.Ytnodajcllgglcaa
open Go.RowKit

/-- Does a condition hold of numbers that are cut to n bytes? -/
def condI (op x y n : Int) : Bool :=
  if op = 16 then x == y else if op = 80 then x != y else if op = 32 then decide (y < x) else if op = 48 then decide (y ≤ x) else if op = 160 then decide (x < y) else if op = 176 then decide (x ≤ y)
  else if op = 64 then bits .and .u64 x y != 0 else if op = 96 then decide (sgI y n < sgI x n) else if op = 112 then decide (sgI y n ≤ sgI x n)
  else if op = 192 then decide (sgI x n < sgI y n) else if op = 208 then decide (sgI x n ≤ sgI y n) else false
def holdI (op : Int) (wide : Bool) (a b : Int) : Bool := condI op (zx a (szI wide)) (zx b (szI wide)) (szI wide)
def HoldPost (w : World) (r ok : Bool) (e : Ending) (w' : World) : Prop := e = .returned (.tuple #[.bool r, .bool ok]) ∧ Below w.heap.size w w'

theorem holds_none (op : Int) (ho : isCond op = false) (wide : Bool) (a b : Int) (w : World) (ha0 : 0 ≤ a) (ha1 : a ≤ 18446744073709551615) (hb0 : 0 ≤ b) (hb1 : b ≤ 18446744073709551615) :
    Calls Try.prog 10 #[.int .u8 op, .bool wide, .int .u64 a, .int .u64 b] w (HoldPost w false false) := by
  unfold HoldPost
  obtain ⟨x0, x1⟩ := zx_bd (n := szI wide) ha0 ha1
  obtain ⟨y0, y1⟩ := zx_bd (n := szI wide) hb0 hb1
  obtain ⟨n, hn⟩ : ∃ n, szI wide = n := ⟨_, rfl⟩
  rw [hn] at x0 x1 y0 y1
  generalize hx : zx a n = x at *
  generalize hy : zx b n = y at *
  have hc := cond_none x y n w op ho
  have HW := Lib.hid (boxes_below w x y n)
  generalize hW : boxes w x y n = W at *
  have HN := Lib.hid hn
  have HX := Lib.hid hx
  have HY := Lib.hid hy
  clear hn hx hy hW ho
  have hq := nil_nil
  go_enter Try.func10, Try.ntmps10
  go_wp2_with (first
    | (go_at_call 13; refine (size_alu _ _).mono ?_; rintro e w' ⟨rfl, rfl⟩; rw [HN.out])
    | (go_at_call 14; refine (zext_words _ _ _ (by assumption) (by assumption)).mono ?_; rintro e w' ⟨rfl, rfl⟩; first | rw [HX.out] | rw [HY.out])
    | (go_at_call 17; refine hc.mono ?_; rintro e w' ⟨rfl, rfl⟩))
  go_ret2
  exact ⟨rfl, HW.out⟩
theorem holdI_none {op : Int} (wide : Bool) (a b : Int) (h : isCond op = false) : holdI op wide a b = false := by
  simp only [isCond, Bool.or_eq_false_iff, beq_eq_false_iff_ne, ne_eq, and_assoc] at h
  obtain ⟨g1, g2, g3, g4, g5, g6, g7, g8, g9, g10, g11⟩ := h
  simp [holdI, condI, *]
theorem holds_alu (op : Int) (wide : Bool) (a b : Int) (w : World) (ha0 : 0 ≤ a) (ha1 : a ≤ 18446744073709551615) (hb0 : 0 ≤ b) (hb1 : b ≤ 18446744073709551615) :
    Calls Try.prog 10 #[.int .u8 op, .bool wide, .int .u64 a, .int .u64 b] w (HoldPost w (holdI op wide a b) (isCond op)) := by
  by_cases ho : isCond op = true
  · have hh := ho
    simp only [isCond, Bool.or_eq_true, beq_iff_eq, or_assoc] at hh
    rw [ho]
    clear ho
    obtain rfl | rfl | rfl | rfl | rfl | rfl | rfl | rfl | rfl | rfl | rfl := hh
    · exact holds_16 wide a b w ha0 ha1 hb0 hb1
    · exact holds_80 wide a b w ha0 ha1 hb0 hb1
    · exact holds_32 wide a b w ha0 ha1 hb0 hb1
    · exact holds_48 wide a b w ha0 ha1 hb0 hb1
    · exact holds_160 wide a b w ha0 ha1 hb0 hb1
    · exact holds_176 wide a b w ha0 ha1 hb0 hb1
    · exact holds_64 wide a b w ha0 ha1 hb0 hb1
    · exact holds_96 wide a b w ha0 ha1 hb0 hb1
    · exact holds_112 wide a b w ha0 ha1 hb0 hb1
    · exact holds_192 wide a b w ha0 ha1 hb0 hb1
    · exact holds_208 wide a b w ha0 ha1 hb0 hb1
  · have ho' : isCond op = false := by simpa using ho
    rw [holdI_none wide a b ho', ho']
    exact holds_none op ho' wide a b w ha0 ha1 hb0 hb1
theorem above_zero {z : Int} (h : 0 ≤ z) : (z != 0) = decide (0 < z) := by
  by_cases e : z = 0
  · subst e; rfl
  · rw [decide_eq_true (show 0 < z by omega)]
    simpa using e
theorem and_nonneg {a b : Int} (ha0 : 0 ≤ a) (ha1 : a ≤ 18446744073709551615) (hb0 : 0 ≤ b) (hb1 : b ≤ 18446744073709551615) : 0 ≤ bits .and .u64 a b := by
  rw [u64_and a b (by omega) (by omega) (by omega) (by omega)]
  omega
theorem holds_ref (op : Int) (wide : Bool) (a b : Int) (w : World) (ha0 : 0 ≤ a) (ha1 : a ≤ 18446744073709551615) (hb0 : 0 ≤ b) (hb1 : b ≤ 18446744073709551615) :
    Calls Try.prog 11 #[.int .u8 op, .bool wide, .int .u64 a, .int .u64 b] w (HoldPost w (holdI op wide a b) (isCond op)) := by
  by_cases ho : isCond op = true
  · have hh := ho
    simp only [isCond, Bool.or_eq_true, beq_iff_eq, or_assoc] at hh
    rw [ho]
    clear ho
    obtain rfl | rfl | rfl | rfl | rfl | rfl | rfl | rfl | rfl | rfl | rfl := hh
    · exact rholds_16 wide a b w ha0 ha1 hb0 hb1
    · exact rholds_80 wide a b w ha0 ha1 hb0 hb1
    · exact rholds_32 wide a b w ha0 ha1 hb0 hb1
    · exact rholds_48 wide a b w ha0 ha1 hb0 hb1
    · exact rholds_160 wide a b w ha0 ha1 hb0 hb1
    · exact rholds_176 wide a b w ha0 ha1 hb0 hb1
    · have e : holdI 64 wide a b = decide (0 < bits .and .u64 (zx a (szI wide)) (zx b (szI wide))) := above_zero (and_nonneg (zx_bd ha0 ha1).1 (zx_bd ha0 ha1).2 (zx_bd hb0 hb1).1 (zx_bd hb0 hb1).2)
      rw [e]
      exact rholds_64 wide a b w ha0 ha1 hb0 hb1
    · exact rholds_96 wide a b w ha0 ha1 hb0 hb1
    · exact rholds_112 wide a b w ha0 ha1 hb0 hb1
    · exact rholds_192 wide a b w ha0 ha1 hb0 hb1
    · exact rholds_208 wide a b w ha0 ha1 hb0 hb1
  · have ho' : isCond op = false := by simpa using ho
    rw [holdI_none wide a b ho', ho']
    exact rholds_none op ho' wide a b w ha0 ha1 hb0 hb1
end Go.Proofs.Ytnodajcllgglcaa
