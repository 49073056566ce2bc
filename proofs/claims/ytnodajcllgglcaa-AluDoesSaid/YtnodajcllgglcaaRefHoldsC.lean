/-
  Proved here: what Holds of the document's answers tells of the conditions 176, 192, 208, and of a number that is none. Conditions: the numbers are uint64.
-/
import Derived.Test.YtnodajcllgglcaaCondAll
import Derived.Test.YtnodajcllgglcaaRefDo
namespace Go.Proofs.Ytnodajcllgglcaa
open Go.RowKit
theorem rholds_176 (wide : Bool) (a b : Int) (w : World) (ha0 : 0 ≤ a) (ha1 : a ≤ 18446744073709551615) (hb0 : 0 ≤ b) (hb1 : b ≤ 18446744073709551615) :
    Calls Try.prog 11 #[.int .u8 176, .bool wide, .int .u64 a, .int .u64 b] w fun e w' => e = .returned (.tuple #[.bool (decide ((zx a (szI wide)) ≤ (zx b (szI wide)))), .bool true]) ∧ Below w.heap.size w w' := by
  obtain ⟨x0, x1⟩ := zx_bd (n := szI wide) ha0 ha1
  obtain ⟨y0, y1⟩ := zx_bd (n := szI wide) hb0 hb1
  generalize hx : zx a (szI wide) = x at *
  generalize hy : zx b (szI wide) = y at *
  obtain ⟨s, hs⟩ : ∃ s, sgI x (szI wide) = s := ⟨_, rfl⟩
  obtain ⟨t, ht⟩ : ∃ t, sgI y (szI wide) = t := ⟨_, rfl⟩
  have HX := Lib.hid hx
  have HY := Lib.hid hy
  have HS := Lib.hid hs
  have HT := Lib.hid ht
  clear hx hy hs ht
  go_enter Try.func11, Try.ntmps11
  go_wp2_with (first
    | (go_at_call 15; refine (cut_ref _ _ _ (by assumption) (by assumption)).mono ?_; rintro e w' ⟨rfl, rfl⟩; first | rw [HX.out] | rw [HY.out])
    | (go_at_call 16; refine (signed_ref _ _ _ (by assumption) (by assumption)).mono ?_; rintro e w' ⟨rfl, rfl⟩; first | rw [HS.out] | rw [HT.out]))
  go_ret2
  exact ⟨rfl, Below.refl _ _⟩
theorem rholds_192 (wide : Bool) (a b : Int) (w : World) (ha0 : 0 ≤ a) (ha1 : a ≤ 18446744073709551615) (hb0 : 0 ≤ b) (hb1 : b ≤ 18446744073709551615) :
    Calls Try.prog 11 #[.int .u8 192, .bool wide, .int .u64 a, .int .u64 b] w fun e w' => e = .returned (.tuple #[.bool (decide (sgI (zx a (szI wide)) (szI wide) < sgI (zx b (szI wide)) (szI wide))), .bool true]) ∧ Below w.heap.size w w' := by
  obtain ⟨x0, x1⟩ := zx_bd (n := szI wide) ha0 ha1
  obtain ⟨y0, y1⟩ := zx_bd (n := szI wide) hb0 hb1
  generalize hx : zx a (szI wide) = x at *
  generalize hy : zx b (szI wide) = y at *
  obtain ⟨s, hs⟩ : ∃ s, sgI x (szI wide) = s := ⟨_, rfl⟩
  obtain ⟨t, ht⟩ : ∃ t, sgI y (szI wide) = t := ⟨_, rfl⟩
  rw [hs, ht]
  have HX := Lib.hid hx
  have HY := Lib.hid hy
  have HS := Lib.hid hs
  have HT := Lib.hid ht
  clear hx hy hs ht
  go_enter Try.func11, Try.ntmps11
  go_wp2_with (first
    | (go_at_call 15; refine (cut_ref _ _ _ (by assumption) (by assumption)).mono ?_; rintro e w' ⟨rfl, rfl⟩; first | rw [HX.out] | rw [HY.out])
    | (go_at_call 16; refine (signed_ref _ _ _ (by assumption) (by assumption)).mono ?_; rintro e w' ⟨rfl, rfl⟩; first | rw [HS.out] | rw [HT.out]))
  go_ret2
  exact ⟨rfl, Below.refl _ _⟩
theorem rholds_208 (wide : Bool) (a b : Int) (w : World) (ha0 : 0 ≤ a) (ha1 : a ≤ 18446744073709551615) (hb0 : 0 ≤ b) (hb1 : b ≤ 18446744073709551615) :
    Calls Try.prog 11 #[.int .u8 208, .bool wide, .int .u64 a, .int .u64 b] w fun e w' => e = .returned (.tuple #[.bool (decide (sgI (zx a (szI wide)) (szI wide) ≤ sgI (zx b (szI wide)) (szI wide))), .bool true]) ∧ Below w.heap.size w w' := by
  obtain ⟨x0, x1⟩ := zx_bd (n := szI wide) ha0 ha1
  obtain ⟨y0, y1⟩ := zx_bd (n := szI wide) hb0 hb1
  generalize hx : zx a (szI wide) = x at *
  generalize hy : zx b (szI wide) = y at *
  obtain ⟨s, hs⟩ : ∃ s, sgI x (szI wide) = s := ⟨_, rfl⟩
  obtain ⟨t, ht⟩ : ∃ t, sgI y (szI wide) = t := ⟨_, rfl⟩
  rw [hs, ht]
  have HX := Lib.hid hx
  have HY := Lib.hid hy
  have HS := Lib.hid hs
  have HT := Lib.hid ht
  clear hx hy hs ht
  go_enter Try.func11, Try.ntmps11
  go_wp2_with (first
    | (go_at_call 15; refine (cut_ref _ _ _ (by assumption) (by assumption)).mono ?_; rintro e w' ⟨rfl, rfl⟩; first | rw [HX.out] | rw [HY.out])
    | (go_at_call 16; refine (signed_ref _ _ _ (by assumption) (by assumption)).mono ?_; rintro e w' ⟨rfl, rfl⟩; first | rw [HS.out] | rw [HT.out]))
  go_ret2
  exact ⟨rfl, Below.refl _ _⟩
theorem rholds_none (op : Int) (ho : isCond op = false) (wide : Bool) (a b : Int) (w : World) (ha0 : 0 ≤ a) (ha1 : a ≤ 18446744073709551615) (hb0 : 0 ≤ b) (hb1 : b ≤ 18446744073709551615) :
    Calls Try.prog 11 #[.int .u8 op, .bool wide, .int .u64 a, .int .u64 b] w fun e w' => e = .returned (.tuple #[.bool (false), .bool false]) ∧ Below w.heap.size w w' := by
  simp only [isCond, Bool.or_eq_false_iff, beq_eq_false_iff_ne, ne_eq, and_assoc] at ho
  obtain ⟨g1, g2, g3, g4, g5, g6, g7, g8, g9, g10, g11⟩ := ho
  obtain ⟨x0, x1⟩ := zx_bd (n := szI wide) ha0 ha1
  obtain ⟨y0, y1⟩ := zx_bd (n := szI wide) hb0 hb1
  generalize hx : zx a (szI wide) = x at *
  generalize hy : zx b (szI wide) = y at *
  obtain ⟨s, hs⟩ : ∃ s, sgI x (szI wide) = s := ⟨_, rfl⟩
  obtain ⟨t, ht⟩ : ∃ t, sgI y (szI wide) = t := ⟨_, rfl⟩
  have HX := Lib.hid hx
  have HY := Lib.hid hy
  have HS := Lib.hid hs
  have HT := Lib.hid ht
  clear hx hy hs ht
  go_enter Try.func11, Try.ntmps11
  go_wp2_with (first
    | (go_at_call 15; refine (cut_ref _ _ _ (by assumption) (by assumption)).mono ?_; rintro e w' ⟨rfl, rfl⟩; first | rw [HX.out] | rw [HY.out])
    | (go_at_call 16; refine (signed_ref _ _ _ (by assumption) (by assumption)).mono ?_; rintro e w' ⟨rfl, rfl⟩; first | rw [HS.out] | rw [HT.out]))
  go_ret2
  exact ⟨rfl, Below.refl _ _⟩
end Go.Proofs.Ytnodajcllgglcaa
