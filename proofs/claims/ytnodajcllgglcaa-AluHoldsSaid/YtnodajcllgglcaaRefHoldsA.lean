/-
  Proved here: what Holds of the document's answers tells of the conditions 16, 32, 48, 64. Conditions: the numbers are uint64.
-/
import Derived.Test.YtnodajcllgglcaaCondAll
import Derived.Test.YtnodajcllgglcaaRefDo
namespace Go.Proofs.Ytnodajcllgglcaa
open Go.RowKit
theorem rholds_16 (wide : Bool) (a b : Int) (w : World) (ha0 : 0 ≤ a) (ha1 : a ≤ 18446744073709551615) (hb0 : 0 ≤ b) (hb1 : b ≤ 18446744073709551615) :
    Calls Try.prog 11 #[.int .u8 16, .bool wide, .int .u64 a, .int .u64 b] w fun e w' => e = .returned (.tuple #[.bool ((zx a (szI wide)) == (zx b (szI wide))), .bool true]) ∧ Below w.heap.size w w' := by
  obtain ⟨x0, x1⟩ := zx_bd (n := szI wide) ha0 ha1
  obtain ⟨y0, y1⟩ := zx_bd (n := szI wide) hb0 hb1
  generalize hx : zx a (szI wide) = x at *
  generalize hy : zx b (szI wide) = y at *
  obtain ⟨s, hs⟩ : ∃ s, sgI x (szI wide) = s := ⟨_, rfl⟩
  obtain ⟨t, ht⟩ : ∃ t, sgI y (szI wide) = t := ⟨_, rfl⟩
  have HX := Lib.hid hx
  have HY := Lib.hid hy
  have HS := Lib.hid hs
  have HT := Lib.hid ht
  clear hx hy hs ht
  go_enter Try.func11, Try.ntmps11
  go_wp2_with (first
    | (go_at_call 15; refine (cut_ref _ _ _ (by assumption) (by assumption)).mono ?_; rintro e w' ⟨rfl, rfl⟩; first | rw [HX.out] | rw [HY.out])
    | (go_at_call 16; refine (signed_ref _ _ _ (by assumption) (by assumption)).mono ?_; rintro e w' ⟨rfl, rfl⟩; first | rw [HS.out] | rw [HT.out]))
  go_ret2
  exact ⟨rfl, Below.refl _ _⟩
theorem rholds_32 (wide : Bool) (a b : Int) (w : World) (ha0 : 0 ≤ a) (ha1 : a ≤ 18446744073709551615) (hb0 : 0 ≤ b) (hb1 : b ≤ 18446744073709551615) :
    Calls Try.prog 11 #[.int .u8 32, .bool wide, .int .u64 a, .int .u64 b] w fun e w' => e = .returned (.tuple #[.bool (decide ((zx b (szI wide)) < (zx a (szI wide)))), .bool true]) ∧ Below w.heap.size w w' := by
  obtain ⟨x0, x1⟩ := zx_bd (n := szI wide) ha0 ha1
  obtain ⟨y0, y1⟩ := zx_bd (n := szI wide) hb0 hb1
  generalize hx : zx a (szI wide) = x at *
  generalize hy : zx b (szI wide) = y at *
  obtain ⟨s, hs⟩ : ∃ s, sgI x (szI wide) = s := ⟨_, rfl⟩
  obtain ⟨t, ht⟩ : ∃ t, sgI y (szI wide) = t := ⟨_, rfl⟩
  have HX := Lib.hid hx
  have HY := Lib.hid hy
  have HS := Lib.hid hs
  have HT := Lib.hid ht
  clear hx hy hs ht
  go_enter Try.func11, Try.ntmps11
  go_wp2_with (first
    | (go_at_call 15; refine (cut_ref _ _ _ (by assumption) (by assumption)).mono ?_; rintro e w' ⟨rfl, rfl⟩; first | rw [HX.out] | rw [HY.out])
    | (go_at_call 16; refine (signed_ref _ _ _ (by assumption) (by assumption)).mono ?_; rintro e w' ⟨rfl, rfl⟩; first | rw [HS.out] | rw [HT.out]))
  go_ret2
  exact ⟨rfl, Below.refl _ _⟩
theorem rholds_48 (wide : Bool) (a b : Int) (w : World) (ha0 : 0 ≤ a) (ha1 : a ≤ 18446744073709551615) (hb0 : 0 ≤ b) (hb1 : b ≤ 18446744073709551615) :
    Calls Try.prog 11 #[.int .u8 48, .bool wide, .int .u64 a, .int .u64 b] w fun e w' => e = .returned (.tuple #[.bool (decide ((zx b (szI wide)) ≤ (zx a (szI wide)))), .bool true]) ∧ Below w.heap.size w w' := by
  obtain ⟨x0, x1⟩ := zx_bd (n := szI wide) ha0 ha1
  obtain ⟨y0, y1⟩ := zx_bd (n := szI wide) hb0 hb1
  generalize hx : zx a (szI wide) = x at *
  generalize hy : zx b (szI wide) = y at *
  obtain ⟨s, hs⟩ : ∃ s, sgI x (szI wide) = s := ⟨_, rfl⟩
  obtain ⟨t, ht⟩ : ∃ t, sgI y (szI wide) = t := ⟨_, rfl⟩
  have HX := Lib.hid hx
  have HY := Lib.hid hy
  have HS := Lib.hid hs
  have HT := Lib.hid ht
  clear hx hy hs ht
  go_enter Try.func11, Try.ntmps11
  go_wp2_with (first
    | (go_at_call 15; refine (cut_ref _ _ _ (by assumption) (by assumption)).mono ?_; rintro e w' ⟨rfl, rfl⟩; first | rw [HX.out] | rw [HY.out])
    | (go_at_call 16; refine (signed_ref _ _ _ (by assumption) (by assumption)).mono ?_; rintro e w' ⟨rfl, rfl⟩; first | rw [HS.out] | rw [HT.out]))
  go_ret2
  exact ⟨rfl, Below.refl _ _⟩
theorem rholds_64 (wide : Bool) (a b : Int) (w : World) (ha0 : 0 ≤ a) (ha1 : a ≤ 18446744073709551615) (hb0 : 0 ≤ b) (hb1 : b ≤ 18446744073709551615) :
    Calls Try.prog 11 #[.int .u8 64, .bool wide, .int .u64 a, .int .u64 b] w fun e w' => e = .returned (.tuple #[.bool (decide (0 < bits .and .u64 (zx a (szI wide)) (zx b (szI wide)))), .bool true]) ∧ Below w.heap.size w w' := by
  obtain ⟨x0, x1⟩ := zx_bd (n := szI wide) ha0 ha1
  obtain ⟨y0, y1⟩ := zx_bd (n := szI wide) hb0 hb1
  generalize hx : zx a (szI wide) = x at *
  generalize hy : zx b (szI wide) = y at *
  obtain ⟨s, hs⟩ : ∃ s, sgI x (szI wide) = s := ⟨_, rfl⟩
  obtain ⟨t, ht⟩ : ∃ t, sgI y (szI wide) = t := ⟨_, rfl⟩
  have HX := Lib.hid hx
  have HY := Lib.hid hy
  have HS := Lib.hid hs
  have HT := Lib.hid ht
  clear hx hy hs ht
  go_enter Try.func11, Try.ntmps11
  go_wp2_with (first
    | (go_at_call 15; refine (cut_ref _ _ _ (by assumption) (by assumption)).mono ?_; rintro e w' ⟨rfl, rfl⟩; first | rw [HX.out] | rw [HY.out])
    | (go_at_call 16; refine (signed_ref _ _ _ (by assumption) (by assumption)).mono ?_; rintro e w' ⟨rfl, rfl⟩; first | rw [HS.out] | rw [HT.out]))
  go_ret2
  exact ⟨rfl, Below.refl _ _⟩
end Go.Proofs.Ytnodajcllgglcaa
