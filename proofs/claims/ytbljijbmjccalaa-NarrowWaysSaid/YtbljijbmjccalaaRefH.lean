/-
  Proved here: what Holds of the document's answers of layer 4 tells, of every number: one closed answer. Conditions: a condition's number is a uint8, the two others are uint64.
-/
import Derived.Test.YtbljijbmjccalaaInts
import Derived.Below
import Derived.BigQuiet
import Derived.Lib.Hide
namespace Go.Proofs.Ytbljijbmjccalaa
open Go.RowKit
def szI (wide : Bool) : Int := if wide then 8 else 4
theorem szI_or (wide : Bool) : szI wide = 4 ∨ szI wide = 8 := by cases wide <;> simp [szI]
def sgI (x n : Int) : Int := wrap64 (sx x n)
def isCond (op : Int) : Bool := op == 16 || op == 80 || op == 32 || op == 48 || op == 160 || op == 176 || op == 64 || op == 96 || op == 112 || op == 192 || op == 208
theorem zx_bd {x n : Int} (h0 : 0 ≤ x) (h1 : x ≤ 18446744073709551615) : 0 ≤ zx x n ∧ zx x n ≤ 18446744073709551615 := by
  unfold zx
  split
  · omega
  split
  · omega
  split <;> omega
theorem zx_8 (x : Int) : zx x 8 = x := rfl
theorem zx_4 (x : Int) : zx x 4 = x % 4294967296 := rfl
theorem cut_ref (x : Int) (wide : Bool) (w : World) (h0 : 0 ≤ x) (h1 : x ≤ 18446744073709551615) : Calls Try.prog 17 #[.int .u64 x, .bool wide] w (Ret (.int .u64 (zx x (szI wide))) w) := by
  unfold Ret
  cases wide
  all_goals
    go_enter Try.func17, Try.ntmps17
    go_wp2
    go_ret
    exact ⟨rfl, rfl⟩
theorem signed_ref (x : Int) (wide : Bool) (w : World) (h0 : 0 ≤ x) (h1 : x ≤ 18446744073709551615) : Calls Try.prog 18 #[.int .u64 x, .bool wide] w (Ret (.int .i64 (sgI x (szI wide))) w) := by
  unfold Ret sgI
  cases wide
  · have e : szI false = 4 := rfl
    rw [e]
    obtain ⟨s, hs⟩ : ∃ s, sx x 4 = s := ⟨_, rfl⟩
    rw [hs]
    have HS := Lib.hid hs
    clear hs e
    go_enter Try.func18, Try.ntmps18
    go_wp2_with (go_at_call 36; refine (sext_ref _ _ _ (by omega) (by omega)).mono ?_; rintro e w' ⟨rfl, rfl⟩; rw [HS.out])
    go_ret
    exact ⟨rfl, rfl⟩
  · have e : sx x (szI true) = x := rfl
    rw [e]
    clear e
    go_enter Try.func18, Try.ntmps18
    go_wp2
    go_ret
    exact ⟨rfl, rfl⟩
theorem rholds_16 (wide : Bool) (a b : Int) (w : World) (ha0 : 0 ≤ a) (ha1 : a ≤ 18446744073709551615) (hb0 : 0 ≤ b) (hb1 : b ≤ 18446744073709551615) :
    Calls Try.prog 8 #[.int .u8 16, .bool wide, .int .u64 a, .int .u64 b] w fun e w' => e = .returned (.tuple #[.bool ((zx a (szI wide)) == (zx b (szI wide))), .bool true]) ∧ Below w.heap.size w w' := by
  obtain ⟨x0, x1⟩ := zx_bd (n := szI wide) ha0 ha1
  obtain ⟨y0, y1⟩ := zx_bd (n := szI wide) hb0 hb1
  generalize hx : zx a (szI wide) = x at *
  generalize hy : zx b (szI wide) = y at *
  obtain ⟨s, hs⟩ : ∃ s, sgI x (szI wide) = s := ⟨_, rfl⟩
  obtain ⟨t, ht⟩ : ∃ t, sgI y (szI wide) = t := ⟨_, rfl⟩
  have HX := Lib.hid hx
  have HY := Lib.hid hy
  have HS := Lib.hid hs
  have HT := Lib.hid ht
  clear hx hy hs ht
  go_enter Try.func8, Try.ntmps8
  go_wp2_with (first
    | (go_at_call 17; refine (cut_ref _ _ _ (by assumption) (by assumption)).mono ?_; rintro e w' ⟨rfl, rfl⟩; first | rw [HX.out] | rw [HY.out])
    | (go_at_call 18; refine (signed_ref _ _ _ (by assumption) (by assumption)).mono ?_; rintro e w' ⟨rfl, rfl⟩; first | rw [HS.out] | rw [HT.out]))
  go_ret2
  exact ⟨rfl, Below.refl _ _⟩
theorem rholds_32 (wide : Bool) (a b : Int) (w : World) (ha0 : 0 ≤ a) (ha1 : a ≤ 18446744073709551615) (hb0 : 0 ≤ b) (hb1 : b ≤ 18446744073709551615) :
    Calls Try.prog 8 #[.int .u8 32, .bool wide, .int .u64 a, .int .u64 b] w fun e w' => e = .returned (.tuple #[.bool (decide ((zx b (szI wide)) < (zx a (szI wide)))), .bool true]) ∧ Below w.heap.size w w' := by
  obtain ⟨x0, x1⟩ := zx_bd (n := szI wide) ha0 ha1
  obtain ⟨y0, y1⟩ := zx_bd (n := szI wide) hb0 hb1
  generalize hx : zx a (szI wide) = x at *
  generalize hy : zx b (szI wide) = y at *
  obtain ⟨s, hs⟩ : ∃ s, sgI x (szI wide) = s := ⟨_, rfl⟩
  obtain ⟨t, ht⟩ : ∃ t, sgI y (szI wide) = t := ⟨_, rfl⟩
  have HX := Lib.hid hx
  have HY := Lib.hid hy
  have HS := Lib.hid hs
  have HT := Lib.hid ht
  clear hx hy hs ht
  go_enter Try.func8, Try.ntmps8
  go_wp2_with (first
    | (go_at_call 17; refine (cut_ref _ _ _ (by assumption) (by assumption)).mono ?_; rintro e w' ⟨rfl, rfl⟩; first | rw [HX.out] | rw [HY.out])
    | (go_at_call 18; refine (signed_ref _ _ _ (by assumption) (by assumption)).mono ?_; rintro e w' ⟨rfl, rfl⟩; first | rw [HS.out] | rw [HT.out]))
  go_ret2
  exact ⟨rfl, Below.refl _ _⟩
theorem rholds_48 (wide : Bool) (a b : Int) (w : World) (ha0 : 0 ≤ a) (ha1 : a ≤ 18446744073709551615) (hb0 : 0 ≤ b) (hb1 : b ≤ 18446744073709551615) :
    Calls Try.prog 8 #[.int .u8 48, .bool wide, .int .u64 a, .int .u64 b] w fun e w' => e = .returned (.tuple #[.bool (decide ((zx b (szI wide)) ≤ (zx a (szI wide)))), .bool true]) ∧ Below w.heap.size w w' := by
  obtain ⟨x0, x1⟩ := zx_bd (n := szI wide) ha0 ha1
  obtain ⟨y0, y1⟩ := zx_bd (n := szI wide) hb0 hb1
  generalize hx : zx a (szI wide) = x at *
  generalize hy : zx b (szI wide) = y at *
  obtain ⟨s, hs⟩ : ∃ s, sgI x (szI wide) = s := ⟨_, rfl⟩
  obtain ⟨t, ht⟩ : ∃ t, sgI y (szI wide) = t := ⟨_, rfl⟩
  have HX := Lib.hid hx
  have HY := Lib.hid hy
  have HS := Lib.hid hs
  have HT := Lib.hid ht
  clear hx hy hs ht
  go_enter Try.func8, Try.ntmps8
  go_wp2_with (first
    | (go_at_call 17; refine (cut_ref _ _ _ (by assumption) (by assumption)).mono ?_; rintro e w' ⟨rfl, rfl⟩; first | rw [HX.out] | rw [HY.out])
    | (go_at_call 18; refine (signed_ref _ _ _ (by assumption) (by assumption)).mono ?_; rintro e w' ⟨rfl, rfl⟩; first | rw [HS.out] | rw [HT.out]))
  go_ret2
  exact ⟨rfl, Below.refl _ _⟩
theorem rholds_64 (wide : Bool) (a b : Int) (w : World) (ha0 : 0 ≤ a) (ha1 : a ≤ 18446744073709551615) (hb0 : 0 ≤ b) (hb1 : b ≤ 18446744073709551615) :
    Calls Try.prog 8 #[.int .u8 64, .bool wide, .int .u64 a, .int .u64 b] w fun e w' => e = .returned (.tuple #[.bool (decide (0 < bits .and .u64 (zx a (szI wide)) (zx b (szI wide)))), .bool true]) ∧ Below w.heap.size w w' := by
  obtain ⟨x0, x1⟩ := zx_bd (n := szI wide) ha0 ha1
  obtain ⟨y0, y1⟩ := zx_bd (n := szI wide) hb0 hb1
  generalize hx : zx a (szI wide) = x at *
  generalize hy : zx b (szI wide) = y at *
  obtain ⟨s, hs⟩ : ∃ s, sgI x (szI wide) = s := ⟨_, rfl⟩
  obtain ⟨t, ht⟩ : ∃ t, sgI y (szI wide) = t := ⟨_, rfl⟩
  have HX := Lib.hid hx
  have HY := Lib.hid hy
  have HS := Lib.hid hs
  have HT := Lib.hid ht
  clear hx hy hs ht
  go_enter Try.func8, Try.ntmps8
  go_wp2_with (first
    | (go_at_call 17; refine (cut_ref _ _ _ (by assumption) (by assumption)).mono ?_; rintro e w' ⟨rfl, rfl⟩; first | rw [HX.out] | rw [HY.out])
    | (go_at_call 18; refine (signed_ref _ _ _ (by assumption) (by assumption)).mono ?_; rintro e w' ⟨rfl, rfl⟩; first | rw [HS.out] | rw [HT.out]))
  go_ret2
  exact ⟨rfl, Below.refl _ _⟩
theorem rholds_80 (wide : Bool) (a b : Int) (w : World) (ha0 : 0 ≤ a) (ha1 : a ≤ 18446744073709551615) (hb0 : 0 ≤ b) (hb1 : b ≤ 18446744073709551615) :
    Calls Try.prog 8 #[.int .u8 80, .bool wide, .int .u64 a, .int .u64 b] w fun e w' => e = .returned (.tuple #[.bool ((zx a (szI wide)) != (zx b (szI wide))), .bool true]) ∧ Below w.heap.size w w' := by
  obtain ⟨x0, x1⟩ := zx_bd (n := szI wide) ha0 ha1
  obtain ⟨y0, y1⟩ := zx_bd (n := szI wide) hb0 hb1
  generalize hx : zx a (szI wide) = x at *
  generalize hy : zx b (szI wide) = y at *
  obtain ⟨s, hs⟩ : ∃ s, sgI x (szI wide) = s := ⟨_, rfl⟩
  obtain ⟨t, ht⟩ : ∃ t, sgI y (szI wide) = t := ⟨_, rfl⟩
  have HX := Lib.hid hx
  have HY := Lib.hid hy
  have HS := Lib.hid hs
  have HT := Lib.hid ht
  clear hx hy hs ht
  go_enter Try.func8, Try.ntmps8
  go_wp2_with (first
    | (go_at_call 17; refine (cut_ref _ _ _ (by assumption) (by assumption)).mono ?_; rintro e w' ⟨rfl, rfl⟩; first | rw [HX.out] | rw [HY.out])
    | (go_at_call 18; refine (signed_ref _ _ _ (by assumption) (by assumption)).mono ?_; rintro e w' ⟨rfl, rfl⟩; first | rw [HS.out] | rw [HT.out]))
  go_ret2
  exact ⟨rfl, Below.refl _ _⟩
theorem rholds_96 (wide : Bool) (a b : Int) (w : World) (ha0 : 0 ≤ a) (ha1 : a ≤ 18446744073709551615) (hb0 : 0 ≤ b) (hb1 : b ≤ 18446744073709551615) :
    Calls Try.prog 8 #[.int .u8 96, .bool wide, .int .u64 a, .int .u64 b] w fun e w' => e = .returned (.tuple #[.bool (decide (sgI (zx b (szI wide)) (szI wide) < sgI (zx a (szI wide)) (szI wide))), .bool true]) ∧ Below w.heap.size w w' := by
  obtain ⟨x0, x1⟩ := zx_bd (n := szI wide) ha0 ha1
  obtain ⟨y0, y1⟩ := zx_bd (n := szI wide) hb0 hb1
  generalize hx : zx a (szI wide) = x at *
  generalize hy : zx b (szI wide) = y at *
  obtain ⟨s, hs⟩ : ∃ s, sgI x (szI wide) = s := ⟨_, rfl⟩
  obtain ⟨t, ht⟩ : ∃ t, sgI y (szI wide) = t := ⟨_, rfl⟩
  rw [hs, ht]
  have HX := Lib.hid hx
  have HY := Lib.hid hy
  have HS := Lib.hid hs
  have HT := Lib.hid ht
  clear hx hy hs ht
  go_enter Try.func8, Try.ntmps8
  go_wp2_with (first
    | (go_at_call 17; refine (cut_ref _ _ _ (by assumption) (by assumption)).mono ?_; rintro e w' ⟨rfl, rfl⟩; first | rw [HX.out] | rw [HY.out])
    | (go_at_call 18; refine (signed_ref _ _ _ (by assumption) (by assumption)).mono ?_; rintro e w' ⟨rfl, rfl⟩; first | rw [HS.out] | rw [HT.out]))
  go_ret2
  exact ⟨rfl, Below.refl _ _⟩
theorem rholds_112 (wide : Bool) (a b : Int) (w : World) (ha0 : 0 ≤ a) (ha1 : a ≤ 18446744073709551615) (hb0 : 0 ≤ b) (hb1 : b ≤ 18446744073709551615) :
    Calls Try.prog 8 #[.int .u8 112, .bool wide, .int .u64 a, .int .u64 b] w fun e w' => e = .returned (.tuple #[.bool (decide (sgI (zx b (szI wide)) (szI wide) ≤ sgI (zx a (szI wide)) (szI wide))), .bool true]) ∧ Below w.heap.size w w' := by
  obtain ⟨x0, x1⟩ := zx_bd (n := szI wide) ha0 ha1
  obtain ⟨y0, y1⟩ := zx_bd (n := szI wide) hb0 hb1
  generalize hx : zx a (szI wide) = x at *
  generalize hy : zx b (szI wide) = y at *
  obtain ⟨s, hs⟩ : ∃ s, sgI x (szI wide) = s := ⟨_, rfl⟩
  obtain ⟨t, ht⟩ : ∃ t, sgI y (szI wide) = t := ⟨_, rfl⟩
  rw [hs, ht]
  have HX := Lib.hid hx
  have HY := Lib.hid hy
  have HS := Lib.hid hs
  have HT := Lib.hid ht
  clear hx hy hs ht
  go_enter Try.func8, Try.ntmps8
  go_wp2_with (first
    | (go_at_call 17; refine (cut_ref _ _ _ (by assumption) (by assumption)).mono ?_; rintro e w' ⟨rfl, rfl⟩; first | rw [HX.out] | rw [HY.out])
    | (go_at_call 18; refine (signed_ref _ _ _ (by assumption) (by assumption)).mono ?_; rintro e w' ⟨rfl, rfl⟩; first | rw [HS.out] | rw [HT.out]))
  go_ret2
  exact ⟨rfl, Below.refl _ _⟩
theorem rholds_160 (wide : Bool) (a b : Int) (w : World) (ha0 : 0 ≤ a) (ha1 : a ≤ 18446744073709551615) (hb0 : 0 ≤ b) (hb1 : b ≤ 18446744073709551615) :
    Calls Try.prog 8 #[.int .u8 160, .bool wide, .int .u64 a, .int .u64 b] w fun e w' => e = .returned (.tuple #[.bool (decide ((zx a (szI wide)) < (zx b (szI wide)))), .bool true]) ∧ Below w.heap.size w w' := by
  obtain ⟨x0, x1⟩ := zx_bd (n := szI wide) ha0 ha1
  obtain ⟨y0, y1⟩ := zx_bd (n := szI wide) hb0 hb1
  generalize hx : zx a (szI wide) = x at *
  generalize hy : zx b (szI wide) = y at *
  obtain ⟨s, hs⟩ : ∃ s, sgI x (szI wide) = s := ⟨_, rfl⟩
  obtain ⟨t, ht⟩ : ∃ t, sgI y (szI wide) = t := ⟨_, rfl⟩
  have HX := Lib.hid hx
  have HY := Lib.hid hy
  have HS := Lib.hid hs
  have HT := Lib.hid ht
  clear hx hy hs ht
  go_enter Try.func8, Try.ntmps8
  go_wp2_with (first
    | (go_at_call 17; refine (cut_ref _ _ _ (by assumption) (by assumption)).mono ?_; rintro e w' ⟨rfl, rfl⟩; first | rw [HX.out] | rw [HY.out])
    | (go_at_call 18; refine (signed_ref _ _ _ (by assumption) (by assumption)).mono ?_; rintro e w' ⟨rfl, rfl⟩; first | rw [HS.out] | rw [HT.out]))
  go_ret2
  exact ⟨rfl, Below.refl _ _⟩
theorem rholds_176 (wide : Bool) (a b : Int) (w : World) (ha0 : 0 ≤ a) (ha1 : a ≤ 18446744073709551615) (hb0 : 0 ≤ b) (hb1 : b ≤ 18446744073709551615) :
    Calls Try.prog 8 #[.int .u8 176, .bool wide, .int .u64 a, .int .u64 b] w fun e w' => e = .returned (.tuple #[.bool (decide ((zx a (szI wide)) ≤ (zx b (szI wide)))), .bool true]) ∧ Below w.heap.size w w' := by
  obtain ⟨x0, x1⟩ := zx_bd (n := szI wide) ha0 ha1
  obtain ⟨y0, y1⟩ := zx_bd (n := szI wide) hb0 hb1
  generalize hx : zx a (szI wide) = x at *
  generalize hy : zx b (szI wide) = y at *
  obtain ⟨s, hs⟩ : ∃ s, sgI x (szI wide) = s := ⟨_, rfl⟩
  obtain ⟨t, ht⟩ : ∃ t, sgI y (szI wide) = t := ⟨_, rfl⟩
  have HX := Lib.hid hx
  have HY := Lib.hid hy
  have HS := Lib.hid hs
  have HT := Lib.hid ht
  clear hx hy hs ht
  go_enter Try.func8, Try.ntmps8
  go_wp2_with (first
    | (go_at_call 17; refine (cut_ref _ _ _ (by assumption) (by assumption)).mono ?_; rintro e w' ⟨rfl, rfl⟩; first | rw [HX.out] | rw [HY.out])
    | (go_at_call 18; refine (signed_ref _ _ _ (by assumption) (by assumption)).mono ?_; rintro e w' ⟨rfl, rfl⟩; first | rw [HS.out] | rw [HT.out]))
  go_ret2
  exact ⟨rfl, Below.refl _ _⟩
theorem rholds_192 (wide : Bool) (a b : Int) (w : World) (ha0 : 0 ≤ a) (ha1 : a ≤ 18446744073709551615) (hb0 : 0 ≤ b) (hb1 : b ≤ 18446744073709551615) :
    Calls Try.prog 8 #[.int .u8 192, .bool wide, .int .u64 a, .int .u64 b] w fun e w' => e = .returned (.tuple #[.bool (decide (sgI (zx a (szI wide)) (szI wide) < sgI (zx b (szI wide)) (szI wide))), .bool true]) ∧ Below w.heap.size w w' := by
  obtain ⟨x0, x1⟩ := zx_bd (n := szI wide) ha0 ha1
  obtain ⟨y0, y1⟩ := zx_bd (n := szI wide) hb0 hb1
  generalize hx : zx a (szI wide) = x at *
  generalize hy : zx b (szI wide) = y at *
  obtain ⟨s, hs⟩ : ∃ s, sgI x (szI wide) = s := ⟨_, rfl⟩
  obtain ⟨t, ht⟩ : ∃ t, sgI y (szI wide) = t := ⟨_, rfl⟩
  rw [hs, ht]
  have HX := Lib.hid hx
  have HY := Lib.hid hy
  have HS := Lib.hid hs
  have HT := Lib.hid ht
  clear hx hy hs ht
  go_enter Try.func8, Try.ntmps8
  go_wp2_with (first
    | (go_at_call 17; refine (cut_ref _ _ _ (by assumption) (by assumption)).mono ?_; rintro e w' ⟨rfl, rfl⟩; first | rw [HX.out] | rw [HY.out])
    | (go_at_call 18; refine (signed_ref _ _ _ (by assumption) (by assumption)).mono ?_; rintro e w' ⟨rfl, rfl⟩; first | rw [HS.out] | rw [HT.out]))
  go_ret2
  exact ⟨rfl, Below.refl _ _⟩
theorem rholds_208 (wide : Bool) (a b : Int) (w : World) (ha0 : 0 ≤ a) (ha1 : a ≤ 18446744073709551615) (hb0 : 0 ≤ b) (hb1 : b ≤ 18446744073709551615) :
    Calls Try.prog 8 #[.int .u8 208, .bool wide, .int .u64 a, .int .u64 b] w fun e w' => e = .returned (.tuple #[.bool (decide (sgI (zx a (szI wide)) (szI wide) ≤ sgI (zx b (szI wide)) (szI wide))), .bool true]) ∧ Below w.heap.size w w' := by
  obtain ⟨x0, x1⟩ := zx_bd (n := szI wide) ha0 ha1
  obtain ⟨y0, y1⟩ := zx_bd (n := szI wide) hb0 hb1
  generalize hx : zx a (szI wide) = x at *
  generalize hy : zx b (szI wide) = y at *
  obtain ⟨s, hs⟩ : ∃ s, sgI x (szI wide) = s := ⟨_, rfl⟩
  obtain ⟨t, ht⟩ : ∃ t, sgI y (szI wide) = t := ⟨_, rfl⟩
  rw [hs, ht]
  have HX := Lib.hid hx
  have HY := Lib.hid hy
  have HS := Lib.hid hs
  have HT := Lib.hid ht
  clear hx hy hs ht
  go_enter Try.func8, Try.ntmps8
  go_wp2_with (first
    | (go_at_call 17; refine (cut_ref _ _ _ (by assumption) (by assumption)).mono ?_; rintro e w' ⟨rfl, rfl⟩; first | rw [HX.out] | rw [HY.out])
    | (go_at_call 18; refine (signed_ref _ _ _ (by assumption) (by assumption)).mono ?_; rintro e w' ⟨rfl, rfl⟩; first | rw [HS.out] | rw [HT.out]))
  go_ret2
  exact ⟨rfl, Below.refl _ _⟩
theorem rholds_none (op : Int) (ho : isCond op = false) (wide : Bool) (a b : Int) (w : World) (ha0 : 0 ≤ a) (ha1 : a ≤ 18446744073709551615) (hb0 : 0 ≤ b) (hb1 : b ≤ 18446744073709551615) :
    Calls Try.prog 8 #[.int .u8 op, .bool wide, .int .u64 a, .int .u64 b] w fun e w' => e = .returned (.tuple #[.bool (false), .bool false]) ∧ Below w.heap.size w w' := by
  simp only [isCond, Bool.or_eq_false_iff, beq_eq_false_iff_ne, ne_eq, and_assoc] at ho
  obtain ⟨g1, g2, g3, g4, g5, g6, g7, g8, g9, g10, g11⟩ := ho
  obtain ⟨x0, x1⟩ := zx_bd (n := szI wide) ha0 ha1
  obtain ⟨y0, y1⟩ := zx_bd (n := szI wide) hb0 hb1
  generalize hx : zx a (szI wide) = x at *
  generalize hy : zx b (szI wide) = y at *
  obtain ⟨s, hs⟩ : ∃ s, sgI x (szI wide) = s := ⟨_, rfl⟩
  obtain ⟨t, ht⟩ : ∃ t, sgI y (szI wide) = t := ⟨_, rfl⟩
  have HX := Lib.hid hx
  have HY := Lib.hid hy
  have HS := Lib.hid hs
  have HT := Lib.hid ht
  clear hx hy hs ht
  go_enter Try.func8, Try.ntmps8
  go_wp2_with (first
    | (go_at_call 17; refine (cut_ref _ _ _ (by assumption) (by assumption)).mono ?_; rintro e w' ⟨rfl, rfl⟩; first | rw [HX.out] | rw [HY.out])
    | (go_at_call 18; refine (signed_ref _ _ _ (by assumption) (by assumption)).mono ?_; rintro e w' ⟨rfl, rfl⟩; first | rw [HS.out] | rw [HT.out]))
  go_ret2
  exact ⟨rfl, Below.refl _ _⟩
def condI (op x y n : Int) : Bool :=
  if op = 16 then x == y else if op = 80 then x != y else if op = 32 then decide (y < x) else if op = 48 then decide (y ≤ x) else if op = 160 then decide (x < y) else if op = 176 then decide (x ≤ y)
  else if op = 64 then bits .and .u64 x y != 0 else if op = 96 then decide (sgI y n < sgI x n) else if op = 112 then decide (sgI y n ≤ sgI x n)
  else if op = 192 then decide (sgI x n < sgI y n) else if op = 208 then decide (sgI x n ≤ sgI y n) else false
def holdI (op : Int) (wide : Bool) (a b : Int) : Bool := condI op (zx a (szI wide)) (zx b (szI wide)) (szI wide)
def HoldPost (w : World) (r ok : Bool) (e : Ending) (w' : World) : Prop := e = .returned (.tuple #[.bool r, .bool ok]) ∧ Below w.heap.size w w'
theorem holdI_none {op : Int} (wide : Bool) (a b : Int) (h : isCond op = false) : holdI op wide a b = false := by
  simp only [isCond, Bool.or_eq_false_iff, beq_eq_false_iff_ne, ne_eq, and_assoc] at h
  obtain ⟨g1, g2, g3, g4, g5, g6, g7, g8, g9, g10, g11⟩ := h
  simp [holdI, condI, *]
theorem above_zero {z : Int} (h : 0 ≤ z) : (z != 0) = decide (0 < z) := by
  by_cases e : z = 0
  · subst e; rfl
  · rw [decide_eq_true (show 0 < z by omega)]
    simpa using e
theorem and_nonneg {a b : Int} (ha0 : 0 ≤ a) (ha1 : a ≤ 18446744073709551615) (hb0 : 0 ≤ b) (hb1 : b ≤ 18446744073709551615) : 0 ≤ bits .and .u64 a b := by
  rw [u64_and a b (by omega) (by omega) (by omega) (by omega)]
  omega
theorem holds_ref (op : Int) (wide : Bool) (a b : Int) (w : World) (ha0 : 0 ≤ a) (ha1 : a ≤ 18446744073709551615) (hb0 : 0 ≤ b) (hb1 : b ≤ 18446744073709551615) :
    Calls Try.prog 8 #[.int .u8 op, .bool wide, .int .u64 a, .int .u64 b] w (HoldPost w (holdI op wide a b) (isCond op)) := by
  by_cases ho : isCond op = true
  · have hh := ho
    simp only [isCond, Bool.or_eq_true, beq_iff_eq, or_assoc] at hh
    rw [ho]
    clear ho
    obtain rfl | rfl | rfl | rfl | rfl | rfl | rfl | rfl | rfl | rfl | rfl := hh
    · exact rholds_16 wide a b w ha0 ha1 hb0 hb1
    · exact rholds_80 wide a b w ha0 ha1 hb0 hb1
    · exact rholds_32 wide a b w ha0 ha1 hb0 hb1
    · exact rholds_48 wide a b w ha0 ha1 hb0 hb1
    · exact rholds_160 wide a b w ha0 ha1 hb0 hb1
    · exact rholds_176 wide a b w ha0 ha1 hb0 hb1
    · have e : holdI 64 wide a b = decide (0 < bits .and .u64 (zx a (szI wide)) (zx b (szI wide))) := above_zero (and_nonneg (zx_bd ha0 ha1).1 (zx_bd ha0 ha1).2 (zx_bd hb0 hb1).1 (zx_bd hb0 hb1).2)
      rw [e]
      exact rholds_64 wide a b w ha0 ha1 hb0 hb1
    · exact rholds_96 wide a b w ha0 ha1 hb0 hb1
    · exact rholds_112 wide a b w ha0 ha1 hb0 hb1
    · exact rholds_192 wide a b w ha0 ha1 hb0 hb1
    · exact rholds_208 wide a b w ha0 ha1 hb0 hb1
  · have ho' : isCond op = false := by simpa using ho
    rw [holdI_none wide a b ho', ho']
    exact rholds_none op ho' wide a b w ha0 ha1 hb0 hb1
end Go.Proofs.Ytbljijbmjccalaa
