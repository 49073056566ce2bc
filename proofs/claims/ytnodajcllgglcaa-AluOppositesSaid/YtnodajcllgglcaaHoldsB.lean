/-
  Proved here: what Holds of package alu tells of the conditions 160, 176, 64, 96. Conditions: an operation's number is a uint8, the two others are uint64.
-/
import Derived.Test.YtnodajcllgglcaaCondAll
import Derived.Test.YtnodajcllgglcaaDo
namespace Go.Proofs.Ytnodajcllgglcaa
open Go.RowKit
theorem holds_160 (wide : Bool) (a b : Int) (w : World) (ha0 : 0 ≤ a) (ha1 : a ≤ 18446744073709551615) (hb0 : 0 ≤ b) (hb1 : b ≤ 18446744073709551615) :
    Calls Try.prog 10 #[.int .u8 160, .bool wide, .int .u64 a, .int .u64 b] w fun e w' => e = .returned (.tuple #[.bool (decide ((zx a (szI wide)) < (zx b (szI wide)))), .bool true]) ∧ Below w.heap.size w w' := by
  obtain ⟨x0, x1⟩ := zx_bd (n := szI wide) ha0 ha1
  obtain ⟨y0, y1⟩ := zx_bd (n := szI wide) hb0 hb1
  obtain ⟨n, hn⟩ : ∃ n, szI wide = n := ⟨_, rfl⟩
  rw [hn] at x0 x1 y0 y1 ⊢
  generalize hx : zx a n = x at *
  generalize hy : zx b n = y at *
  have hc := cond_160 x y n w
  have HA := Lib.hid (box_a w x y n)
  have HB := Lib.hid (box_b w x y n)
  have HN2 := Lib.hid (box_n w x y n)
  have HW := Lib.hid (boxes_below w x y n)
  generalize hW : boxes w x y n = W at *
  obtain ⟨r, hr⟩ : ∃ r, (decide (x < y)) = r := ⟨_, rfl⟩
  rw [hr]
  unfold two at hc
  have HN := Lib.hid hn
  have HX := Lib.hid hx
  have HY := Lib.hid hy
  have HR := Lib.hid hr
  clear hn hx hy hW hr
  have hq := func_nil
  go_enter Try.func10, Try.ntmps10
  go_wp2_with (first
    | (go_at_call 13; refine (size_alu _ _).mono ?_; rintro e w' ⟨rfl, rfl⟩; rw [HN.out])
    | (go_at_call 14; refine (zext_words _ _ _ (by assumption) (by assumption)).mono ?_; rintro e w' ⟨rfl, rfl⟩; first | rw [HX.out] | rw [HY.out])
    | (go_at_call 17; refine hc.mono ?_; rintro e w' ⟨rfl, rfl⟩)
    | (go_at_call 40; refine (jlt_c x y _ _ _ HA.out HB.out).mono ?_; rintro e w' ⟨rfl, hb'⟩; have HB' := Lib.hid hb'; clear hb'; rw [HR.out]))
  go_ret2
  exact ⟨rfl, HW.out.trans (HB'.out.mono HW.out.size)⟩
theorem holds_176 (wide : Bool) (a b : Int) (w : World) (ha0 : 0 ≤ a) (ha1 : a ≤ 18446744073709551615) (hb0 : 0 ≤ b) (hb1 : b ≤ 18446744073709551615) :
    Calls Try.prog 10 #[.int .u8 176, .bool wide, .int .u64 a, .int .u64 b] w fun e w' => e = .returned (.tuple #[.bool (decide ((zx a (szI wide)) ≤ (zx b (szI wide)))), .bool true]) ∧ Below w.heap.size w w' := by
  obtain ⟨x0, x1⟩ := zx_bd (n := szI wide) ha0 ha1
  obtain ⟨y0, y1⟩ := zx_bd (n := szI wide) hb0 hb1
  obtain ⟨n, hn⟩ : ∃ n, szI wide = n := ⟨_, rfl⟩
  rw [hn] at x0 x1 y0 y1 ⊢
  generalize hx : zx a n = x at *
  generalize hy : zx b n = y at *
  have hc := cond_176 x y n w
  have HA := Lib.hid (box_a w x y n)
  have HB := Lib.hid (box_b w x y n)
  have HN2 := Lib.hid (box_n w x y n)
  have HW := Lib.hid (boxes_below w x y n)
  generalize hW : boxes w x y n = W at *
  obtain ⟨r, hr⟩ : ∃ r, (decide (x ≤ y)) = r := ⟨_, rfl⟩
  rw [hr]
  unfold two at hc
  have HN := Lib.hid hn
  have HX := Lib.hid hx
  have HY := Lib.hid hy
  have HR := Lib.hid hr
  clear hn hx hy hW hr
  have hq := func_nil
  go_enter Try.func10, Try.ntmps10
  go_wp2_with (first
    | (go_at_call 13; refine (size_alu _ _).mono ?_; rintro e w' ⟨rfl, rfl⟩; rw [HN.out])
    | (go_at_call 14; refine (zext_words _ _ _ (by assumption) (by assumption)).mono ?_; rintro e w' ⟨rfl, rfl⟩; first | rw [HX.out] | rw [HY.out])
    | (go_at_call 17; refine hc.mono ?_; rintro e w' ⟨rfl, rfl⟩)
    | (go_at_call 41; refine (jle_c x y _ _ _ HA.out HB.out).mono ?_; rintro e w' ⟨rfl, hb'⟩; have HB' := Lib.hid hb'; clear hb'; rw [HR.out]))
  go_ret2
  exact ⟨rfl, HW.out.trans (HB'.out.mono HW.out.size)⟩
theorem holds_64 (wide : Bool) (a b : Int) (w : World) (ha0 : 0 ≤ a) (ha1 : a ≤ 18446744073709551615) (hb0 : 0 ≤ b) (hb1 : b ≤ 18446744073709551615) :
    Calls Try.prog 10 #[.int .u8 64, .bool wide, .int .u64 a, .int .u64 b] w fun e w' => e = .returned (.tuple #[.bool (bits .and .u64 (zx a (szI wide)) (zx b (szI wide)) != 0), .bool true]) ∧ Below w.heap.size w w' := by
  obtain ⟨x0, x1⟩ := zx_bd (n := szI wide) ha0 ha1
  obtain ⟨y0, y1⟩ := zx_bd (n := szI wide) hb0 hb1
  obtain ⟨n, hn⟩ : ∃ n, szI wide = n := ⟨_, rfl⟩
  rw [hn] at x0 x1 y0 y1 ⊢
  generalize hx : zx a n = x at *
  generalize hy : zx b n = y at *
  have hc := cond_64 x y n w
  have HA := Lib.hid (box_a w x y n)
  have HB := Lib.hid (box_b w x y n)
  have HN2 := Lib.hid (box_n w x y n)
  have HW := Lib.hid (boxes_below w x y n)
  generalize hW : boxes w x y n = W at *
  obtain ⟨r, hr⟩ : ∃ r, (bits .and .u64 x y != 0) = r := ⟨_, rfl⟩
  rw [hr]
  unfold two at hc
  have HN := Lib.hid hn
  have HX := Lib.hid hx
  have HY := Lib.hid hy
  have HR := Lib.hid hr
  clear hn hx hy hW hr
  have hq := func_nil
  go_enter Try.func10, Try.ntmps10
  go_wp2_with (first
    | (go_at_call 13; refine (size_alu _ _).mono ?_; rintro e w' ⟨rfl, rfl⟩; rw [HN.out])
    | (go_at_call 14; refine (zext_words _ _ _ (by assumption) (by assumption)).mono ?_; rintro e w' ⟨rfl, rfl⟩; first | rw [HX.out] | rw [HY.out])
    | (go_at_call 17; refine hc.mono ?_; rintro e w' ⟨rfl, rfl⟩)
    | (go_at_call 46; refine (jset_c x y _ _ _ HA.out HB.out).mono ?_; rintro e w' ⟨rfl, hb'⟩; have HB' := Lib.hid hb'; clear hb'; rw [HR.out]))
  go_ret2
  exact ⟨rfl, HW.out.trans (HB'.out.mono HW.out.size)⟩
theorem holds_96 (wide : Bool) (a b : Int) (w : World) (ha0 : 0 ≤ a) (ha1 : a ≤ 18446744073709551615) (hb0 : 0 ≤ b) (hb1 : b ≤ 18446744073709551615) :
    Calls Try.prog 10 #[.int .u8 96, .bool wide, .int .u64 a, .int .u64 b] w fun e w' => e = .returned (.tuple #[.bool (decide (sgI (zx b (szI wide)) (szI wide) < sgI (zx a (szI wide)) (szI wide))), .bool true]) ∧ Below w.heap.size w w' := by
  obtain ⟨x0, x1⟩ := zx_bd (n := szI wide) ha0 ha1
  obtain ⟨y0, y1⟩ := zx_bd (n := szI wide) hb0 hb1
  obtain ⟨n, hn⟩ : ∃ n, szI wide = n := ⟨_, rfl⟩
  rw [hn] at x0 x1 y0 y1 ⊢
  generalize hx : zx a n = x at *
  generalize hy : zx b n = y at *
  have hc := cond_96 x y n w
  have HA := Lib.hid (box_a w x y n)
  have HB := Lib.hid (box_b w x y n)
  have HN2 := Lib.hid (box_n w x y n)
  have HW := Lib.hid (boxes_below w x y n)
  generalize hW : boxes w x y n = W at *
  obtain ⟨r, hr⟩ : ∃ r, (decide (sgI y n < sgI x n)) = r := ⟨_, rfl⟩
  rw [hr]
  unfold three at hc
  have HN := Lib.hid hn
  have HX := Lib.hid hx
  have HY := Lib.hid hy
  have HR := Lib.hid hr
  clear hn hx hy hW hr
  have hq := func_nil
  go_enter Try.func10, Try.ntmps10
  go_wp2_with (first
    | (go_at_call 13; refine (size_alu _ _).mono ?_; rintro e w' ⟨rfl, rfl⟩; rw [HN.out])
    | (go_at_call 14; refine (zext_words _ _ _ (by assumption) (by assumption)).mono ?_; rintro e w' ⟨rfl, rfl⟩; first | rw [HX.out] | rw [HY.out])
    | (go_at_call 17; refine hc.mono ?_; rintro e w' ⟨rfl, rfl⟩)
    | (go_at_call 42; refine (jsgt_c x y n _ _ _ _ x0 x1 y0 y1 HA.out HB.out HN2.out).mono ?_; rintro e w' ⟨rfl, hb'⟩; have HB' := Lib.hid hb'; clear hb'; rw [HR.out]))
  go_ret2
  exact ⟨rfl, HW.out.trans (HB'.out.mono HW.out.size)⟩
end Go.Proofs.Ytnodajcllgglcaa
