/-
  Proved here: what Holds of package alu tells of the conditions 16, 80, 32, 48. Conditions: an operation's number is a uint8, the two others are uint64.
-/
import Derived.Test.YtnodajcllgglcaaCondAll
import Derived.Test.YtnodajcllgglcaaDo
namespace Go.Proofs.Ytnodajcllgglcaa
open Go.RowKit
theorem holds_16 (wide : Bool) (a b : Int) (w : World) (ha0 : 0 ≤ a) (ha1 : a ≤ 18446744073709551615) (hb0 : 0 ≤ b) (hb1 : b ≤ 18446744073709551615) :
    Calls Try.prog 10 #[.int .u8 16, .bool wide, .int .u64 a, .int .u64 b] w fun e w' => e = .returned (.tuple #[.bool ((zx a (szI wide)) == (zx b (szI wide))), .bool true]) ∧ Below w.heap.size w w' := by
  obtain ⟨x0, x1⟩ := zx_bd (n := szI wide) ha0 ha1
  obtain ⟨y0, y1⟩ := zx_bd (n := szI wide) hb0 hb1
  obtain ⟨n, hn⟩ : ∃ n, szI wide = n := ⟨_, rfl⟩
  rw [hn] at x0 x1 y0 y1 ⊢
  generalize hx : zx a n = x at *
  generalize hy : zx b n = y at *
  have hc := cond_16 x y n w
  have HA := Lib.hid (box_a w x y n)
  have HB := Lib.hid (box_b w x y n)
  have HN2 := Lib.hid (box_n w x y n)
  have HW := Lib.hid (boxes_below w x y n)
  generalize hW : boxes w x y n = W at *
  obtain ⟨r, hr⟩ : ∃ r, (x == y) = r := ⟨_, rfl⟩
  rw [hr]
  unfold two at hc
  have HN := Lib.hid hn
  have HX := Lib.hid hx
  have HY := Lib.hid hy
  have HR := Lib.hid hr
  clear hn hx hy hW hr
  have hq := func_nil
  go_enter Try.func10, Try.ntmps10
  go_wp2_with (first
    | (go_at_call 13; refine (size_alu _ _).mono ?_; rintro e w' ⟨rfl, rfl⟩; rw [HN.out])
    | (go_at_call 14; refine (zext_words _ _ _ (by assumption) (by assumption)).mono ?_; rintro e w' ⟨rfl, rfl⟩; first | rw [HX.out] | rw [HY.out])
    | (go_at_call 17; refine hc.mono ?_; rintro e w' ⟨rfl, rfl⟩)
    | (go_at_call 36; refine (jeq_c x y _ _ _ HA.out HB.out).mono ?_; rintro e w' ⟨rfl, hb'⟩; have HB' := Lib.hid hb'; clear hb'; rw [HR.out]))
  go_ret2
  exact ⟨rfl, HW.out.trans (HB'.out.mono HW.out.size)⟩
theorem holds_80 (wide : Bool) (a b : Int) (w : World) (ha0 : 0 ≤ a) (ha1 : a ≤ 18446744073709551615) (hb0 : 0 ≤ b) (hb1 : b ≤ 18446744073709551615) :
    Calls Try.prog 10 #[.int .u8 80, .bool wide, .int .u64 a, .int .u64 b] w fun e w' => e = .returned (.tuple #[.bool ((zx a (szI wide)) != (zx b (szI wide))), .bool true]) ∧ Below w.heap.size w w' := by
  obtain ⟨x0, x1⟩ := zx_bd (n := szI wide) ha0 ha1
  obtain ⟨y0, y1⟩ := zx_bd (n := szI wide) hb0 hb1
  obtain ⟨n, hn⟩ : ∃ n, szI wide = n := ⟨_, rfl⟩
  rw [hn] at x0 x1 y0 y1 ⊢
  generalize hx : zx a n = x at *
  generalize hy : zx b n = y at *
  have hc := cond_80 x y n w
  have HA := Lib.hid (box_a w x y n)
  have HB := Lib.hid (box_b w x y n)
  have HN2 := Lib.hid (box_n w x y n)
  have HW := Lib.hid (boxes_below w x y n)
  generalize hW : boxes w x y n = W at *
  obtain ⟨r, hr⟩ : ∃ r, (x != y) = r := ⟨_, rfl⟩
  rw [hr]
  unfold two at hc
  have HN := Lib.hid hn
  have HX := Lib.hid hx
  have HY := Lib.hid hy
  have HR := Lib.hid hr
  clear hn hx hy hW hr
  have hq := func_nil
  go_enter Try.func10, Try.ntmps10
  go_wp2_with (first
    | (go_at_call 13; refine (size_alu _ _).mono ?_; rintro e w' ⟨rfl, rfl⟩; rw [HN.out])
    | (go_at_call 14; refine (zext_words _ _ _ (by assumption) (by assumption)).mono ?_; rintro e w' ⟨rfl, rfl⟩; first | rw [HX.out] | rw [HY.out])
    | (go_at_call 17; refine hc.mono ?_; rintro e w' ⟨rfl, rfl⟩)
    | (go_at_call 37; refine (jne_c x y _ _ _ HA.out HB.out).mono ?_; rintro e w' ⟨rfl, hb'⟩; have HB' := Lib.hid hb'; clear hb'; rw [HR.out]))
  go_ret2
  exact ⟨rfl, HW.out.trans (HB'.out.mono HW.out.size)⟩
theorem holds_32 (wide : Bool) (a b : Int) (w : World) (ha0 : 0 ≤ a) (ha1 : a ≤ 18446744073709551615) (hb0 : 0 ≤ b) (hb1 : b ≤ 18446744073709551615) :
    Calls Try.prog 10 #[.int .u8 32, .bool wide, .int .u64 a, .int .u64 b] w fun e w' => e = .returned (.tuple #[.bool (decide ((zx b (szI wide)) < (zx a (szI wide)))), .bool true]) ∧ Below w.heap.size w w' := by
  obtain ⟨x0, x1⟩ := zx_bd (n := szI wide) ha0 ha1
  obtain ⟨y0, y1⟩ := zx_bd (n := szI wide) hb0 hb1
  obtain ⟨n, hn⟩ : ∃ n, szI wide = n := ⟨_, rfl⟩
  rw [hn] at x0 x1 y0 y1 ⊢
  generalize hx : zx a n = x at *
  generalize hy : zx b n = y at *
  have hc := cond_32 x y n w
  have HA := Lib.hid (box_a w x y n)
  have HB := Lib.hid (box_b w x y n)
  have HN2 := Lib.hid (box_n w x y n)
  have HW := Lib.hid (boxes_below w x y n)
  generalize hW : boxes w x y n = W at *
  obtain ⟨r, hr⟩ : ∃ r, (decide (y < x)) = r := ⟨_, rfl⟩
  rw [hr]
  unfold two at hc
  have HN := Lib.hid hn
  have HX := Lib.hid hx
  have HY := Lib.hid hy
  have HR := Lib.hid hr
  clear hn hx hy hW hr
  have hq := func_nil
  go_enter Try.func10, Try.ntmps10
  go_wp2_with (first
    | (go_at_call 13; refine (size_alu _ _).mono ?_; rintro e w' ⟨rfl, rfl⟩; rw [HN.out])
    | (go_at_call 14; refine (zext_words _ _ _ (by assumption) (by assumption)).mono ?_; rintro e w' ⟨rfl, rfl⟩; first | rw [HX.out] | rw [HY.out])
    | (go_at_call 17; refine hc.mono ?_; rintro e w' ⟨rfl, rfl⟩)
    | (go_at_call 38; refine (jgt_c x y _ _ _ HA.out HB.out).mono ?_; rintro e w' ⟨rfl, hb'⟩; have HB' := Lib.hid hb'; clear hb'; rw [HR.out]))
  go_ret2
  exact ⟨rfl, HW.out.trans (HB'.out.mono HW.out.size)⟩
theorem holds_48 (wide : Bool) (a b : Int) (w : World) (ha0 : 0 ≤ a) (ha1 : a ≤ 18446744073709551615) (hb0 : 0 ≤ b) (hb1 : b ≤ 18446744073709551615) :
    Calls Try.prog 10 #[.int .u8 48, .bool wide, .int .u64 a, .int .u64 b] w fun e w' => e = .returned (.tuple #[.bool (decide ((zx b (szI wide)) ≤ (zx a (szI wide)))), .bool true]) ∧ Below w.heap.size w w' := by
  obtain ⟨x0, x1⟩ := zx_bd (n := szI wide) ha0 ha1
  obtain ⟨y0, y1⟩ := zx_bd (n := szI wide) hb0 hb1
  obtain ⟨n, hn⟩ : ∃ n, szI wide = n := ⟨_, rfl⟩
  rw [hn] at x0 x1 y0 y1 ⊢
  generalize hx : zx a n = x at *
  generalize hy : zx b n = y at *
  have hc := cond_48 x y n w
  have HA := Lib.hid (box_a w x y n)
  have HB := Lib.hid (box_b w x y n)
  have HN2 := Lib.hid (box_n w x y n)
  have HW := Lib.hid (boxes_below w x y n)
  generalize hW : boxes w x y n = W at *
  obtain ⟨r, hr⟩ : ∃ r, (decide (y ≤ x)) = r := ⟨_, rfl⟩
  rw [hr]
  unfold two at hc
  have HN := Lib.hid hn
  have HX := Lib.hid hx
  have HY := Lib.hid hy
  have HR := Lib.hid hr
  clear hn hx hy hW hr
  have hq := func_nil
  go_enter Try.func10, Try.ntmps10
  go_wp2_with (first
    | (go_at_call 13; refine (size_alu _ _).mono ?_; rintro e w' ⟨rfl, rfl⟩; rw [HN.out])
    | (go_at_call 14; refine (zext_words _ _ _ (by assumption) (by assumption)).mono ?_; rintro e w' ⟨rfl, rfl⟩; first | rw [HX.out] | rw [HY.out])
    | (go_at_call 17; refine hc.mono ?_; rintro e w' ⟨rfl, rfl⟩)
    | (go_at_call 39; refine (jge_c x y _ _ _ HA.out HB.out).mono ?_; rintro e w' ⟨rfl, hb'⟩; have HB' := Lib.hid hb'; clear hb'; rw [HR.out]))
  go_ret2
  exact ⟨rfl, HW.out.trans (HB'.out.mono HW.out.size)⟩
end Go.Proofs.Ytnodajcllgglcaa
