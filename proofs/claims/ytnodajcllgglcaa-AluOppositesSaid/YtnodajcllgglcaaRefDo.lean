/-
  Proved here: what Do of the document's answers tells, of every number: the same closed numbers. Conditions: an operation's number is a uint8, the two others are uint64.
-/
import Derived.Test.YtnodajcllgglcaaDoAll
namespace Go.Proofs.Ytnodajcllgglcaa
open Go.RowKit

theorem zx_8 (x : Int) : zx x 8 = x := rfl
theorem zx_4 (x : Int) : zx x 4 = x % 4294967296 := rfl
theorem cut_ref (x : Int) (wide : Bool) (w : World) (h0 : 0 ≤ x) (h1 : x ≤ 18446744073709551615) : Calls Try.prog 15 #[.int .u64 x, .bool wide] w (Ret (.int .u64 (zx x (szI wide))) w) := by
  unfold Ret
  cases wide
  all_goals
    go_enter Try.func15, Try.ntmps15
    go_wp2
    go_ret
    exact ⟨rfl, rfl⟩
theorem signed_ref (x : Int) (wide : Bool) (w : World) (h0 : 0 ≤ x) (h1 : x ≤ 18446744073709551615) : Calls Try.prog 16 #[.int .u64 x, .bool wide] w (Ret (.int .i64 (sgI x (szI wide))) w) := by
  unfold Ret sgI
  cases wide
  · have e : szI false = 4 := rfl
    rw [e]
    obtain ⟨s, hs⟩ : ∃ s, sx x 4 = s := ⟨_, rfl⟩
    rw [hs]
    have HS := Lib.hid hs
    clear hs e
    go_enter Try.func16, Try.ntmps16
    go_wp2_with (go_at_call 35; refine (sext_ref _ _ _ (by omega) (by omega)).mono ?_; rintro e w' ⟨rfl, rfl⟩; rw [HS.out])
    go_ret
    exact ⟨rfl, rfl⟩
  · have e : sx x (szI true) = x := rfl
    rw [e]
    clear e
    go_enter Try.func16, Try.ntmps16
    go_wp2
    go_ret
    exact ⟨rfl, rfl⟩

section
variable (wide : Bool) (a b : Int) (w : World)
theorem ref_0 (ha0 : 0 ≤ a) (ha1 : a ≤ 18446744073709551615) (hb0 : 0 ≤ b) (hb1 : b ≤ 18446744073709551615) :
    Calls Try.prog 9 #[.int .u8 0, .bool wide, .int .u64 a, .int .u64 b] w (Ret (.tuple #[.int .u64 (doI 0 wide a b), .bool true]) w) := by
  unfold Ret
  have ed : doI 0 wide a b = zx (IntKind.u64.wrap ((zx a (szI wide)) + (zx b (szI wide)))) (szI wide) := rfl
  rw [ed]
  clear ed
  obtain ⟨x0, x1⟩ := zx_bd (n := szI wide) ha0 ha1
  obtain ⟨y0, y1⟩ := zx_bd (n := szI wide) hb0 hb1
  generalize hx : zx a (szI wide) = x at *
  generalize hy : zx b (szI wide) = y at *
  obtain ⟨r0, r1⟩ := wrap_bd (x + y)
  have HX := Lib.hid hx
  have HY := Lib.hid hy
  clear hx hy
  cases wide
  all_goals
    go_enter Try.func9, Try.ntmps9
    go_wp2_with (go_at_call 15; refine (cut_ref _ _ _ (by assumption) (by assumption)).mono ?_; rintro e w' ⟨rfl, rfl⟩; first | rw [HX.out] | rw [HY.out] | skip)
    go_ret2
    exact ⟨rfl, rfl⟩
theorem ref_16 (ha0 : 0 ≤ a) (ha1 : a ≤ 18446744073709551615) (hb0 : 0 ≤ b) (hb1 : b ≤ 18446744073709551615) :
    Calls Try.prog 9 #[.int .u8 16, .bool wide, .int .u64 a, .int .u64 b] w (Ret (.tuple #[.int .u64 (doI 16 wide a b), .bool true]) w) := by
  unfold Ret
  have ed : doI 16 wide a b = zx (IntKind.u64.wrap ((zx a (szI wide)) - (zx b (szI wide)))) (szI wide) := rfl
  rw [ed]
  clear ed
  obtain ⟨x0, x1⟩ := zx_bd (n := szI wide) ha0 ha1
  obtain ⟨y0, y1⟩ := zx_bd (n := szI wide) hb0 hb1
  generalize hx : zx a (szI wide) = x at *
  generalize hy : zx b (szI wide) = y at *
  obtain ⟨r0, r1⟩ := wrap_bd (x - y)
  have HX := Lib.hid hx
  have HY := Lib.hid hy
  clear hx hy
  cases wide
  all_goals
    go_enter Try.func9, Try.ntmps9
    go_wp2_with (go_at_call 15; refine (cut_ref _ _ _ (by assumption) (by assumption)).mono ?_; rintro e w' ⟨rfl, rfl⟩; first | rw [HX.out] | rw [HY.out] | skip)
    go_ret2
    exact ⟨rfl, rfl⟩
theorem ref_32 (ha0 : 0 ≤ a) (ha1 : a ≤ 18446744073709551615) (hb0 : 0 ≤ b) (hb1 : b ≤ 18446744073709551615) :
    Calls Try.prog 9 #[.int .u8 32, .bool wide, .int .u64 a, .int .u64 b] w (Ret (.tuple #[.int .u64 (doI 32 wide a b), .bool true]) w) := by
  unfold Ret
  have ed : doI 32 wide a b = zx (IntKind.u64.wrap ((zx a (szI wide)) * (zx b (szI wide)))) (szI wide) := rfl
  rw [ed]
  clear ed
  obtain ⟨x0, x1⟩ := zx_bd (n := szI wide) ha0 ha1
  obtain ⟨y0, y1⟩ := zx_bd (n := szI wide) hb0 hb1
  generalize hx : zx a (szI wide) = x at *
  generalize hy : zx b (szI wide) = y at *
  obtain ⟨r0, r1⟩ := wrap_bd (x * y)
  have HX := Lib.hid hx
  have HY := Lib.hid hy
  clear hx hy
  cases wide
  all_goals
    go_enter Try.func9, Try.ntmps9
    go_wp2_with (go_at_call 15; refine (cut_ref _ _ _ (by assumption) (by assumption)).mono ?_; rintro e w' ⟨rfl, rfl⟩; first | rw [HX.out] | rw [HY.out] | skip)
    go_ret2
    exact ⟨rfl, rfl⟩
theorem ref_48 (ha0 : 0 ≤ a) (ha1 : a ≤ 18446744073709551615) (hb0 : 0 ≤ b) (hb1 : b ≤ 18446744073709551615) :
    Calls Try.prog 9 #[.int .u8 48, .bool wide, .int .u64 a, .int .u64 b] w (Ret (.tuple #[.int .u64 (doI 48 wide a b), .bool true]) w) := by
  unfold Ret
  have ed : doI 48 wide a b = zx ((zx a (szI wide)) / (zx b (szI wide))) (szI wide) := rfl
  rw [ed]
  clear ed
  obtain ⟨x0, x1⟩ := zx_bd (n := szI wide) ha0 ha1
  obtain ⟨y0, y1⟩ := zx_bd (n := szI wide) hb0 hb1
  generalize hx : zx a (szI wide) = x at *
  generalize hy : zx b (szI wide) = y at *
  obtain ⟨r0, r1⟩ := div_bd x0 x1 y0
  have HX := Lib.hid hx
  have HY := Lib.hid hy
  clear hx hy
  by_cases h : y = 0
  · subst h
    rw [Int.ediv_zero] at *
    cases wide
    all_goals
      go_enter Try.func9, Try.ntmps9
      go_wp2_with (go_at_call 15; refine (cut_ref _ _ _ (by assumption) (by assumption)).mono ?_; rintro e w' ⟨rfl, rfl⟩; first | rw [HX.out] | rw [HY.out] | skip)
      go_ret2
      exact ⟨rfl, rfl⟩
  · cases wide
    all_goals
      go_enter Try.func9, Try.ntmps9
      go_wp2_with (go_at_call 15; refine (cut_ref _ _ _ (by assumption) (by assumption)).mono ?_; rintro e w' ⟨rfl, rfl⟩; first | rw [HX.out] | rw [HY.out] | skip)
      go_ret2
      exact ⟨rfl, rfl⟩
theorem ref_64 (ha0 : 0 ≤ a) (ha1 : a ≤ 18446744073709551615) (hb0 : 0 ≤ b) (hb1 : b ≤ 18446744073709551615) :
    Calls Try.prog 9 #[.int .u8 64, .bool wide, .int .u64 a, .int .u64 b] w (Ret (.tuple #[.int .u64 (doI 64 wide a b), .bool true]) w) := by
  unfold Ret
  have ed : doI 64 wide a b = zx (bits .or .u64 (zx a (szI wide)) (zx b (szI wide))) (szI wide) := rfl
  rw [ed]
  clear ed
  obtain ⟨x0, x1⟩ := zx_bd (n := szI wide) ha0 ha1
  obtain ⟨y0, y1⟩ := zx_bd (n := szI wide) hb0 hb1
  generalize hx : zx a (szI wide) = x at *
  generalize hy : zx b (szI wide) = y at *
  obtain ⟨r0, r1⟩ := (bits_bd x0 x1 y0 y1).1
  have HX := Lib.hid hx
  have HY := Lib.hid hy
  clear hx hy
  cases wide
  all_goals
    go_enter Try.func9, Try.ntmps9
    go_wp2_with (go_at_call 15; refine (cut_ref _ _ _ (by assumption) (by assumption)).mono ?_; rintro e w' ⟨rfl, rfl⟩; first | rw [HX.out] | rw [HY.out] | skip)
    go_ret2
    exact ⟨rfl, rfl⟩
theorem ref_80 (ha0 : 0 ≤ a) (ha1 : a ≤ 18446744073709551615) (hb0 : 0 ≤ b) (hb1 : b ≤ 18446744073709551615) :
    Calls Try.prog 9 #[.int .u8 80, .bool wide, .int .u64 a, .int .u64 b] w (Ret (.tuple #[.int .u64 (doI 80 wide a b), .bool true]) w) := by
  unfold Ret
  have ed : doI 80 wide a b = zx (bits .and .u64 (zx a (szI wide)) (zx b (szI wide))) (szI wide) := rfl
  rw [ed]
  clear ed
  obtain ⟨x0, x1⟩ := zx_bd (n := szI wide) ha0 ha1
  obtain ⟨y0, y1⟩ := zx_bd (n := szI wide) hb0 hb1
  generalize hx : zx a (szI wide) = x at *
  generalize hy : zx b (szI wide) = y at *
  obtain ⟨r0, r1⟩ := (bits_bd x0 x1 y0 y1).2.1
  have HX := Lib.hid hx
  have HY := Lib.hid hy
  clear hx hy
  cases wide
  all_goals
    go_enter Try.func9, Try.ntmps9
    go_wp2_with (go_at_call 15; refine (cut_ref _ _ _ (by assumption) (by assumption)).mono ?_; rintro e w' ⟨rfl, rfl⟩; first | rw [HX.out] | rw [HY.out] | skip)
    go_ret2
    exact ⟨rfl, rfl⟩
end
end Go.Proofs.Ytnodajcllgglcaa
