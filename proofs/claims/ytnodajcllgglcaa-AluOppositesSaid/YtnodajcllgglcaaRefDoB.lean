/-
  Proved here: what Do of the document's answers tells, of every number: the same closed numbers. Conditions: an operation's number is a uint8, the two others are uint64.
-/
import Derived.Test.YtnodajcllgglcaaRefDo
namespace Go.Proofs.Ytnodajcllgglcaa
open Go.RowKit

section
variable (wide : Bool) (a b : Int) (w : World)
theorem ref_128 (ha0 : 0 ≤ a) (ha1 : a ≤ 18446744073709551615) (hb0 : 0 ≤ b) (hb1 : b ≤ 18446744073709551615) :
    Calls Try.prog 9 #[.int .u8 128, .bool wide, .int .u64 a, .int .u64 b] w (Ret (.tuple #[.int .u64 (doI 128 wide a b), .bool true]) w) := by
  unfold Ret
  have ed : doI 128 wide a b = zx (IntKind.u64.wrap (-(zx a (szI wide)))) (szI wide) := rfl
  rw [ed]
  clear ed
  obtain ⟨x0, x1⟩ := zx_bd (n := szI wide) ha0 ha1
  obtain ⟨y0, y1⟩ := zx_bd (n := szI wide) hb0 hb1
  generalize hx : zx a (szI wide) = x at *
  generalize hy : zx b (szI wide) = y at *
  have en : 0 - x = -x := by omega
  obtain ⟨r0, r1⟩ := wrap_bd (-x)
  have HX := Lib.hid hx
  have HY := Lib.hid hy
  clear hx hy
  cases wide
  all_goals
    go_enter Try.func9, Try.ntmps9
    go_wp2_with (go_at_call 15; refine (cut_ref _ _ _ (by assumption) (by assumption)).mono ?_; rintro e w' ⟨rfl, rfl⟩; first | rw [HX.out] | rw [HY.out] | skip)
    go_ret2
    exact ⟨rfl, rfl⟩
theorem ref_144 (ha0 : 0 ≤ a) (ha1 : a ≤ 18446744073709551615) (hb0 : 0 ≤ b) (hb1 : b ≤ 18446744073709551615) :
    Calls Try.prog 9 #[.int .u8 144, .bool wide, .int .u64 a, .int .u64 b] w (Ret (.tuple #[.int .u64 (doI 144 wide a b), .bool true]) w) := by
  unfold Ret
  have ed : doI 144 wide a b = zx ((zx a (szI wide)) % (zx b (szI wide))) (szI wide) := rfl
  rw [ed]
  clear ed
  obtain ⟨x0, x1⟩ := zx_bd (n := szI wide) ha0 ha1
  obtain ⟨y0, y1⟩ := zx_bd (n := szI wide) hb0 hb1
  generalize hx : zx a (szI wide) = x at *
  generalize hy : zx b (szI wide) = y at *
  obtain ⟨r0, r1⟩ := mod_bd x0 x1 y0 y1
  have HX := Lib.hid hx
  have HY := Lib.hid hy
  clear hx hy
  by_cases h : y = 0
  · subst h
    rw [Int.emod_zero] at *
    cases wide
    all_goals
      go_enter Try.func9, Try.ntmps9
      go_wp2_with (go_at_call 15; refine (cut_ref _ _ _ (by assumption) (by assumption)).mono ?_; rintro e w' ⟨rfl, rfl⟩; first | rw [HX.out] | rw [HY.out] | skip)
      go_ret2
      exact ⟨rfl, rfl⟩
  · cases wide
    all_goals
      go_enter Try.func9, Try.ntmps9
      go_wp2_with (go_at_call 15; refine (cut_ref _ _ _ (by assumption) (by assumption)).mono ?_; rintro e w' ⟨rfl, rfl⟩; first | rw [HX.out] | rw [HY.out] | skip)
      go_ret2
      exact ⟨rfl, rfl⟩
theorem ref_160 (ha0 : 0 ≤ a) (ha1 : a ≤ 18446744073709551615) (hb0 : 0 ≤ b) (hb1 : b ≤ 18446744073709551615) :
    Calls Try.prog 9 #[.int .u8 160, .bool wide, .int .u64 a, .int .u64 b] w (Ret (.tuple #[.int .u64 (doI 160 wide a b), .bool true]) w) := by
  unfold Ret
  have ed : doI 160 wide a b = zx (bits .xor .u64 (zx a (szI wide)) (zx b (szI wide))) (szI wide) := rfl
  rw [ed]
  clear ed
  obtain ⟨x0, x1⟩ := zx_bd (n := szI wide) ha0 ha1
  obtain ⟨y0, y1⟩ := zx_bd (n := szI wide) hb0 hb1
  generalize hx : zx a (szI wide) = x at *
  generalize hy : zx b (szI wide) = y at *
  obtain ⟨r0, r1⟩ := (bits_bd x0 x1 y0 y1).2.2
  have HX := Lib.hid hx
  have HY := Lib.hid hy
  clear hx hy
  cases wide
  all_goals
    go_enter Try.func9, Try.ntmps9
    go_wp2_with (go_at_call 15; refine (cut_ref _ _ _ (by assumption) (by assumption)).mono ?_; rintro e w' ⟨rfl, rfl⟩; first | rw [HX.out] | rw [HY.out] | skip)
    go_ret2
    exact ⟨rfl, rfl⟩
theorem ref_176 (ha0 : 0 ≤ a) (ha1 : a ≤ 18446744073709551615) (hb0 : 0 ≤ b) (hb1 : b ≤ 18446744073709551615) :
    Calls Try.prog 9 #[.int .u8 176, .bool wide, .int .u64 a, .int .u64 b] w (Ret (.tuple #[.int .u64 (doI 176 wide a b), .bool true]) w) := by
  unfold Ret
  have ed : doI 176 wide a b = zx ((zx b (szI wide))) (szI wide) := rfl
  rw [ed]
  clear ed
  obtain ⟨x0, x1⟩ := zx_bd (n := szI wide) ha0 ha1
  obtain ⟨y0, y1⟩ := zx_bd (n := szI wide) hb0 hb1
  generalize hx : zx a (szI wide) = x at *
  generalize hy : zx b (szI wide) = y at *
  have HX := Lib.hid hx
  have HY := Lib.hid hy
  clear hx hy
  cases wide
  all_goals
    go_enter Try.func9, Try.ntmps9
    go_wp2_with (go_at_call 15; refine (cut_ref _ _ _ (by assumption) (by assumption)).mono ?_; rintro e w' ⟨rfl, rfl⟩; first | rw [HX.out] | rw [HY.out] | skip)
    go_ret2
    exact ⟨rfl, rfl⟩
end
end Go.Proofs.Ytnodajcllgglcaa
