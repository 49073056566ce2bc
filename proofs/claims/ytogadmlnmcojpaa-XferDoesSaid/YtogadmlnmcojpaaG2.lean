/-
  Proved here: what Do of the document's answers tells, of every number: the same closed numbers. Conditions: an operation's number is a uint8, the two others are uint64.
-/
import Derived.Test.YtogadmlnmcojpaaG1
namespace Go.Proofs.Ytogadmlnmcojpaa
open Go.RowKit

theorem zx_8 (x : Int) : zx x 8 = x := rfl
theorem zx_4 (x : Int) : zx x 4 = x % 4294967296 := rfl
theorem cut_ref (x : Int) (wide : Bool) (w : World) (h0 : 0 ≤ x) (h1 : x ≤ 18446744073709551615) : Calls Try.prog 24 #[.int .u64 x, .bool wide] w (Ret (.int .u64 (zx x (szI wide))) w) := by
  unfold Ret
  cases wide
  all_goals
    go_enter Try.func24, Try.ntmps24
    go_wp2
    go_ret
    exact ⟨rfl, rfl⟩
theorem signed_ref (x : Int) (wide : Bool) (w : World) (h0 : 0 ≤ x) (h1 : x ≤ 18446744073709551615) : Calls Try.prog 25 #[.int .u64 x, .bool wide] w (Ret (.int .i64 (sgI x (szI wide))) w) := by
  unfold Ret sgI
  cases wide
  · have e : szI false = 4 := rfl
    rw [e]
    obtain ⟨s, hs⟩ : ∃ s, sx x 4 = s := ⟨_, rfl⟩
    rw [hs]
    have HS := Lib.hid hs
    clear hs e
    go_enter Try.func25, Try.ntmps25
    go_wp2_with (go_at_call 47; refine (sext_ref _ _ _ (by omega) (by omega)).mono ?_; rintro e w' ⟨rfl, rfl⟩; rw [HS.out])
    go_ret
    exact ⟨rfl, rfl⟩
  · have e : sx x (szI true) = x := rfl
    rw [e]
    clear e
    go_enter Try.func25, Try.ntmps25
    go_wp2
    go_ret
    exact ⟨rfl, rfl⟩

section
variable (wide : Bool) (a b : Int) (w : World)
theorem ref_0 (ha0 : 0 ≤ a) (ha1 : a ≤ 18446744073709551615) (hb0 : 0 ≤ b) (hb1 : b ≤ 18446744073709551615) :
    Calls Try.prog 10 #[.int .u8 0, .bool wide, .int .u64 a, .int .u64 b] w (Ret (.tuple #[.int .u64 (doI 0 wide a b), .bool true]) w) := by
  unfold Ret
  have ed : doI 0 wide a b = zx (IntKind.u64.wrap ((zx a (szI wide)) + (zx b (szI wide)))) (szI wide) := rfl
  rw [ed]
  clear ed
  obtain ⟨x0, x1⟩ := zx_bd (n := szI wide) ha0 ha1
  obtain ⟨y0, y1⟩ := zx_bd (n := szI wide) hb0 hb1
  generalize hx : zx a (szI wide) = x at *
  generalize hy : zx b (szI wide) = y at *
  obtain ⟨r0, r1⟩ := wrap_bd (x + y)
  have HX := Lib.hid hx
  have HY := Lib.hid hy
  clear hx hy
  cases wide
  all_goals
    go_enter Try.func10, Try.ntmps10
    go_wp2_with (go_at_call 24; refine (cut_ref _ _ _ (by assumption) (by assumption)).mono ?_; rintro e w' ⟨rfl, rfl⟩; first | rw [HX.out] | rw [HY.out] | skip)
    go_ret2
    exact ⟨rfl, rfl⟩
theorem ref_16 (ha0 : 0 ≤ a) (ha1 : a ≤ 18446744073709551615) (hb0 : 0 ≤ b) (hb1 : b ≤ 18446744073709551615) :
    Calls Try.prog 10 #[.int .u8 16, .bool wide, .int .u64 a, .int .u64 b] w (Ret (.tuple #[.int .u64 (doI 16 wide a b), .bool true]) w) := by
  unfold Ret
  have ed : doI 16 wide a b = zx (IntKind.u64.wrap ((zx a (szI wide)) - (zx b (szI wide)))) (szI wide) := rfl
  rw [ed]
  clear ed
  obtain ⟨x0, x1⟩ := zx_bd (n := szI wide) ha0 ha1
  obtain ⟨y0, y1⟩ := zx_bd (n := szI wide) hb0 hb1
  generalize hx : zx a (szI wide) = x at *
  generalize hy : zx b (szI wide) = y at *
  obtain ⟨r0, r1⟩ := wrap_bd (x - y)
  have HX := Lib.hid hx
  have HY := Lib.hid hy
  clear hx hy
  cases wide
  all_goals
    go_enter Try.func10, Try.ntmps10
    go_wp2_with (go_at_call 24; refine (cut_ref _ _ _ (by assumption) (by assumption)).mono ?_; rintro e w' ⟨rfl, rfl⟩; first | rw [HX.out] | rw [HY.out] | skip)
    go_ret2
    exact ⟨rfl, rfl⟩
theorem ref_32 (ha0 : 0 ≤ a) (ha1 : a ≤ 18446744073709551615) (hb0 : 0 ≤ b) (hb1 : b ≤ 18446744073709551615) :
    Calls Try.prog 10 #[.int .u8 32, .bool wide, .int .u64 a, .int .u64 b] w (Ret (.tuple #[.int .u64 (doI 32 wide a b), .bool true]) w) := by
  unfold Ret
  have ed : doI 32 wide a b = zx (IntKind.u64.wrap ((zx a (szI wide)) * (zx b (szI wide)))) (szI wide) := rfl
  rw [ed]
  clear ed
  obtain ⟨x0, x1⟩ := zx_bd (n := szI wide) ha0 ha1
  obtain ⟨y0, y1⟩ := zx_bd (n := szI wide) hb0 hb1
  generalize hx : zx a (szI wide) = x at *
  generalize hy : zx b (szI wide) = y at *
  obtain ⟨r0, r1⟩ := wrap_bd (x * y)
  have HX := Lib.hid hx
  have HY := Lib.hid hy
  clear hx hy
  cases wide
  all_goals
    go_enter Try.func10, Try.ntmps10
    go_wp2_with (go_at_call 24; refine (cut_ref _ _ _ (by assumption) (by assumption)).mono ?_; rintro e w' ⟨rfl, rfl⟩; first | rw [HX.out] | rw [HY.out] | skip)
    go_ret2
    exact ⟨rfl, rfl⟩
theorem ref_48 (ha0 : 0 ≤ a) (ha1 : a ≤ 18446744073709551615) (hb0 : 0 ≤ b) (hb1 : b ≤ 18446744073709551615) :
    Calls Try.prog 10 #[.int .u8 48, .bool wide, .int .u64 a, .int .u64 b] w (Ret (.tuple #[.int .u64 (doI 48 wide a b), .bool true]) w) := by
  unfold Ret
  have ed : doI 48 wide a b = zx ((zx a (szI wide)) / (zx b (szI wide))) (szI wide) := rfl
  rw [ed]
  clear ed
  obtain ⟨x0, x1⟩ := zx_bd (n := szI wide) ha0 ha1
  obtain ⟨y0, y1⟩ := zx_bd (n := szI wide) hb0 hb1
  generalize hx : zx a (szI wide) = x at *
  generalize hy : zx b (szI wide) = y at *
  obtain ⟨r0, r1⟩ := quo_bd x0 x1 y0
  have HX := Lib.hid hx
  have HY := Lib.hid hy
  clear hx hy
  by_cases h : y = 0
  · subst h
    rw [Int.ediv_zero] at *
    cases wide
    all_goals
      go_enter Try.func10, Try.ntmps10
      go_wp2_with (go_at_call 24; refine (cut_ref _ _ _ (by assumption) (by assumption)).mono ?_; rintro e w' ⟨rfl, rfl⟩; first | rw [HX.out] | rw [HY.out] | skip)
      go_ret2
      exact ⟨rfl, rfl⟩
  · cases wide
    all_goals
      go_enter Try.func10, Try.ntmps10
      go_wp2_with (go_at_call 24; refine (cut_ref _ _ _ (by assumption) (by assumption)).mono ?_; rintro e w' ⟨rfl, rfl⟩; first | rw [HX.out] | rw [HY.out] | skip)
      go_ret2
      exact ⟨rfl, rfl⟩
theorem ref_64 (ha0 : 0 ≤ a) (ha1 : a ≤ 18446744073709551615) (hb0 : 0 ≤ b) (hb1 : b ≤ 18446744073709551615) :
    Calls Try.prog 10 #[.int .u8 64, .bool wide, .int .u64 a, .int .u64 b] w (Ret (.tuple #[.int .u64 (doI 64 wide a b), .bool true]) w) := by
  unfold Ret
  have ed : doI 64 wide a b = zx (bits .or .u64 (zx a (szI wide)) (zx b (szI wide))) (szI wide) := rfl
  rw [ed]
  clear ed
  obtain ⟨x0, x1⟩ := zx_bd (n := szI wide) ha0 ha1
  obtain ⟨y0, y1⟩ := zx_bd (n := szI wide) hb0 hb1
  generalize hx : zx a (szI wide) = x at *
  generalize hy : zx b (szI wide) = y at *
  obtain ⟨r0, r1⟩ := (bits_bd x0 x1 y0 y1).1
  have HX := Lib.hid hx
  have HY := Lib.hid hy
  clear hx hy
  cases wide
  all_goals
    go_enter Try.func10, Try.ntmps10
    go_wp2_with (go_at_call 24; refine (cut_ref _ _ _ (by assumption) (by assumption)).mono ?_; rintro e w' ⟨rfl, rfl⟩; first | rw [HX.out] | rw [HY.out] | skip)
    go_ret2
    exact ⟨rfl, rfl⟩
theorem ref_80 (ha0 : 0 ≤ a) (ha1 : a ≤ 18446744073709551615) (hb0 : 0 ≤ b) (hb1 : b ≤ 18446744073709551615) :
    Calls Try.prog 10 #[.int .u8 80, .bool wide, .int .u64 a, .int .u64 b] w (Ret (.tuple #[.int .u64 (doI 80 wide a b), .bool true]) w) := by
  unfold Ret
  have ed : doI 80 wide a b = zx (bits .and .u64 (zx a (szI wide)) (zx b (szI wide))) (szI wide) := rfl
  rw [ed]
  clear ed
  obtain ⟨x0, x1⟩ := zx_bd (n := szI wide) ha0 ha1
  obtain ⟨y0, y1⟩ := zx_bd (n := szI wide) hb0 hb1
  generalize hx : zx a (szI wide) = x at *
  generalize hy : zx b (szI wide) = y at *
  obtain ⟨r0, r1⟩ := (bits_bd x0 x1 y0 y1).2.1
  have HX := Lib.hid hx
  have HY := Lib.hid hy
  clear hx hy
  cases wide
  all_goals
    go_enter Try.func10, Try.ntmps10
    go_wp2_with (go_at_call 24; refine (cut_ref _ _ _ (by assumption) (by assumption)).mono ?_; rintro e w' ⟨rfl, rfl⟩; first | rw [HX.out] | rw [HY.out] | skip)
    go_ret2
    exact ⟨rfl, rfl⟩
end
end Go.Proofs.Ytogadmlnmcojpaa

/-
  Proved here: what Do of the document's answers tells, of every number: the same closed numbers. Conditions: an operation's number is a uint8, the two others are uint64.
-/
namespace Go.Proofs.Ytogadmlnmcojpaa
open Go.RowKit

section
variable (wide : Bool) (a b : Int) (w : World)
theorem ref_128 (ha0 : 0 ≤ a) (ha1 : a ≤ 18446744073709551615) (hb0 : 0 ≤ b) (hb1 : b ≤ 18446744073709551615) :
    Calls Try.prog 10 #[.int .u8 128, .bool wide, .int .u64 a, .int .u64 b] w (Ret (.tuple #[.int .u64 (doI 128 wide a b), .bool true]) w) := by
  unfold Ret
  have ed : doI 128 wide a b = zx (IntKind.u64.wrap (-(zx a (szI wide)))) (szI wide) := rfl
  rw [ed]
  clear ed
  obtain ⟨x0, x1⟩ := zx_bd (n := szI wide) ha0 ha1
  obtain ⟨y0, y1⟩ := zx_bd (n := szI wide) hb0 hb1
  generalize hx : zx a (szI wide) = x at *
  generalize hy : zx b (szI wide) = y at *
  have en : 0 - x = -x := by omega
  obtain ⟨r0, r1⟩ := wrap_bd (-x)
  have HX := Lib.hid hx
  have HY := Lib.hid hy
  clear hx hy
  cases wide
  all_goals
    go_enter Try.func10, Try.ntmps10
    go_wp2_with (go_at_call 24; refine (cut_ref _ _ _ (by assumption) (by assumption)).mono ?_; rintro e w' ⟨rfl, rfl⟩; first | rw [HX.out] | rw [HY.out] | skip)
    go_ret2
    exact ⟨rfl, rfl⟩
theorem ref_144 (ha0 : 0 ≤ a) (ha1 : a ≤ 18446744073709551615) (hb0 : 0 ≤ b) (hb1 : b ≤ 18446744073709551615) :
    Calls Try.prog 10 #[.int .u8 144, .bool wide, .int .u64 a, .int .u64 b] w (Ret (.tuple #[.int .u64 (doI 144 wide a b), .bool true]) w) := by
  unfold Ret
  have ed : doI 144 wide a b = zx ((zx a (szI wide)) % (zx b (szI wide))) (szI wide) := rfl
  rw [ed]
  clear ed
  obtain ⟨x0, x1⟩ := zx_bd (n := szI wide) ha0 ha1
  obtain ⟨y0, y1⟩ := zx_bd (n := szI wide) hb0 hb1
  generalize hx : zx a (szI wide) = x at *
  generalize hy : zx b (szI wide) = y at *
  obtain ⟨r0, r1⟩ := mod_bd x0 x1 y0 y1
  have HX := Lib.hid hx
  have HY := Lib.hid hy
  clear hx hy
  by_cases h : y = 0
  · subst h
    rw [Int.emod_zero] at *
    cases wide
    all_goals
      go_enter Try.func10, Try.ntmps10
      go_wp2_with (go_at_call 24; refine (cut_ref _ _ _ (by assumption) (by assumption)).mono ?_; rintro e w' ⟨rfl, rfl⟩; first | rw [HX.out] | rw [HY.out] | skip)
      go_ret2
      exact ⟨rfl, rfl⟩
  · cases wide
    all_goals
      go_enter Try.func10, Try.ntmps10
      go_wp2_with (go_at_call 24; refine (cut_ref _ _ _ (by assumption) (by assumption)).mono ?_; rintro e w' ⟨rfl, rfl⟩; first | rw [HX.out] | rw [HY.out] | skip)
      go_ret2
      exact ⟨rfl, rfl⟩
theorem ref_160 (ha0 : 0 ≤ a) (ha1 : a ≤ 18446744073709551615) (hb0 : 0 ≤ b) (hb1 : b ≤ 18446744073709551615) :
    Calls Try.prog 10 #[.int .u8 160, .bool wide, .int .u64 a, .int .u64 b] w (Ret (.tuple #[.int .u64 (doI 160 wide a b), .bool true]) w) := by
  unfold Ret
  have ed : doI 160 wide a b = zx (bits .xor .u64 (zx a (szI wide)) (zx b (szI wide))) (szI wide) := rfl
  rw [ed]
  clear ed
  obtain ⟨x0, x1⟩ := zx_bd (n := szI wide) ha0 ha1
  obtain ⟨y0, y1⟩ := zx_bd (n := szI wide) hb0 hb1
  generalize hx : zx a (szI wide) = x at *
  generalize hy : zx b (szI wide) = y at *
  obtain ⟨r0, r1⟩ := (bits_bd x0 x1 y0 y1).2.2
  have HX := Lib.hid hx
  have HY := Lib.hid hy
  clear hx hy
  cases wide
  all_goals
    go_enter Try.func10, Try.ntmps10
    go_wp2_with (go_at_call 24; refine (cut_ref _ _ _ (by assumption) (by assumption)).mono ?_; rintro e w' ⟨rfl, rfl⟩; first | rw [HX.out] | rw [HY.out] | skip)
    go_ret2
    exact ⟨rfl, rfl⟩
theorem ref_176 (ha0 : 0 ≤ a) (ha1 : a ≤ 18446744073709551615) (hb0 : 0 ≤ b) (hb1 : b ≤ 18446744073709551615) :
    Calls Try.prog 10 #[.int .u8 176, .bool wide, .int .u64 a, .int .u64 b] w (Ret (.tuple #[.int .u64 (doI 176 wide a b), .bool true]) w) := by
  unfold Ret
  have ed : doI 176 wide a b = zx ((zx b (szI wide))) (szI wide) := rfl
  rw [ed]
  clear ed
  obtain ⟨x0, x1⟩ := zx_bd (n := szI wide) ha0 ha1
  obtain ⟨y0, y1⟩ := zx_bd (n := szI wide) hb0 hb1
  generalize hx : zx a (szI wide) = x at *
  generalize hy : zx b (szI wide) = y at *
  have HX := Lib.hid hx
  have HY := Lib.hid hy
  clear hx hy
  cases wide
  all_goals
    go_enter Try.func10, Try.ntmps10
    go_wp2_with (go_at_call 24; refine (cut_ref _ _ _ (by assumption) (by assumption)).mono ?_; rintro e w' ⟨rfl, rfl⟩; first | rw [HX.out] | rw [HY.out] | skip)
    go_ret2
    exact ⟨rfl, rfl⟩
end
end Go.Proofs.Ytogadmlnmcojpaa

/-
  Proved here: what Do of the document's answers tells of the three shifts, and of a number that is no operation's. Conditions: an operation's number is a uint8, the two others are uint64.
-/
namespace Go.Proofs.Ytogadmlnmcojpaa
open Go.RowKit

theorem plI_4 (b : Int) : plI b (szI false) = b % 32 := rfl
theorem plI_8 (b : Int) : plI b (szI true) = b % 64 := rfl
/-- What a walk by steps of one comes to. -/
theorem step_mul (x : Int) (k : Nat) : IntKind.u64.wrap (2 * IntKind.u64.wrap (x * 2 ^ k)) = IntKind.u64.wrap (x * 2 ^ (k + 1)) := by
  simp only [IntKind.wrap, IntKind.bits, IntKind.signed]
  simp
  rw [Int.pow_succ, ← Int.mul_assoc]
  omega
theorem step_div (x : Int) (k : Nat) : x / 2 ^ k / 2 = x / 2 ^ (k + 1) := by
  rw [Int.pow_succ, Int.ediv_ediv_of_nonneg (pow_nonneg2 k)]
theorem wrap_id {x : Int} (h0 : 0 ≤ x) (h1 : x ≤ 18446744073709551615) : IntKind.u64.wrap x = x := IntWalk.u64_in _ (by omega)

section
variable (wide : Bool) (a b : Int) (w : World)
theorem ref_96 (ha0 : 0 ≤ a) (ha1 : a ≤ 18446744073709551615) (hb0 : 0 ≤ b) (hb1 : b ≤ 18446744073709551615) :
    Calls Try.prog 10 #[.int .u8 96, .bool wide, .int .u64 a, .int .u64 b] w (Ret (.tuple #[.int .u64 (doI 96 wide a b), .bool true]) w) := by
  unfold Ret
  have ed : doI 96 wide a b = zx (IntKind.u64.wrap ((zx a (szI wide)) * 2 ^ (plI (zx b (szI wide)) (szI wide)).toNat)) (szI wide) := rfl
  rw [ed]
  clear ed
  obtain ⟨x0, x1⟩ := zx_bd (n := szI wide) ha0 ha1
  obtain ⟨y0, y1⟩ := zx_bd (n := szI wide) hb0 hb1
  generalize hx : zx a (szI wide) = x at *
  generalize hy : zx b (szI wide) = y at *
  obtain ⟨p0, p1⟩ := plI_bd y (szI wide) (szI_or wide)
  obtain ⟨p, hp⟩ : ∃ p, plI y (szI wide) = p := ⟨_, rfl⟩
  rw [hp] at p0 p1 ⊢
  have HX := Lib.hid hx
  have HY := Lib.hid hy
  clear hx hy
  cases wide
  · rw [plI_4] at hp
    go_enter Try.func10, Try.ntmps10
    go_wp2_with (go_at_call 24; refine (cut_ref _ _ _ (by assumption) (by assumption)).mono ?_; rintro e w' ⟨rfl, rfl⟩; first | rw [HX.out] | rw [HY.out] | skip)
    go_loop [11, 12] (fun q i => ∃ k : Nat, (k : Int) ≤ p ∧ i = .int .u64 k ∧ q = .int .u64 (IntKind.u64.wrap (x * 2 ^ k))) (fun _ i => p.toNat - (intOf i).toNat)
    case atStart => exact ⟨0, by omega, rfl, by rw [Int.pow_zero, Int.mul_one, wrap_id x0 x1]⟩
    case round =>
      obtain ⟨k, hk, rfl, rfl⟩ := hrel
      have hs := step_mul x k
      obtain ⟨r0, r1⟩ := wrap_bd (x * 2 ^ k)
      obtain ⟨z, hz⟩ : ∃ z, IntKind.u64.wrap (x * 2 ^ k) = z := ⟨_, rfl⟩
      rw [hz] at hs r0 r1 ⊢
      by_cases hlt : (k : Int) < p
      · have HS := Lib.hid hs
        have HZ := Lib.hid hz
        clear hs hz
        go_wp2
        go_round
        case rel => exact ⟨k + 1, by omega, by go_num, by rw [HS.out]⟩
        case measure => simp [intOf]; omega
      · obtain rfl : p = k := by omega
        have HZ := Lib.hid hz
        clear hs hz
        go_wp2_with (go_at_call 24; refine (cut_ref _ _ _ (by assumption) (by assumption)).mono ?_; rintro e w' ⟨rfl, rfl⟩)
        go_ret2
        exact ⟨by rw [Int.toNat_natCast, HZ.out]; rfl, rfl⟩
  · rw [plI_8] at hp
    go_enter Try.func10, Try.ntmps10
    go_wp2_with (go_at_call 24; refine (cut_ref _ _ _ (by assumption) (by assumption)).mono ?_; rintro e w' ⟨rfl, rfl⟩; first | rw [HX.out] | rw [HY.out] | skip)
    go_loop [11, 12] (fun q i => ∃ k : Nat, (k : Int) ≤ p ∧ i = .int .u64 k ∧ q = .int .u64 (IntKind.u64.wrap (x * 2 ^ k))) (fun _ i => p.toNat - (intOf i).toNat)
    case atStart => exact ⟨0, by omega, rfl, by rw [Int.pow_zero, Int.mul_one, wrap_id x0 x1]⟩
    case round =>
      obtain ⟨k, hk, rfl, rfl⟩ := hrel
      have hs := step_mul x k
      obtain ⟨r0, r1⟩ := wrap_bd (x * 2 ^ k)
      obtain ⟨z, hz⟩ : ∃ z, IntKind.u64.wrap (x * 2 ^ k) = z := ⟨_, rfl⟩
      rw [hz] at hs r0 r1 ⊢
      by_cases hlt : (k : Int) < p
      · have HS := Lib.hid hs
        have HZ := Lib.hid hz
        clear hs hz
        go_wp2
        go_round
        case rel => exact ⟨k + 1, by omega, by go_num, by rw [HS.out]⟩
        case measure => simp [intOf]; omega
      · obtain rfl : p = k := by omega
        have HZ := Lib.hid hz
        clear hs hz
        go_wp2_with (go_at_call 24; refine (cut_ref _ _ _ (by assumption) (by assumption)).mono ?_; rintro e w' ⟨rfl, rfl⟩)
        go_ret2
        exact ⟨by rw [Int.toNat_natCast, HZ.out]; rfl, rfl⟩
theorem ref_112 (ha0 : 0 ≤ a) (ha1 : a ≤ 18446744073709551615) (hb0 : 0 ≤ b) (hb1 : b ≤ 18446744073709551615) :
    Calls Try.prog 10 #[.int .u8 112, .bool wide, .int .u64 a, .int .u64 b] w (Ret (.tuple #[.int .u64 (doI 112 wide a b), .bool true]) w) := by
  unfold Ret
  have ed : doI 112 wide a b = zx ((zx a (szI wide)) / 2 ^ (plI (zx b (szI wide)) (szI wide)).toNat) (szI wide) := rfl
  rw [ed]
  clear ed
  obtain ⟨x0, x1⟩ := zx_bd (n := szI wide) ha0 ha1
  obtain ⟨y0, y1⟩ := zx_bd (n := szI wide) hb0 hb1
  generalize hx : zx a (szI wide) = x at *
  generalize hy : zx b (szI wide) = y at *
  obtain ⟨p0, p1⟩ := plI_bd y (szI wide) (szI_or wide)
  obtain ⟨p, hp⟩ : ∃ p, plI y (szI wide) = p := ⟨_, rfl⟩
  rw [hp] at p0 p1 ⊢
  have HX := Lib.hid hx
  have HY := Lib.hid hy
  clear hx hy
  cases wide
  · rw [plI_4] at hp
    go_enter Try.func10, Try.ntmps10
    go_wp2_with (go_at_call 24; refine (cut_ref _ _ _ (by assumption) (by assumption)).mono ?_; rintro e w' ⟨rfl, rfl⟩; first | rw [HX.out] | rw [HY.out] | skip)
    go_loop [11, 13] (fun q i => ∃ k : Nat, (k : Int) ≤ p ∧ i = .int .u64 k ∧ q = .int .u64 (x / 2 ^ k)) (fun _ i => p.toNat - (intOf i).toNat)
    case atStart => exact ⟨0, by omega, rfl, by rw [Int.pow_zero, Int.ediv_one]⟩
    case round =>
      obtain ⟨k, hk, rfl, rfl⟩ := hrel
      have hs := step_div x k
      obtain ⟨r0, r1⟩ := quo_bd x0 x1 (pow_nonneg2 k)
      obtain ⟨z, hz⟩ : ∃ z, x / 2 ^ k = z := ⟨_, rfl⟩
      rw [hz] at hs r0 r1 ⊢
      by_cases hlt : (k : Int) < p
      · have HS := Lib.hid hs
        have HZ := Lib.hid hz
        clear hs hz
        go_wp2
        go_round
        case rel => exact ⟨k + 1, by omega, by go_num, by rw [HS.out]⟩
        case measure => simp [intOf]; omega
      · obtain rfl : p = k := by omega
        have HZ := Lib.hid hz
        clear hs hz
        go_wp2_with (go_at_call 24; refine (cut_ref _ _ _ (by assumption) (by assumption)).mono ?_; rintro e w' ⟨rfl, rfl⟩)
        go_ret2
        exact ⟨by rw [Int.toNat_natCast, HZ.out]; rfl, rfl⟩
  · rw [plI_8] at hp
    go_enter Try.func10, Try.ntmps10
    go_wp2_with (go_at_call 24; refine (cut_ref _ _ _ (by assumption) (by assumption)).mono ?_; rintro e w' ⟨rfl, rfl⟩; first | rw [HX.out] | rw [HY.out] | skip)
    go_loop [11, 13] (fun q i => ∃ k : Nat, (k : Int) ≤ p ∧ i = .int .u64 k ∧ q = .int .u64 (x / 2 ^ k)) (fun _ i => p.toNat - (intOf i).toNat)
    case atStart => exact ⟨0, by omega, rfl, by rw [Int.pow_zero, Int.ediv_one]⟩
    case round =>
      obtain ⟨k, hk, rfl, rfl⟩ := hrel
      have hs := step_div x k
      obtain ⟨r0, r1⟩ := quo_bd x0 x1 (pow_nonneg2 k)
      obtain ⟨z, hz⟩ : ∃ z, x / 2 ^ k = z := ⟨_, rfl⟩
      rw [hz] at hs r0 r1 ⊢
      by_cases hlt : (k : Int) < p
      · have HS := Lib.hid hs
        have HZ := Lib.hid hz
        clear hs hz
        go_wp2
        go_round
        case rel => exact ⟨k + 1, by omega, by go_num, by rw [HS.out]⟩
        case measure => simp [intOf]; omega
      · obtain rfl : p = k := by omega
        have HZ := Lib.hid hz
        clear hs hz
        go_wp2_with (go_at_call 24; refine (cut_ref _ _ _ (by assumption) (by assumption)).mono ?_; rintro e w' ⟨rfl, rfl⟩)
        go_ret2
        exact ⟨by rw [Int.toNat_natCast, HZ.out]; rfl, rfl⟩
end
end Go.Proofs.Ytogadmlnmcojpaa

/-
  Proved here: what Do of the document's answers tells of the shift with a sign, and of a number that is no operation's. Conditions: an operation's number is a uint8, the two others are uint64.
-/
namespace Go.Proofs.Ytogadmlnmcojpaa
open Go.RowKit

theorem wrap64_bd (x : Int) : -9223372036854775808 ≤ wrap64 x ∧ wrap64 x ≤ 9223372036854775807 := by
  unfold wrap64
  omega
theorem sar_bd {s : Int} (k : Nat) (h0 : -9223372036854775808 ≤ s) (h1 : s ≤ 9223372036854775807) : -9223372036854775808 ≤ s / 2 ^ k ∧ s / 2 ^ k ≤ 9223372036854775807 := by
  have hp : (1 : Int) ≤ 2 ^ k := Int.pow_pos (by decide)
  constructor
  · refine Int.le_ediv_of_mul_le (by omega) ?_
    have : (9223372036854775808 : Int) * 1 ≤ 9223372036854775808 * 2 ^ k := Int.mul_le_mul_of_nonneg_left hp (by decide)
    omega
  · by_cases h : 0 ≤ s
    · have := Int.ediv_le_self (2 ^ k) h
      omega
    · have := Int.ediv_neg_of_neg_of_pos (show s < 0 by omega) (show (0 : Int) < 2 ^ k by omega)
      omega
/-- Half of a number below zero, rounded down. -/
theorem half_odd {z : Int} (h0 : -9223372036854775808 ≤ z) (hn : z < 0) (h : (z.tmod 2 != 0) = true) : wrap64 (z.tdiv 2 - 1) = z / 2 := by
  obtain ⟨m, rfl⟩ : ∃ m, z = -m := ⟨-z, by omega⟩
  rw [Int.neg_tmod, Int.tmod_eq_emod_of_nonneg (by omega)] at h
  rw [Int.neg_tdiv, Int.tdiv_eq_ediv_of_nonneg (by omega)]
  simp at h
  unfold wrap64
  omega
theorem half_even {z : Int} (hn : z < 0) (h : (z.tmod 2 != 0) = false) : z.tdiv 2 = z / 2 := by
  obtain ⟨m, rfl⟩ : ∃ m, z = -m := ⟨-z, by omega⟩
  rw [Int.neg_tmod, Int.tmod_eq_emod_of_nonneg (by omega)] at h
  rw [Int.neg_tdiv, Int.tdiv_eq_ediv_of_nonneg (by omega)]
  simp at h
  omega

section
variable (wide : Bool) (a b : Int) (w : World)
theorem ref_192 (ha0 : 0 ≤ a) (ha1 : a ≤ 18446744073709551615) (hb0 : 0 ≤ b) (hb1 : b ≤ 18446744073709551615) :
    Calls Try.prog 10 #[.int .u8 192, .bool wide, .int .u64 a, .int .u64 b] w (Ret (.tuple #[.int .u64 (doI 192 wide a b), .bool true]) w) := by
  unfold Ret
  have ed : doI 192 wide a b = zx (IntKind.u64.wrap (sgI (zx a (szI wide)) (szI wide) / 2 ^ (plI (zx b (szI wide)) (szI wide)).toNat)) (szI wide) := rfl
  rw [ed]
  clear ed
  obtain ⟨x0, x1⟩ := zx_bd (n := szI wide) ha0 ha1
  obtain ⟨y0, y1⟩ := zx_bd (n := szI wide) hb0 hb1
  generalize hx : zx a (szI wide) = x at *
  generalize hy : zx b (szI wide) = y at *
  obtain ⟨p0, p1⟩ := plI_bd y (szI wide) (szI_or wide)
  obtain ⟨p, hp⟩ : ∃ p, plI y (szI wide) = p := ⟨_, rfl⟩
  obtain ⟨s0, s1⟩ := wrap64_bd (sx x (szI wide))
  obtain ⟨s, hs⟩ : ∃ s, sgI x (szI wide) = s := ⟨_, rfl⟩
  rw [show wrap64 (sx x (szI wide)) = s from hs] at s0 s1
  rw [hp] at p0 p1 ⊢
  rw [hs]
  have HX := Lib.hid hx
  have HY := Lib.hid hy
  have HS := Lib.hid hs
  clear hx hy hs
  cases wide
  · rw [plI_4] at hp
    go_enter Try.func10, Try.ntmps10
    go_wp2_with (first
      | (go_at_call 24; refine (cut_ref _ _ _ (by assumption) (by assumption)).mono ?_; rintro e w' ⟨rfl, rfl⟩; first | rw [HX.out] | rw [HY.out] | skip)
      | (go_at_call 25; refine (signed_ref _ _ _ (by assumption) (by assumption)).mono ?_; rintro e w' ⟨rfl, rfl⟩; rw [HS.out]))
    go_loop [14, 15] (fun q i => ∃ k : Nat, (k : Int) ≤ p ∧ i = .int .u64 k ∧ q = .int .i64 (s / 2 ^ k)) (fun _ i => p.toNat - (intOf i).toNat)
    case atStart => exact ⟨0, by omega, rfl, by rw [Int.pow_zero, Int.ediv_one]⟩
    case round =>
      obtain ⟨k, hk, rfl, rfl⟩ := hrel
      have hd := step_div s k
      obtain ⟨r0, r1⟩ := sar_bd k s0 s1
      obtain ⟨z, hz⟩ : ∃ z, s / 2 ^ k = z := ⟨_, rfl⟩
      rw [hz] at hd r0 r1 ⊢
      by_cases hlt : (k : Int) < p
      · have HD := Lib.hid hd
        have HZ := Lib.hid hz
        clear hd hz
        by_cases hneg : z < 0
        · go_wp2
          all_goals refine ⟨⟨k + 1, by omega, by go_num, ?_⟩, by simp [intOf]; omega⟩
          all_goals rw [← HD.out]
          · rw [half_odd r0 hneg (by assumption)]
          · rw [half_even hneg (by assumption)]
        · go_wp2
          exact ⟨⟨k + 1, by omega, by go_num, by rw [← HD.out]⟩, by simp [intOf]; omega⟩
      · obtain rfl : p = k := by omega
        have HZ := Lib.hid hz
        have hw := wrap_bd z
        clear hd hz
        go_wp2_with (go_at_call 24; refine (cut_ref _ _ _ hw.1 hw.2).mono ?_; rintro e w' ⟨rfl, rfl⟩)
        go_ret2
        exact ⟨by rw [Int.toNat_natCast, HZ.out]; rfl, rfl⟩
  · rw [plI_8] at hp
    go_enter Try.func10, Try.ntmps10
    go_wp2_with (first
      | (go_at_call 24; refine (cut_ref _ _ _ (by assumption) (by assumption)).mono ?_; rintro e w' ⟨rfl, rfl⟩; first | rw [HX.out] | rw [HY.out] | skip)
      | (go_at_call 25; refine (signed_ref _ _ _ (by assumption) (by assumption)).mono ?_; rintro e w' ⟨rfl, rfl⟩; rw [HS.out]))
    go_loop [14, 15] (fun q i => ∃ k : Nat, (k : Int) ≤ p ∧ i = .int .u64 k ∧ q = .int .i64 (s / 2 ^ k)) (fun _ i => p.toNat - (intOf i).toNat)
    case atStart => exact ⟨0, by omega, rfl, by rw [Int.pow_zero, Int.ediv_one]⟩
    case round =>
      obtain ⟨k, hk, rfl, rfl⟩ := hrel
      have hd := step_div s k
      obtain ⟨r0, r1⟩ := sar_bd k s0 s1
      obtain ⟨z, hz⟩ : ∃ z, s / 2 ^ k = z := ⟨_, rfl⟩
      rw [hz] at hd r0 r1 ⊢
      by_cases hlt : (k : Int) < p
      · have HD := Lib.hid hd
        have HZ := Lib.hid hz
        clear hd hz
        by_cases hneg : z < 0
        · go_wp2
          all_goals refine ⟨⟨k + 1, by omega, by go_num, ?_⟩, by simp [intOf]; omega⟩
          all_goals rw [← HD.out]
          · rw [half_odd r0 hneg (by assumption)]
          · rw [half_even hneg (by assumption)]
        · go_wp2
          exact ⟨⟨k + 1, by omega, by go_num, by rw [← HD.out]⟩, by simp [intOf]; omega⟩
      · obtain rfl : p = k := by omega
        have HZ := Lib.hid hz
        have hw := wrap_bd z
        clear hd hz
        go_wp2_with (go_at_call 24; refine (cut_ref _ _ _ hw.1 hw.2).mono ?_; rintro e w' ⟨rfl, rfl⟩)
        go_ret2
        exact ⟨by rw [Int.toNat_natCast, HZ.out]; rfl, rfl⟩
theorem ref_none (op : Int) (ho : isOp op = false) (ha0 : 0 ≤ a) (ha1 : a ≤ 18446744073709551615) (hb0 : 0 ≤ b) (hb1 : b ≤ 18446744073709551615) :
    Calls Try.prog 10 #[.int .u8 op, .bool wide, .int .u64 a, .int .u64 b] w (Ret (.tuple #[.int .u64 0, .bool false]) w) := by
  unfold Ret
  simp only [isOp, Bool.or_eq_false_iff, beq_eq_false_iff_ne, ne_eq, and_assoc] at ho
  obtain ⟨g1, g2, g3, g4, g5, g6, g7, g8, g9, g10, g11, g12, g13⟩ := ho
  obtain ⟨x0, x1⟩ := zx_bd (n := szI wide) ha0 ha1
  obtain ⟨y0, y1⟩ := zx_bd (n := szI wide) hb0 hb1
  generalize hx : zx a (szI wide) = x at *
  generalize hy : zx b (szI wide) = y at *
  have HX := Lib.hid hx
  have HY := Lib.hid hy
  clear hx hy
  cases wide
  all_goals
    go_enter Try.func10, Try.ntmps10
    go_wp2_with (go_at_call 24; refine (cut_ref _ _ _ (by assumption) (by assumption)).mono ?_; rintro e w' ⟨rfl, rfl⟩; first | rw [HX.out] | rw [HY.out] | skip)
    go_ret2
    exact ⟨rfl, rfl⟩
end
end Go.Proofs.Ytogadmlnmcojpaa

/-
  Proved here: what Do of the document's answers tells, of every number. Conditions: an operation's number is a uint8, the two others are uint64.
-/
namespace Go.Proofs.Ytogadmlnmcojpaa
open Go.RowKit

theorem doI_none {op : Int} (wide : Bool) (a b : Int) (h : isOp op = false) : doI op wide a b = 0 := by
  have e2 : opI op (zx a (szI wide)) (zx b (szI wide)) (szI wide) = 0 := by
    simp only [isOp, Bool.or_eq_false_iff, beq_eq_false_iff_ne, ne_eq, and_assoc] at h
    obtain ⟨g1, g2, g3, g4, g5, g6, g7, g8, g9, g10, g11, g12, g13⟩ := h
    simp [opI, *]
  unfold doI
  rw [e2]
  cases wide <;> rfl
theorem do_ref (op : Int) (wide : Bool) (a b : Int) (w : World) (ha0 : 0 ≤ a) (ha1 : a ≤ 18446744073709551615) (hb0 : 0 ≤ b) (hb1 : b ≤ 18446744073709551615) :
    Calls Try.prog 10 #[.int .u8 op, .bool wide, .int .u64 a, .int .u64 b] w (Ret (.tuple #[.int .u64 (doI op wide a b), .bool (isOp op)]) w) := by
  by_cases ho : isOp op = true
  · have hh := ho
    simp only [isOp, Bool.or_eq_true, beq_iff_eq, or_assoc] at hh
    rw [ho]
    clear ho
    obtain rfl | rfl | rfl | rfl | rfl | rfl | rfl | rfl | rfl | rfl | rfl | rfl | rfl := hh
    · exact ref_0 wide a b w ha0 ha1 hb0 hb1
    · exact ref_16 wide a b w ha0 ha1 hb0 hb1
    · exact ref_32 wide a b w ha0 ha1 hb0 hb1
    · exact ref_48 wide a b w ha0 ha1 hb0 hb1
    · exact ref_64 wide a b w ha0 ha1 hb0 hb1
    · exact ref_80 wide a b w ha0 ha1 hb0 hb1
    · exact ref_96 wide a b w ha0 ha1 hb0 hb1
    · exact ref_112 wide a b w ha0 ha1 hb0 hb1
    · exact ref_128 wide a b w ha0 ha1 hb0 hb1
    · exact ref_144 wide a b w ha0 ha1 hb0 hb1
    · exact ref_160 wide a b w ha0 ha1 hb0 hb1
    · exact ref_176 wide a b w ha0 ha1 hb0 hb1
    · exact ref_192 wide a b w ha0 ha1 hb0 hb1
  · have ho' : isOp op = false := by simpa using ho
    rw [doI_none wide a b ho', ho']
    exact ref_none wide a b w op ho' ha0 ha1 hb0 hb1
end Go.Proofs.Ytogadmlnmcojpaa
