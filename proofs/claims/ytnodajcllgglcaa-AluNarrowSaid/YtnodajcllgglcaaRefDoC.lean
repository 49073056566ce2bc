/-
  Proved here: what Do of the document's answers tells of the three shifts, and of a number that is no operation's. Conditions: an operation's number is a uint8, the two others are uint64.
-/
import Derived.Test.YtnodajcllgglcaaRefDo
namespace Go.Proofs.Ytnodajcllgglcaa
open Go.RowKit

theorem plI_4 (b : Int) : plI b (szI false) = b % 32 := rfl
theorem plI_8 (b : Int) : plI b (szI true) = b % 64 := rfl
/-- What a walk by steps of one comes to. -/
theorem step_mul (x : Int) (k : Nat) : IntKind.u64.wrap (2 * IntKind.u64.wrap (x * 2 ^ k)) = IntKind.u64.wrap (x * 2 ^ (k + 1)) := by
  simp only [IntKind.wrap, IntKind.bits, IntKind.signed]
  simp
  rw [Int.pow_succ, ← Int.mul_assoc]
  omega
theorem step_div (x : Int) (k : Nat) : x / 2 ^ k / 2 = x / 2 ^ (k + 1) := by
  rw [Int.pow_succ, Int.ediv_ediv_of_nonneg (pow_nonneg2 k)]
theorem wrap_id {x : Int} (h0 : 0 ≤ x) (h1 : x ≤ 18446744073709551615) : IntKind.u64.wrap x = x := IntWalk.u64_in _ (by omega)

section
variable (wide : Bool) (a b : Int) (w : World)
theorem ref_96 (ha0 : 0 ≤ a) (ha1 : a ≤ 18446744073709551615) (hb0 : 0 ≤ b) (hb1 : b ≤ 18446744073709551615) :
    Calls Try.prog 9 #[.int .u8 96, .bool wide, .int .u64 a, .int .u64 b] w (Ret (.tuple #[.int .u64 (doI 96 wide a b), .bool true]) w) := by
  unfold Ret
  have ed : doI 96 wide a b = zx (IntKind.u64.wrap ((zx a (szI wide)) * 2 ^ (plI (zx b (szI wide)) (szI wide)).toNat)) (szI wide) := rfl
  rw [ed]
  clear ed
  obtain ⟨x0, x1⟩ := zx_bd (n := szI wide) ha0 ha1
  obtain ⟨y0, y1⟩ := zx_bd (n := szI wide) hb0 hb1
  generalize hx : zx a (szI wide) = x at *
  generalize hy : zx b (szI wide) = y at *
  obtain ⟨p0, p1⟩ := plI_bd y (szI wide) (szI_or wide)
  obtain ⟨p, hp⟩ : ∃ p, plI y (szI wide) = p := ⟨_, rfl⟩
  rw [hp] at p0 p1 ⊢
  have HX := Lib.hid hx
  have HY := Lib.hid hy
  clear hx hy
  cases wide
  · rw [plI_4] at hp
    go_enter Try.func9, Try.ntmps9
    go_wp2_with (go_at_call 15; refine (cut_ref _ _ _ (by assumption) (by assumption)).mono ?_; rintro e w' ⟨rfl, rfl⟩; first | rw [HX.out] | rw [HY.out] | skip)
    go_loop [11, 12] (fun q i => ∃ k : Nat, (k : Int) ≤ p ∧ i = .int .u64 k ∧ q = .int .u64 (IntKind.u64.wrap (x * 2 ^ k))) (fun _ i => p.toNat - (intOf i).toNat)
    case atStart => exact ⟨0, by omega, rfl, by rw [Int.pow_zero, Int.mul_one, wrap_id x0 x1]⟩
    case round =>
      obtain ⟨k, hk, rfl, rfl⟩ := hrel
      have hs := step_mul x k
      obtain ⟨r0, r1⟩ := wrap_bd (x * 2 ^ k)
      obtain ⟨z, hz⟩ : ∃ z, IntKind.u64.wrap (x * 2 ^ k) = z := ⟨_, rfl⟩
      rw [hz] at hs r0 r1 ⊢
      by_cases hlt : (k : Int) < p
      · have HS := Lib.hid hs
        have HZ := Lib.hid hz
        clear hs hz
        go_wp2
        go_round
        case rel => exact ⟨k + 1, by omega, by go_num, by rw [HS.out]⟩
        case measure => simp [intOf]; omega
      · obtain rfl : p = k := by omega
        have HZ := Lib.hid hz
        clear hs hz
        go_wp2_with (go_at_call 15; refine (cut_ref _ _ _ (by assumption) (by assumption)).mono ?_; rintro e w' ⟨rfl, rfl⟩)
        go_ret2
        exact ⟨by rw [Int.toNat_natCast, HZ.out]; rfl, rfl⟩
  · rw [plI_8] at hp
    go_enter Try.func9, Try.ntmps9
    go_wp2_with (go_at_call 15; refine (cut_ref _ _ _ (by assumption) (by assumption)).mono ?_; rintro e w' ⟨rfl, rfl⟩; first | rw [HX.out] | rw [HY.out] | skip)
    go_loop [11, 12] (fun q i => ∃ k : Nat, (k : Int) ≤ p ∧ i = .int .u64 k ∧ q = .int .u64 (IntKind.u64.wrap (x * 2 ^ k))) (fun _ i => p.toNat - (intOf i).toNat)
    case atStart => exact ⟨0, by omega, rfl, by rw [Int.pow_zero, Int.mul_one, wrap_id x0 x1]⟩
    case round =>
      obtain ⟨k, hk, rfl, rfl⟩ := hrel
      have hs := step_mul x k
      obtain ⟨r0, r1⟩ := wrap_bd (x * 2 ^ k)
      obtain ⟨z, hz⟩ : ∃ z, IntKind.u64.wrap (x * 2 ^ k) = z := ⟨_, rfl⟩
      rw [hz] at hs r0 r1 ⊢
      by_cases hlt : (k : Int) < p
      · have HS := Lib.hid hs
        have HZ := Lib.hid hz
        clear hs hz
        go_wp2
        go_round
        case rel => exact ⟨k + 1, by omega, by go_num, by rw [HS.out]⟩
        case measure => simp [intOf]; omega
      · obtain rfl : p = k := by omega
        have HZ := Lib.hid hz
        clear hs hz
        go_wp2_with (go_at_call 15; refine (cut_ref _ _ _ (by assumption) (by assumption)).mono ?_; rintro e w' ⟨rfl, rfl⟩)
        go_ret2
        exact ⟨by rw [Int.toNat_natCast, HZ.out]; rfl, rfl⟩
theorem ref_112 (ha0 : 0 ≤ a) (ha1 : a ≤ 18446744073709551615) (hb0 : 0 ≤ b) (hb1 : b ≤ 18446744073709551615) :
    Calls Try.prog 9 #[.int .u8 112, .bool wide, .int .u64 a, .int .u64 b] w (Ret (.tuple #[.int .u64 (doI 112 wide a b), .bool true]) w) := by
  unfold Ret
  have ed : doI 112 wide a b = zx ((zx a (szI wide)) / 2 ^ (plI (zx b (szI wide)) (szI wide)).toNat) (szI wide) := rfl
  rw [ed]
  clear ed
  obtain ⟨x0, x1⟩ := zx_bd (n := szI wide) ha0 ha1
  obtain ⟨y0, y1⟩ := zx_bd (n := szI wide) hb0 hb1
  generalize hx : zx a (szI wide) = x at *
  generalize hy : zx b (szI wide) = y at *
  obtain ⟨p0, p1⟩ := plI_bd y (szI wide) (szI_or wide)
  obtain ⟨p, hp⟩ : ∃ p, plI y (szI wide) = p := ⟨_, rfl⟩
  rw [hp] at p0 p1 ⊢
  have HX := Lib.hid hx
  have HY := Lib.hid hy
  clear hx hy
  cases wide
  · rw [plI_4] at hp
    go_enter Try.func9, Try.ntmps9
    go_wp2_with (go_at_call 15; refine (cut_ref _ _ _ (by assumption) (by assumption)).mono ?_; rintro e w' ⟨rfl, rfl⟩; first | rw [HX.out] | rw [HY.out] | skip)
    go_loop [11, 13] (fun q i => ∃ k : Nat, (k : Int) ≤ p ∧ i = .int .u64 k ∧ q = .int .u64 (x / 2 ^ k)) (fun _ i => p.toNat - (intOf i).toNat)
    case atStart => exact ⟨0, by omega, rfl, by rw [Int.pow_zero, Int.ediv_one]⟩
    case round =>
      obtain ⟨k, hk, rfl, rfl⟩ := hrel
      have hs := step_div x k
      obtain ⟨r0, r1⟩ := div_bd x0 x1 (pow_nonneg2 k)
      obtain ⟨z, hz⟩ : ∃ z, x / 2 ^ k = z := ⟨_, rfl⟩
      rw [hz] at hs r0 r1 ⊢
      by_cases hlt : (k : Int) < p
      · have HS := Lib.hid hs
        have HZ := Lib.hid hz
        clear hs hz
        go_wp2
        go_round
        case rel => exact ⟨k + 1, by omega, by go_num, by rw [HS.out]⟩
        case measure => simp [intOf]; omega
      · obtain rfl : p = k := by omega
        have HZ := Lib.hid hz
        clear hs hz
        go_wp2_with (go_at_call 15; refine (cut_ref _ _ _ (by assumption) (by assumption)).mono ?_; rintro e w' ⟨rfl, rfl⟩)
        go_ret2
        exact ⟨by rw [Int.toNat_natCast, HZ.out]; rfl, rfl⟩
  · rw [plI_8] at hp
    go_enter Try.func9, Try.ntmps9
    go_wp2_with (go_at_call 15; refine (cut_ref _ _ _ (by assumption) (by assumption)).mono ?_; rintro e w' ⟨rfl, rfl⟩; first | rw [HX.out] | rw [HY.out] | skip)
    go_loop [11, 13] (fun q i => ∃ k : Nat, (k : Int) ≤ p ∧ i = .int .u64 k ∧ q = .int .u64 (x / 2 ^ k)) (fun _ i => p.toNat - (intOf i).toNat)
    case atStart => exact ⟨0, by omega, rfl, by rw [Int.pow_zero, Int.ediv_one]⟩
    case round =>
      obtain ⟨k, hk, rfl, rfl⟩ := hrel
      have hs := step_div x k
      obtain ⟨r0, r1⟩ := div_bd x0 x1 (pow_nonneg2 k)
      obtain ⟨z, hz⟩ : ∃ z, x / 2 ^ k = z := ⟨_, rfl⟩
      rw [hz] at hs r0 r1 ⊢
      by_cases hlt : (k : Int) < p
      · have HS := Lib.hid hs
        have HZ := Lib.hid hz
        clear hs hz
        go_wp2
        go_round
        case rel => exact ⟨k + 1, by omega, by go_num, by rw [HS.out]⟩
        case measure => simp [intOf]; omega
      · obtain rfl : p = k := by omega
        have HZ := Lib.hid hz
        clear hs hz
        go_wp2_with (go_at_call 15; refine (cut_ref _ _ _ (by assumption) (by assumption)).mono ?_; rintro e w' ⟨rfl, rfl⟩)
        go_ret2
        exact ⟨by rw [Int.toNat_natCast, HZ.out]; rfl, rfl⟩
end
end Go.Proofs.Ytnodajcllgglcaa
