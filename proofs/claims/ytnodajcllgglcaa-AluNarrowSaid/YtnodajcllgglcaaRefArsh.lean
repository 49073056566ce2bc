/-
  Proved here: what Do of the document's answers tells of the shift with a sign, and of a number that is no operation's. Conditions: an operation's number is a uint8, the two others are uint64.
-/
import Derived.Test.YtnodajcllgglcaaRefDoC
namespace Go.Proofs.Ytnodajcllgglcaa
open Go.RowKit

theorem wrap64_bd (x : Int) : -9223372036854775808 ≤ wrap64 x ∧ wrap64 x ≤ 9223372036854775807 := by
  unfold wrap64
  omega
theorem sar_bd {s : Int} (k : Nat) (h0 : -9223372036854775808 ≤ s) (h1 : s ≤ 9223372036854775807) : -9223372036854775808 ≤ s / 2 ^ k ∧ s / 2 ^ k ≤ 9223372036854775807 := by
  have hp : (1 : Int) ≤ 2 ^ k := Int.pow_pos (by decide)
  constructor
  · refine Int.le_ediv_of_mul_le (by omega) ?_
    have : (9223372036854775808 : Int) * 1 ≤ 9223372036854775808 * 2 ^ k := Int.mul_le_mul_of_nonneg_left hp (by decide)
    omega
  · by_cases h : 0 ≤ s
    · have := Int.ediv_le_self (2 ^ k) h
      omega
    · have := Int.ediv_neg_of_neg_of_pos (show s < 0 by omega) (show (0 : Int) < 2 ^ k by omega)
      omega
/-- Half of a number below zero, rounded down. -/
theorem half_odd {z : Int} (h0 : -9223372036854775808 ≤ z) (hn : z < 0) (h : (z.tmod 2 != 0) = true) : wrap64 (z.tdiv 2 - 1) = z / 2 := by
  obtain ⟨m, rfl⟩ : ∃ m, z = -m := ⟨-z, by omega⟩
  rw [Int.neg_tmod, Int.tmod_eq_emod_of_nonneg (by omega)] at h
  rw [Int.neg_tdiv, Int.tdiv_eq_ediv_of_nonneg (by omega)]
  simp at h
  unfold wrap64
  omega
theorem half_even {z : Int} (hn : z < 0) (h : (z.tmod 2 != 0) = false) : z.tdiv 2 = z / 2 := by
  obtain ⟨m, rfl⟩ : ∃ m, z = -m := ⟨-z, by omega⟩
  rw [Int.neg_tmod, Int.tmod_eq_emod_of_nonneg (by omega)] at h
  rw [Int.neg_tdiv, Int.tdiv_eq_ediv_of_nonneg (by omega)]
  simp at h
  omega

section
variable (wide : Bool) (a b : Int) (w : World)
theorem ref_192 (ha0 : 0 ≤ a) (ha1 : a ≤ 18446744073709551615) (hb0 : 0 ≤ b) (hb1 : b ≤ 18446744073709551615) :
    Calls Try.prog 9 #[.int .u8 192, .bool wide, .int .u64 a, .int .u64 b] w (Ret (.tuple #[.int .u64 (doI 192 wide a b), .bool true]) w) := by
  unfold Ret
  have ed : doI 192 wide a b = zx (IntKind.u64.wrap (sgI (zx a (szI wide)) (szI wide) / 2 ^ (plI (zx b (szI wide)) (szI wide)).toNat)) (szI wide) := rfl
  rw [ed]
  clear ed
  obtain ⟨x0, x1⟩ := zx_bd (n := szI wide) ha0 ha1
  obtain ⟨y0, y1⟩ := zx_bd (n := szI wide) hb0 hb1
  generalize hx : zx a (szI wide) = x at *
  generalize hy : zx b (szI wide) = y at *
  obtain ⟨p0, p1⟩ := plI_bd y (szI wide) (szI_or wide)
  obtain ⟨p, hp⟩ : ∃ p, plI y (szI wide) = p := ⟨_, rfl⟩
  obtain ⟨s0, s1⟩ := wrap64_bd (sx x (szI wide))
  obtain ⟨s, hs⟩ : ∃ s, sgI x (szI wide) = s := ⟨_, rfl⟩
  rw [show wrap64 (sx x (szI wide)) = s from hs] at s0 s1
  rw [hp] at p0 p1 ⊢
  rw [hs]
  have HX := Lib.hid hx
  have HY := Lib.hid hy
  have HS := Lib.hid hs
  clear hx hy hs
  cases wide
  · rw [plI_4] at hp
    go_enter Try.func9, Try.ntmps9
    go_wp2_with (first
      | (go_at_call 15; refine (cut_ref _ _ _ (by assumption) (by assumption)).mono ?_; rintro e w' ⟨rfl, rfl⟩; first | rw [HX.out] | rw [HY.out] | skip)
      | (go_at_call 16; refine (signed_ref _ _ _ (by assumption) (by assumption)).mono ?_; rintro e w' ⟨rfl, rfl⟩; rw [HS.out]))
    go_loop [14, 15] (fun q i => ∃ k : Nat, (k : Int) ≤ p ∧ i = .int .u64 k ∧ q = .int .i64 (s / 2 ^ k)) (fun _ i => p.toNat - (intOf i).toNat)
    case atStart => exact ⟨0, by omega, rfl, by rw [Int.pow_zero, Int.ediv_one]⟩
    case round =>
      obtain ⟨k, hk, rfl, rfl⟩ := hrel
      have hd := step_div s k
      obtain ⟨r0, r1⟩ := sar_bd k s0 s1
      obtain ⟨z, hz⟩ : ∃ z, s / 2 ^ k = z := ⟨_, rfl⟩
      rw [hz] at hd r0 r1 ⊢
      by_cases hlt : (k : Int) < p
      · have HD := Lib.hid hd
        have HZ := Lib.hid hz
        clear hd hz
        by_cases hneg : z < 0
        · go_wp2
          all_goals refine ⟨⟨k + 1, by omega, by go_num, ?_⟩, by simp [intOf]; omega⟩
          all_goals rw [← HD.out]
          · rw [half_odd r0 hneg (by assumption)]
          · rw [half_even hneg (by assumption)]
        · go_wp2
          exact ⟨⟨k + 1, by omega, by go_num, by rw [← HD.out]⟩, by simp [intOf]; omega⟩
      · obtain rfl : p = k := by omega
        have HZ := Lib.hid hz
        have hw := wrap_bd z
        clear hd hz
        go_wp2_with (go_at_call 15; refine (cut_ref _ _ _ hw.1 hw.2).mono ?_; rintro e w' ⟨rfl, rfl⟩)
        go_ret2
        exact ⟨by rw [Int.toNat_natCast, HZ.out]; rfl, rfl⟩
  · rw [plI_8] at hp
    go_enter Try.func9, Try.ntmps9
    go_wp2_with (first
      | (go_at_call 15; refine (cut_ref _ _ _ (by assumption) (by assumption)).mono ?_; rintro e w' ⟨rfl, rfl⟩; first | rw [HX.out] | rw [HY.out] | skip)
      | (go_at_call 16; refine (signed_ref _ _ _ (by assumption) (by assumption)).mono ?_; rintro e w' ⟨rfl, rfl⟩; rw [HS.out]))
    go_loop [14, 15] (fun q i => ∃ k : Nat, (k : Int) ≤ p ∧ i = .int .u64 k ∧ q = .int .i64 (s / 2 ^ k)) (fun _ i => p.toNat - (intOf i).toNat)
    case atStart => exact ⟨0, by omega, rfl, by rw [Int.pow_zero, Int.ediv_one]⟩
    case round =>
      obtain ⟨k, hk, rfl, rfl⟩ := hrel
      have hd := step_div s k
      obtain ⟨r0, r1⟩ := sar_bd k s0 s1
      obtain ⟨z, hz⟩ : ∃ z, s / 2 ^ k = z := ⟨_, rfl⟩
      rw [hz] at hd r0 r1 ⊢
      by_cases hlt : (k : Int) < p
      · have HD := Lib.hid hd
        have HZ := Lib.hid hz
        clear hd hz
        by_cases hneg : z < 0
        · go_wp2
          all_goals refine ⟨⟨k + 1, by omega, by go_num, ?_⟩, by simp [intOf]; omega⟩
          all_goals rw [← HD.out]
          · rw [half_odd r0 hneg (by assumption)]
          · rw [half_even hneg (by assumption)]
        · go_wp2
          exact ⟨⟨k + 1, by omega, by go_num, by rw [← HD.out]⟩, by simp [intOf]; omega⟩
      · obtain rfl : p = k := by omega
        have HZ := Lib.hid hz
        have hw := wrap_bd z
        clear hd hz
        go_wp2_with (go_at_call 15; refine (cut_ref _ _ _ hw.1 hw.2).mono ?_; rintro e w' ⟨rfl, rfl⟩)
        go_ret2
        exact ⟨by rw [Int.toNat_natCast, HZ.out]; rfl, rfl⟩
theorem ref_none (op : Int) (ho : isOp op = false) (ha0 : 0 ≤ a) (ha1 : a ≤ 18446744073709551615) (hb0 : 0 ≤ b) (hb1 : b ≤ 18446744073709551615) :
    Calls Try.prog 9 #[.int .u8 op, .bool wide, .int .u64 a, .int .u64 b] w (Ret (.tuple #[.int .u64 0, .bool false]) w) := by
  unfold Ret
  simp only [isOp, Bool.or_eq_false_iff, beq_eq_false_iff_ne, ne_eq, and_assoc] at ho
  obtain ⟨g1, g2, g3, g4, g5, g6, g7, g8, g9, g10, g11, g12, g13⟩ := ho
  obtain ⟨x0, x1⟩ := zx_bd (n := szI wide) ha0 ha1
  obtain ⟨y0, y1⟩ := zx_bd (n := szI wide) hb0 hb1
  generalize hx : zx a (szI wide) = x at *
  generalize hy : zx b (szI wide) = y at *
  have HX := Lib.hid hx
  have HY := Lib.hid hy
  clear hx hy
  cases wide
  all_goals
    go_enter Try.func9, Try.ntmps9
    go_wp2_with (go_at_call 15; refine (cut_ref _ _ _ (by assumption) (by assumption)).mono ?_; rintro e w' ⟨rfl, rfl⟩; first | rw [HX.out] | rw [HY.out] | skip)
    go_ret2
    exact ⟨rfl, rfl⟩
end
end Go.Proofs.Ytnodajcllgglcaa
