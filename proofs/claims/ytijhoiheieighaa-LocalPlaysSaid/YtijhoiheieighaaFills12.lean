/-
  Proved here: the law LocalFills returns true, over whatever memory of the program's storage keeps its contracts. Conditions: the contracts.
-/
import Derived.Test.YtijhoiheieighaaAlive12
import Derived.Test.YtijhoiheieighaaOpen
namespace Go.Proofs.Ytijhoiheieighaa
open Go.RowKit

set_option maxRecDepth 100000 in
set_option maxHeartbeats 2000000 in
theorem fills_law {PS PS1 : StMem} (nn dd : Int) (m : Nat) (w : World) (ac : Acts12 PS 1 m m) (a1 : Acts12 PS1 1 1 1) (hm : m < 17) (hm1 : 1 ≤ m) (f2 : nn % 16 + 1 = (m : Int)) (hn0 : 0 ≤ nn ∧ nn ≤ 255) (hd0 : 0 ≤ dd ∧ dd ≤ 255) :
    Calls Try.prog 5 #[.int .u8 nn, .int .u8 dd] w (fun e w' => e = .returned (.bool true) ∧ Below w.heap.size w w') := by
  have hd : Dim 1 m m := ⟨by omega, by omega, hm1, by omega, by omega⟩
  have HA := Lib.hid ac
  have HA1 := Lib.hid a1
  have HD := Lib.hid hd
  clear hd ac a1
  go_enter Try.func5, Try.ntmps5
  go_wp2_with (first
    | (go_at_call 6; refine (alive12 HA1.out _).mono ?_; rintro e w1 ⟨rfl, hb1⟩; have HB1 := Lib.hid hb1; clear hb1)
    | (go_at_call 7; refine (HA.out.new _).mono ?_; rintro e w2 ⟨h, D2, G, rfl, hp2, hb2, hd2⟩; have HB2 := Lib.hid hb2; have HP2 := Lib.hid hp2; have HD2 := Lib.hid hd2; clear hb2 hp2 hd2))
  have hp2 := HP2.out
  rw [fill_start m, show ([] : List Ob) = osF 0 from rfl] at hp2
  have X0 : Hid (Ex PS w w2 D2 h G (osF 0) (zsF m 0)) := ⟨hp2, HB1.out.trans (HB2.out.mono HB1.out.size), fun b hb => Nat.le_trans HB1.out.size (HD2.out b hb)⟩
  clear hp2 HP2 HB1 HB2 HD2
  go_loopw [8] (fun v wr => ∃ (k : Nat) (D : Nat → Prop), k ≤ m ∧ v = .int .i64 k ∧ Ex PS w wr D h G (osF k) (zsF m k)) (fun v _ => 17 - (intOf v).toNat)
  case atStart => exact ⟨0, D2, by omega, rfl, X0.out⟩
  case round =>
    obtain ⟨k, D, hk, rfl, hx⟩ := hrel
    have X := Lib.hid hx
    clear hx X0
    by_cases hlt : k < m
    · have hw1 : IntKind.u8.wrap (1 + (k : Int)) = 1 + k := IntWalk.u8_in _ (by omega)
      have hst := fill_step ⟨m, hm⟩ ⟨k, by omega⟩ hlt
      have hse := fill_set ⟨m, hm⟩ ⟨k, by omega⟩ hlt
      simp only at hst hse
      have HST := Lib.hid hst
      have HSE := Lib.hid hse
      clear hst hse
      go_wp2_with (first
        | (go_at_call 17; refine (HA.out.get (o := (100 + (k : Int), 1)) (c := true) X.out.p).mono ?_; rintro e w3 ⟨D3, he, hp3, ht3, hd3⟩; rw [HST.out] at he hp3; subst he; have X3 := Lib.hid (X.out.next ht3 hp3 hd3); clear hp3 ht3 hd3)
        | (go_at_call 15; refine (HA.out.slotYes X3.out.p hlt).mono ?_; rintro e w4 ⟨rfl, hb4⟩; have X4 := Lib.hid (X3.out.stay HA.out hb4); obtain ⟨hc4, hf4⟩ := HA.out.byte X4.out.p (place_in (r := 0) HD.out hlt (by omega)); rw [Nat.add_zero, Nat.mul_one] at hc4 hf4; have X5 := Lib.hid (X4.out.put HA.out (place_in (r := 0) HD.out hlt (by omega)) (1 + (k : Int))); rw [Nat.add_zero, HSE.out, Nat.mul_one] at X5; clear hb4))
      go_roundw
      case rel => exact ⟨k + 1, D3, by omega, by go_num, X5.out⟩
      case measure => simp [intOf]; omega
    · obtain rfl : k = m := by omega
      obtain ⟨g, hg⟩ := Int.eq_ofNat_of_zero_le (show 0 ≤ dd % (k : Int) from Int.emod_nonneg _ (by omega))
      have hgk : g < k := by have := Int.emod_lt_of_pos dd (show (0 : Int) < k by omega); omega
      have HG := Lib.hid hg
      have hmo := fill_more ⟨k, hm⟩ hm1
      have hdr := fill_drop ⟨k, hm⟩ ⟨g, by omega⟩ hgk
      have hle := fill_len ⟨k, hm⟩ ⟨g, by omega⟩ hgk
      have hag := fill_again ⟨k, hm⟩ ⟨g, by omega⟩ hgk
      simp only at hmo hdr hle hag
      have HMO := Lib.hid hmo
      have HDR := Lib.hid hdr
      have HLE := Lib.hid hle
      have HAG := Lib.hid hag
      have hk1 : (((k - 1 : Nat) : Int)) = (k : Int) - 1 := by omega
      have HK1 := Lib.hid hk1
      clear hmo hdr hle hag hk1
      have hk0 : (k : Int) ≠ 0 := by omega
      have hkz : ((k : Int) == 0) = false := by simpa using hk0
      have htm : dd.tmod (k : Int) = (g : Int) := by rw [Int.tmod_eq_emod_of_nonneg hd0.1, hg]
      clear hg HG
      go_wp2_with (first
        | (go_at_call 17; refine (HA.out.get (o := (1, 0)) (c := true) X.out.p).mono ?_; rintro e w3 ⟨D3, he, hp3, ht3, hd3⟩; rw [HMO.out] at he hp3; subst he; have X3 := Lib.hid (X.out.next ht3 hp3 hd3); clear hp3 ht3 hd3 X)
        | (go_at_call 13; refine (HA.out.drop (o := (100 + (g : Int), 1)) X3.out.p).mono ?_; rintro e w4 ⟨D4, G4, he, hp4, ht4, hd4⟩; rw [HDR.out] at he hp4; subst he; have X4 := Lib.hid (X3.out.next ht4 hp4 hd4); clear hp4 ht4 hd4 X3)
        | (go_at_call 12; refine (HA.out.len X4.out.p).mono ?_; rintro e w5 ⟨he, hb5⟩; rw [HLE.out, HK1.out] at he; subst he; have X5 := Lib.hid (X4.out.stay HA.out hb5); clear hb5 X4)
        | (go_at_call 17; refine (HA.out.get (o := (1, 0)) (c := true) X5.out.p).mono ?_; rintro e w6 ⟨D6, he, hp6, ht6, hd6⟩; rw [HAG.out] at he hp6; simp only [HK1.out] at he; subst he; have X6 := Lib.hid (X5.out.next ht6 hp6 hd6); clear hp6 ht6 hd6 X5)
        | (go_at_call 11; refine (HA.out.bytes X6.out.p).mono ?_; rintro e w7 ⟨g7, cap7, rfl, hf7⟩; have X7 := Lib.hid (X6.out.stay HA.out hf7.below); have h7 := hf7.row (k - 1) (by omega); rw [Nat.zero_add, fill_last _ _ hm1] at h7; have HF7 := Lib.hid hf7; clear hf7 X6))
      clear h7
      go_loopw [19, 20] (fun v u wr => ∃ j : Nat, j + 1 ≤ k ∧ v = .int .i64 j ∧ wr = w7) (fun v _ _ => 17 - (intOf v).toNat)
      case atStart => exact ⟨0, by omega, rfl, rfl⟩
      case round =>
        obtain ⟨j, hj, rfl, rfl⟩ := hrel
        by_cases hlt : j + 1 < k
        · have h8 := HF7.out.row j (by omega)
          rw [Nat.zero_add] at h8
          by_cases hgj : g ≤ j
          · rw [fill_hi _ _ _ hlt hgj] at h8
            have HL := Lib.hid hlt
            clear hlt
            have hlt : (j : Int) < (k : Int) - 1 := by have := HL.out; omega
            go_wp2
            go_roundw
            case rel => exact ⟨j + 1, by have := HL.out; omega, by go_num, trivial⟩
            case measure => simp [intOf]; omega
          · rw [fill_lo _ _ _ hlt hgj] at h8
            go_wp2
            go_roundw
            case rel => exact ⟨j + 1, by omega, by go_num, trivial⟩
            case measure => simp [intOf]; omega
        · have hje : (j : Int) = (k : Int) - 1 := by omega
          go_wp2
          go_ret
          exact ⟨rfl, X7.out.b⟩
end Go.Proofs.Ytijhoiheieighaa
