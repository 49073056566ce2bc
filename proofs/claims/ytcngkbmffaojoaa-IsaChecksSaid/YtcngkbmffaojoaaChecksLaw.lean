/-
  Proved here: the law IsaChecks returns true, over a slice of instructions. Conditions: the fields fit; the number of maps is an int.
-/
import Derived.Test.YtcngkbmffaojoaaSameCheck
import Derived.Test.YtcngkbmffaojoaaAlive
namespace Go.Proofs.Ytcngkbmffaojoaa
open Go.RowKit

theorem law_checks_long (w : World) (A : Option Addr) (len cap : Nat) (maps : Int) (h : 200 < len) (hm : len ≤ maxLen) :
    Calls Try.prog 4 #[.slice A len cap, .int .i64 maps] w fun e w' => e = .returned (.bool true) ∧ Below w.heap.size w w' := by
  unfold maxLen at hm
  go_enter Try.func4, Try.ntmps4
  go_wp2_with (go_at_call 6; refine (alive _).mono ?_; rintro e w1 ⟨rfl, hb1⟩; have HB1 := Lib.hid hb1; clear hb1)
  go_ret
  exact ⟨rfl, HB1.out⟩
theorem insAt_below {w w1 : World} {A : Option Addr} {l : List Ins} (h : InsAt w A l) (hb : Below w.heap.size w w1) : InsAt w1 A l := h.below hb
theorem check_err (c : Bool) (n : Int) (w : World) (A : Option Addr) (len cap : Nat) (l : List Ins) (maps : Int) (hc : checkI l maps = c) (hn : errI c = n) (hl : l.length = len) (hm : len ≤ maxLen) (hfit : ∀ x ∈ l, x.Fit) (hr : InsAt w A l)
    (hm0 : -9223372036854775808 ≤ maps) (hm1 : maps ≤ 9223372036854775807) :
    Calls Try.prog 15 #[.slice A len cap, .int .i64 maps] w fun e w' => e = .returned (.int .i64 n) ∧ Below w.heap.size w w' := by
  subst hn hc
  exact check_isa w A len cap l maps hl hm hfit hr hm0 hm1
theorem check_ref (c : Bool) (w : World) (A : Option Addr) (len cap : Nat) (l : List Ins) (maps : Int) (hc : chkR l maps = c) (hl : l.length = len) (hm : len ≤ maxLen) (hfit : ∀ x ∈ l, x.Fit) (hr : InsAt w A l)
    (hm0 : -9223372036854775808 ≤ maps) (hm1 : maps ≤ 9223372036854775807) :
    Calls Try.prog 16 #[.slice A len cap, .int .i64 maps] w fun e w' => e = .returned (.bool c) ∧ Below w.heap.size w w' := by
  subst hc
  by_cases hs : 1 ≤ len ∧ len ≤ 64
  · obtain ⟨g, off, rfl, hg, -⟩ := at5_of (k := 0) hl hr (by omega)
    exact check_ref_good w g off len cap l maps hl hs.1 hs.2 hg hfit hr hm0 hm1
  · rw [chkR_size (by omega)]
    exact check_ref_size w A len cap maps hm (by omega)
set_option maxHeartbeats 2000000 in
theorem law_checks_short (w : World) (A : Option Addr) (len cap : Nat) (l : List Ins) (maps : Int) (hl : l.length = len) (h200 : len ≤ 200) (hfit : ∀ x ∈ l, x.Fit) (hr : InsAt w A l)
    (hm0 : -9223372036854775808 ≤ maps) (hm1 : maps ≤ 9223372036854775807) :
    Calls Try.prog 4 #[.slice A len cap, .int .i64 maps] w fun e w' => e = .returned (.bool true) ∧ Below w.heap.size w w' := by
  have hm : len ≤ maxLen := by unfold maxLen; omega
  have hsame := check_same l maps hfit
  obtain ⟨c, hc⟩ : ∃ c, chkR l maps = c := ⟨_, rfl⟩
  rw [hc] at hsame
  have HC := Lib.hid hc
  have HI := Lib.hid hsame
  have HL := Lib.hid hl
  clear hc hsame hl
  go_enter Try.func4, Try.ntmps4
  go_wp2_with (first
    | (go_at_call 6; refine (alive _).mono ?_; rintro e w1 ⟨rfl, hb1⟩; have hr1 := insAt_below hr hb1; have HB1 := Lib.hid hb1; clear hb1)
    | (go_at_call 13; refine (seconds_ref _ _ _ _ l HL.out h200 hfit hr1).mono ?_; rintro e w2 ⟨gs, rfl, hgs, hrow, hb2⟩; have HR2 := Lib.hid (ChkRel.mk (w := w) hrow hgs (HB1.out.trans (hb2.mono HB1.out.size))); clear hrow hgs hb2))
  go_loopw [6] (fun i wr => ∃ k : Nat, k ≤ len + 2 ∧ i = .int .i64 ((k : Int) - 1) ∧ ChkRel w wr gs len l) (fun i _ => len + 2 - (intOf i + 1).toNat)
  case atStart => exact ⟨0, by omega, rfl, HR2.out⟩
  case round =>
    obtain ⟨k, hk, rfl, hrel⟩ := hrel
    have hlt0 := hrel.lt
    have HR := Lib.hid hrel
    clear hrel HR2
    have hrr := insAt_below hr HR.out.below
    by_cases hlt : k ≤ len + 1
    · by_cases h0 : k = 0
      · subst h0
        go_wp2_with (go_at_call 14; refine (second_out _ _ _ _ _ (.inl (by omega))).mono ?_; rintro e w3 ⟨rfl, hb3⟩; have HR3 := Lib.hid (HR.out.stays hb3); clear hb3)
        go_roundw
        case rel => exact ⟨1, by omega, by go_num, HR3.out⟩
        case measure => simp [intOf]
      · obtain ⟨j, rfl⟩ : ∃ j, k = j + 1 := ⟨k - 1, by omega⟩
        have ej : ((j + 1 : Nat) : Int) - 1 = (j : Int) := by omega
        rw [ej]
        clear ej
        by_cases hj : j < len
        · cases hs : secN l j
          all_goals
            have HS := Lib.hid hs
            clear hs
            go_wp2_with (go_at_call 14; refine (second_at _ _ _ _ _ j l rfl HL.out hm hrr).mono ?_; rintro e w3 ⟨rfl, hb3⟩; rw [HS.out]; have hr3 := HR.out.stays hb3; have hrow := hr3.row j hj; rw [HS.out] at hrow; have HR3 := Lib.hid hr3; clear hr3 hb3)
            go_roundw
            case rel => exact ⟨j + 2, by omega, by go_num, HR3.out⟩
            case measure => simp [intOf]; omega
        · obtain rfl : j = len := by omega
          go_wp2_with (go_at_call 14; refine (second_out _ _ _ _ _ (.inr (by omega))).mono ?_; rintro e w3 ⟨rfl, hb3⟩; have HR3 := Lib.hid (HR.out.stays hb3); clear hb3)
          go_roundw
          case rel => exact ⟨j + 2, by omega, by go_num, HR3.out⟩
          case measure => simp [intOf]; omega
    · obtain rfl : k = len + 2 := by omega
      have ek : ((len + 2 : Nat) : Int) - 1 = (len : Int) + 1 := by omega
      rw [ek]
      clear ek
      cases c
      · go_wp2_with (first
          | (go_at_call 15; have _t := hrr; refine (check_err false 22 _ _ _ _ l maps HI.out rfl HL.out hm hfit hrr hm0 hm1).mono ?_; rintro e w3 ⟨rfl, hb3⟩; have hr3 := insAt_below hrr hb3; have HR3 := Lib.hid (HR.out.stays hb3); clear hrr hb3)
          | (go_at_call 16; refine (check_ref false _ _ _ _ l maps HC.out HL.out hm hfit hr3 hm0 hm1).mono ?_; rintro e w4 ⟨rfl, hb4⟩; have hr4 := insAt_below hr3 hb4; have HR4 := Lib.hid (HR3.out.stays hb4); clear hr3 hb4)
          | (go_at_call 15; have _t := hr4; refine (check_err false 22 _ _ _ _ l maps HI.out rfl HL.out hm hfit hr4 hm0 hm1).mono ?_; rintro e w5 ⟨rfl, hb5⟩; have hr5 := insAt_below hr4 hb5; have HR5 := Lib.hid (HR4.out.stays hb5); clear hr4 hb5)
          | (go_at_call 15; refine (check_err false 22 _ _ _ _ l maps HI.out rfl HL.out hm hfit hr5 hm0 hm1).mono ?_; rintro e w6 ⟨rfl, hb6⟩; have HR6 := Lib.hid (HR5.out.stays hb6); clear hb6))
        go_ret
        exact ⟨rfl, HR6.out.below⟩
      · go_wp2_with (first
          | (go_at_call 15; have _t := hrr; refine (check_err true 0 _ _ _ _ l maps HI.out rfl HL.out hm hfit hrr hm0 hm1).mono ?_; rintro e w3 ⟨rfl, hb3⟩; have hr3 := insAt_below hrr hb3; have HR3 := Lib.hid (HR.out.stays hb3); clear hrr hb3)
          | (go_at_call 16; refine (check_ref true _ _ _ _ l maps HC.out HL.out hm hfit hr3 hm0 hm1).mono ?_; rintro e w4 ⟨rfl, hb4⟩; have hr4 := insAt_below hr3 hb4; have HR4 := Lib.hid (HR3.out.stays hb4); clear hr3 hb4)
          | (go_at_call 15; have _t := hr4; refine (check_err true 0 _ _ _ _ l maps HI.out rfl HL.out hm hfit hr4 hm0 hm1).mono ?_; rintro e w5 ⟨rfl, hb5⟩; have hr5 := insAt_below hr4 hb5; have HR5 := Lib.hid (HR4.out.stays hb5); clear hr4 hb5)
          | (go_at_call 15; refine (check_err true 0 _ _ _ _ l maps HI.out rfl HL.out hm hfit hr5 hm0 hm1).mono ?_; rintro e w6 ⟨rfl, hb6⟩; have HR6 := Lib.hid (HR5.out.stays hb6); clear hb6))
        go_ret
        exact ⟨rfl, HR5.out.below⟩
theorem isaChecks.walk (v0 v1 : Value) (w : World) (h0 : IsRows insKinds w v0) (h1 : IsInt .i64 v1) : Calls Try.prog 4 #[v0, v1] w fun e w' => e = .returned (.bool true) ∧ Below w.heap.size w w' := by
  obtain ⟨A, len, cap, l, rfl, hl, hm, hfit, hat⟩ := rows_in h0
  obtain ⟨maps, rfl, hw⟩ := h1
  have hb := bounds_i64 hw
  by_cases h : 200 < len
  · exact law_checks_long w A len cap maps h hm
  · exact law_checks_short w A len cap l maps hl (by omega) hfit hat hb.1 hb.2
end Go.Proofs.Ytcngkbmffaojoaa
