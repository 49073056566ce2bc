/-
  Proved here: the law IsaEnds returns true, over a slice of instructions and one of bools. Conditions: the fields fit; the number of maps is an int.
-/
import Derived.Test.YtcngkbmffaojoaaEndsPlain
import Derived.Test.YtcngkbmffaojoaaBools
import Derived.Test.YtcngkbmffaojoaaAlive
namespace Go.Proofs.Ytcngkbmffaojoaa
open Go.RowKit

theorem law_ends_long (w : World) (A B : Option Addr) (len cap plen pcap : Nat) (maps : Int) (h : 100 < len) (hm : len ≤ maxLen) :
    Calls Try.prog 5 #[.slice A len cap, .int .i64 maps, .slice B plen pcap] w fun e w' => e = .returned (.bool true) ∧ Below w.heap.size w w' := by
  unfold maxLen at hm
  go_enter Try.func5, Try.ntmps5
  go_wp2_with (go_at_call 6; refine (alive _).mono ?_; rintro e w1 ⟨rfl, hb1⟩; have HB1 := Lib.hid hb1; clear hb1)
  go_ret
  exact ⟨rfl, HB1.out⟩
theorem check_is (c : Bool) (n : Int) (w : World) (A : Option Addr) (len cap : Nat) (l : List Ins) (maps : Int) (hc : checkI l maps = c) (hn : errI c = n) (hl : l.length = len) (hm : len ≤ maxLen) (hfit : ∀ x ∈ l, x.Fit) (hr : InsAt w A l)
    (hm0 : -9223372036854775808 ≤ maps) (hm1 : maps ≤ 9223372036854775807) :
    Calls Try.prog 15 #[.slice A len cap, .int .i64 maps] w fun e w' => e = .returned (.int .i64 n) ∧ Below w.heap.size w w' := by
  subst hn hc
  exact check_isa w A len cap l maps hl hm hfit hr hm0 hm1
theorem law_ends_bad (w : World) (A B : Option Addr) (len cap plen pcap : Nat) (l : List Ins) (maps : Int) (hl : l.length = len) (h100 : len ≤ 100) (hfit : ∀ x ∈ l, x.Fit) (hr : InsAt w A l)
    (hm0 : -9223372036854775808 ≤ maps) (hm1 : maps ≤ 9223372036854775807) (hc : checkI l maps = false) :
    Calls Try.prog 5 #[.slice A len cap, .int .i64 maps, .slice B plen pcap] w fun e w' => e = .returned (.bool true) ∧ Below w.heap.size w w' := by
  have hm : len ≤ maxLen := by unfold maxLen; omega
  have HC := Lib.hid hc
  have HL := Lib.hid hl
  clear hc hl
  have hn : ¬ 100 < len := by omega
  go_enter Try.func5, Try.ntmps5
  go_wp2_with (first
    | (go_at_call 6; refine (alive _).mono ?_; rintro e w1 ⟨rfl, hb1⟩; have hr1 := hr.below hb1; have HB1 := Lib.hid hb1; clear hb1)
    | (go_at_call 15; refine (check_is false 22 _ _ _ _ l maps HC.out rfl HL.out hm hfit hr1 hm0 hm1).mono ?_; rintro e w2 ⟨rfl, hb2⟩; have HB2 := Lib.hid hb2; clear hb2))
  go_ret
  exact ⟨rfl, HB1.out.trans (HB2.out.mono HB1.out.size)⟩
theorem jmp_cond {op : Int} (h0 : 0 ≤ op) (h1 : op ≤ 255) (h : op = 5 ∨ condB op = true) : jmpI op = true := by
  rw [jmp_same h0 h1]
  unfold jmpR
  rcases h with rfl | h
  · rfl
  · rw [h]; simp
theorem at5_under {B : Nat} {w w1 : World} {g o : Nat} {x : Ins} (h : At5 w g o x) (hb : Below B w w1) (hg : g < B) : At5 w1 g o x :=
  ⟨(hb.cell (p := ⟨g, _, none⟩) hg).trans h.1, (hb.cell (p := ⟨g, _, none⟩) hg).trans h.2.1, (hb.cell (p := ⟨g, _, none⟩) hg).trans h.2.2.1, (hb.cell (p := ⟨g, _, none⟩) hg).trans h.2.2.2.1, (hb.cell (p := ⟨g, _, none⟩) hg).trans h.2.2.2.2⟩
set_option maxRecDepth 100000 in
set_option maxHeartbeats 4000000 in
theorem law_ends_good (w : World) (A B : Option Addr) (len cap plen pcap : Nat) (l : List Ins) (maps : Int) (hl : l.length = len) (h100 : len ≤ 100) (hfit : ∀ x ∈ l, x.Fit) (hr : InsAt w A l)
    (hm0 : -9223372036854775808 ≤ maps) (hm1 : maps ≤ 9223372036854775807) (hc : checkI l maps = true) (hpm : plen ≤ maxLen)
    (hpk : 0 < plen → ∃ g off, B = some ⟨g, off, none⟩ ∧ ∀ j, j < plen → ∃ b : Bool, w.cell? ⟨g, off + j, none⟩ = some (.bool b)) :
    Calls Try.prog 5 #[.slice A len cap, .int .i64 maps, .slice B plen pcap] w fun e w' => e = .returned (.bool true) ∧ Below w.heap.size w w' := by
  have hm : len ≤ maxLen := by unfold maxLen; omega
  obtain ⟨hwell, -⟩ := well_of hfit hc
  have HW := Lib.hid hwell
  have HC := Lib.hid hc
  have HL := Lib.hid hl
  clear hc hl hwell
  have hn : ¬ 100 < len := by omega
  have hpm' := hpm
  unfold maxLen at hpm'
  go_enter Try.func5, Try.ntmps5
  go_wp2_with (first
    | (go_at_call 6; refine (alive _).mono ?_; rintro e w1 ⟨rfl, hb1⟩; have hr1 := hr.below hb1; have HB1 := Lib.hid hb1; clear hb1)
    | (go_at_call 15; refine (check_is true 0 _ _ _ _ l maps HC.out rfl HL.out hm hfit hr1 hm0 hm1).mono ?_; rintro e w2 ⟨rfl, hb2⟩; have HB2 := Lib.hid (HB1.out.trans (hb2.mono HB1.out.size)); clear hb2))
  go_loopw [7, 8] (fun i j wr => ∃ a s : Nat, s ≤ a ∧ i = .int .i64 a ∧ j = .int .i64 s ∧ Stands l a ∧ Below w.heap.size w wr) (fun _ j _ => len - (intOf j).toNat)
  case atStart => exact ⟨0, 0, by omega, rfl, rfl, stands_zero HW.out, HB2.out⟩
  case round =>
    obtain ⟨a, s, hsa, rfl, rfl, hst, hb⟩ := hrel
    have hal : a < len := by have := hst.1; rw [HL.out] at this; exact this
    have HS := Lib.hid hst
    have HB := Lib.hid hb
    clear hst hb HB2
    obtain ⟨g, off, rfl, hg, hx5⟩ := at5_of (k := a) HL.out hr hal
    have hfx := getD_fit hfit (k := a) (by rw [HL.out]; exact hal)
    have hxr := at5_under hx5 HB.out hg
    have hgr : g < wr.heap.size := Nat.lt_of_lt_of_le hg HB.out.size
    obtain ⟨⟨o, d, s', f, m⟩, hx⟩ : ∃ x, l.getD a .zero = x := ⟨_, rfl⟩
    rw [hx] at hfx hxr
    have h00 := hfx.op.1
    have h01 := hfx.op.2
    have hf0 := hfx.off.1
    have hf1 := hfx.off.2
    dsimp only at h00 h01 hf0 hf1
    have HX := Lib.hid hx
    obtain ⟨x0, x1, x2, x3, x4⟩ := hxr
    have i0 : (0 : Int) ≤ (a : Int) := by omega
    have i1 : (a : Int) < (len : Int) := by omega
    have i2 : (0 : Int) ≤ (s : Int) := by omega
    have i3 : (s : Int) < (len : Int) := by omega
    have HB1 := Lib.hid (HB.out.trans ((below_box wr (.cells #[.int .u8 o, .int .u8 d, .int .u8 s', .int .i16 f, .int .i32 m] 24)).mono HB.out.size))
    clear hx hfx hx5
    by_cases h149 : o = 149
    · subst h149
      go_wp2
      go_ret
      exact ⟨rfl, HB1.out⟩
    · have b149 : (o == 149) = false := by simpa using h149
      have HO := Lib.hid h149
      clear h149
      by_cases hsp : s < plen
      · obtain ⟨pg, poff, rfl, hpc⟩ := hpk (by omega)
        obtain ⟨q, hq⟩ := hpc s hsp
        have hpg : pg < w.heap.size := World.block_lt_of_cell? w _ hq
        have hqr : wr.cell? ⟨pg, poff + s, none⟩ = some (.bool q) := (HB.out.cell (p := ⟨pg, _, none⟩) hpg).trans hq
        have hpgr : pg < wr.heap.size := Nat.lt_of_lt_of_le hpg HB.out.size
        have i4 : (s : Int) < (plen : Int) := by omega
        clear hpc hq
        cases q
        · by_cases h24 : o = 24
          · have hnx := stands_wide2 HW.out HS.out (by rw [HX.out]; exact h24)
            have HN := Lib.hid hnx
            subst h24
            clear hnx
            go_wp2
            go_roundw
            case rel => exact ⟨a + 2, s + 1, by omega, by go_num, by go_num, HN.out, HB1.out⟩
            case measure => simp [intOf]; omega
          · have b24 : (o == 24) = false := by simpa using h24
            have H24 := Lib.hid h24
            clear h24
            by_cases h5 : o = 5
            · obtain ⟨f0, f1, hnx⟩ := stands_jump HW.out HS.out (by rw [HX.out]; exact jmp_cond h00 h01 (.inl h5))
              rw [HX.out] at f0 f1 hnx
              rw [HL.out] at f1
              dsimp only at f0 f1 hnx
              obtain ⟨t, ht⟩ : ∃ t : Nat, (a : Int) + 1 + f = t := ⟨((a : Int) + 1 + f).toNat, by omega⟩
              have et : ((a : Int) + 1 + f).toNat = t := by omega
              rw [et] at hnx
              have HN := Lib.hid hnx
              have HT := Lib.hid ht
              subst h5
              clear hnx ht et
              go_wp2
              go_roundw
              case rel => exact ⟨t, s + 1, by have := HT.out; omega, by rw [HT.out], by go_num, HN.out, HB1.out⟩
              case measure => simp [intOf]; omega
            · have b5 : (o == 5) = false := by simpa using h5
              have H5 := Lib.hid h5
              clear h5
              cases hcd : condB o
              · have HCD := Lib.hid hcd
                have HN := Lib.hid (stands_next HW.out HS.out (by rw [HX.out]; exact HO.out) (by rw [HX.out]; exact H24.out))
                clear hcd
                go_wp2_with (go_at_call 17; refine (cond_ref _ _ h00 h01).mono ?_; rintro e w3 ⟨rfl, rfl⟩; rw [HCD.out])
                go_roundw
                case rel => exact ⟨a + 1, s + 1, by omega, by go_num, by go_num, HN.out, HB1.out⟩
                case measure => simp [intOf]; omega
              · have HCD := Lib.hid hcd
                have HN := Lib.hid (stands_next HW.out HS.out (by rw [HX.out]; exact HO.out) (by rw [HX.out]; exact H24.out))
                clear hcd
                go_wp2_with (go_at_call 17; refine (cond_ref _ _ h00 h01).mono ?_; rintro e w3 ⟨rfl, rfl⟩; rw [HCD.out])
                go_roundw
                case rel => exact ⟨a + 1, s + 1, by omega, by go_num, by go_num, HN.out, HB1.out⟩
                case measure => simp [intOf]; omega
        · by_cases h24 : o = 24
          · have hnx := stands_wide2 HW.out HS.out (by rw [HX.out]; exact h24)
            have HN := Lib.hid hnx
            subst h24
            clear hnx
            go_wp2
            go_roundw
            case rel => exact ⟨a + 2, s + 1, by omega, by go_num, by go_num, HN.out, HB1.out⟩
            case measure => simp [intOf]; omega
          · have b24 : (o == 24) = false := by simpa using h24
            have H24 := Lib.hid h24
            clear h24
            by_cases h5 : o = 5
            · obtain ⟨f0, f1, hnx⟩ := stands_jump HW.out HS.out (by rw [HX.out]; exact jmp_cond h00 h01 (.inl h5))
              rw [HX.out] at f0 f1 hnx
              rw [HL.out] at f1
              dsimp only at f0 f1 hnx
              obtain ⟨t, ht⟩ : ∃ t : Nat, (a : Int) + 1 + f = t := ⟨((a : Int) + 1 + f).toNat, by omega⟩
              have et : ((a : Int) + 1 + f).toNat = t := by omega
              rw [et] at hnx
              have HN := Lib.hid hnx
              have HT := Lib.hid ht
              subst h5
              clear hnx ht et
              go_wp2
              go_roundw
              case rel => exact ⟨t, s + 1, by have := HT.out; omega, by rw [HT.out], by go_num, HN.out, HB1.out⟩
              case measure => simp [intOf]; omega
            · have b5 : (o == 5) = false := by simpa using h5
              have H5 := Lib.hid h5
              clear h5
              cases hcd : condB o
              · have HCD := Lib.hid hcd
                have HN := Lib.hid (stands_next HW.out HS.out (by rw [HX.out]; exact HO.out) (by rw [HX.out]; exact H24.out))
                clear hcd
                go_wp2_with (go_at_call 17; refine (cond_ref _ _ h00 h01).mono ?_; rintro e w3 ⟨rfl, rfl⟩; rw [HCD.out])
                go_roundw
                case rel => exact ⟨a + 1, s + 1, by omega, by go_num, by go_num, HN.out, HB1.out⟩
                case measure => simp [intOf]; omega
              · obtain ⟨f0, f1, hnx⟩ := stands_jump HW.out HS.out (by rw [HX.out]; exact jmp_cond h00 h01 (.inr hcd))
                rw [HX.out] at f0 f1 hnx
                rw [HL.out] at f1
                dsimp only at f0 f1 hnx
                obtain ⟨t, ht⟩ : ∃ t : Nat, (a : Int) + 1 + f = t := ⟨((a : Int) + 1 + f).toNat, by omega⟩
                have et : ((a : Int) + 1 + f).toNat = t := by omega
                rw [et] at hnx
                have HN := Lib.hid hnx
                have HT := Lib.hid ht
                have HCD := Lib.hid hcd
                clear hnx ht et hcd
                go_wp2_with (go_at_call 17; refine (cond_ref _ _ h00 h01).mono ?_; rintro e w3 ⟨rfl, rfl⟩; rw [HCD.out])
                go_roundw
                case rel => exact ⟨t, s + 1, by have := HT.out; omega, by rw [HT.out], by go_num, HN.out, HB1.out⟩
                case measure => simp [intOf]; omega
      · have i4 : ¬ (s : Int) < (plen : Int) := by omega
        by_cases h24 : o = 24
        · have hnx := stands_wide2 HW.out HS.out (by rw [HX.out]; exact h24)
          have HN := Lib.hid hnx
          subst h24
          clear hnx
          go_wp2
          go_roundw
          case rel => exact ⟨a + 2, s + 1, by omega, by go_num, by go_num, HN.out, HB1.out⟩
          case measure => simp [intOf]; omega
        · have b24 : (o == 24) = false := by simpa using h24
          have H24 := Lib.hid h24
          clear h24
          by_cases h5 : o = 5
          · obtain ⟨f0, f1, hnx⟩ := stands_jump HW.out HS.out (by rw [HX.out]; exact jmp_cond h00 h01 (.inl h5))
            rw [HX.out] at f0 f1 hnx
            rw [HL.out] at f1
            dsimp only at f0 f1 hnx
            obtain ⟨t, ht⟩ : ∃ t : Nat, (a : Int) + 1 + f = t := ⟨((a : Int) + 1 + f).toNat, by omega⟩
            have et : ((a : Int) + 1 + f).toNat = t := by omega
            rw [et] at hnx
            have HN := Lib.hid hnx
            have HT := Lib.hid ht
            subst h5
            clear hnx ht et
            go_wp2
            go_roundw
            case rel => exact ⟨t, s + 1, by have := HT.out; omega, by rw [HT.out], by go_num, HN.out, HB1.out⟩
            case measure => simp [intOf]; omega
          · have b5 : (o == 5) = false := by simpa using h5
            have H5 := Lib.hid h5
            clear h5
            cases hcd : condB o
            · have HCD := Lib.hid hcd
              have HN := Lib.hid (stands_next HW.out HS.out (by rw [HX.out]; exact HO.out) (by rw [HX.out]; exact H24.out))
              clear hcd
              go_wp2_with (go_at_call 17; refine (cond_ref _ _ h00 h01).mono ?_; rintro e w3 ⟨rfl, rfl⟩; rw [HCD.out])
              go_roundw
              case rel => exact ⟨a + 1, s + 1, by omega, by go_num, by go_num, HN.out, HB1.out⟩
              case measure => simp [intOf]; omega
            · have HCD := Lib.hid hcd
              have HN := Lib.hid (stands_next HW.out HS.out (by rw [HX.out]; exact HO.out) (by rw [HX.out]; exact H24.out))
              clear hcd
              go_wp2_with (go_at_call 17; refine (cond_ref _ _ h00 h01).mono ?_; rintro e w3 ⟨rfl, rfl⟩; rw [HCD.out])
              go_roundw
              case rel => exact ⟨a + 1, s + 1, by omega, by go_num, by go_num, HN.out, HB1.out⟩
              case measure => simp [intOf]; omega
theorem isaEnds.walk (v0 v1 v2 : Value) (w : World) (h0 : IsRows insKinds w v0) (h1 : IsInt .i64 v1) (h2 : IsBools w v2) : Calls Try.prog 5 #[v0, v1, v2] w fun e w' => e = .returned (.bool true) ∧ Below w.heap.size w w' := by
  obtain ⟨A, len, cap, l, rfl, hl, hm, hfit, hat⟩ := rows_in h0
  obtain ⟨maps, rfl, hw⟩ := h1
  have hb := bounds_i64 hw
  obtain ⟨B, plen, pcap, rfl, hpm, hpk⟩ := bools_in h2
  by_cases h : 100 < len
  · exact law_ends_long w A B len cap plen pcap maps h hm
  · cases hc : checkI l maps
    · exact law_ends_bad w A B len cap plen pcap l maps hl (by omega) hfit hat hb.1 hb.2 hc
    · exact law_ends_good w A B len cap plen pcap l maps hl (by omega) hfit hat hb.1 hb.2 hc hpm hpk
end Go.Proofs.Ytcngkbmffaojoaa
