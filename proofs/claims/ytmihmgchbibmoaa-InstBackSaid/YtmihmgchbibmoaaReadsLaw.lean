/-
  Proved here: the law InstReads returns true, for whatever bytes came in. Conditions: the bytes fit.
-/
import Derived.Test.YtmihmgchbibmoaaCodes
import Derived.Test.YtmihmgchbibmoaaSame
import Derived.Test.YtmihmgchbibmoaaBytesLaw
import Derived.Deep.RegionWith
namespace Go.Proofs.Ytmihmgchbibmoaa
open Go.RowKit

theorem law_reads_long (w : World) (A : Option Addr) (len cap : Nat) (h : 2000 < len) (hm : len ≤ maxLen) :
    Calls Try.prog 4 #[.slice A len cap] w fun e w' => e = .returned (.bool true) ∧ Below w.heap.size w w' := by
  unfold maxLen at hm
  go_enter Try.func4, Try.ntmps4
  go_wp2_with (go_at_call 7; refine (alive _).mono ?_; rintro e w1 ⟨rfl, hb1⟩; have HB1 := Lib.hid hb1; clear hb1)
  go_ret
  exact ⟨rfl, HB1.out⟩
theorem law_reads_bad (w : World) (A : Option Addr) (len cap : Nat) (h : len ≤ 2000) (hc : codeB len = false) :
    Calls Try.prog 4 #[.slice A len cap] w fun e w' => e = .returned (.bool true) ∧ Below w.heap.size w w' := by
  have hm : len ≤ maxLen := by unfold maxLen; omega
  have HC := Lib.hid hc
  clear hc
  go_enter Try.func4, Try.ntmps4
  go_wp2_with (first
    | (go_at_call 7; refine (alive _).mono ?_; rintro e w1 ⟨rfl, hb1⟩; have HB1 := Lib.hid hb1; clear hb1)
    | (go_at_call 10; refine (read_bad _ _ _ _ HC.out hm).mono ?_; rintro e w' ⟨rfl, rfl⟩)
    | (go_at_call 11; refine (ref_bad _ _ _ _ HC.out hm).mono ?_; rintro e w' ⟨rfl, rfl⟩))
  go_ret
  exact ⟨rfl, HB1.out⟩
/-- Same's answer, and that nothing that was there is turned. -/
theorem same_yes (w : World) (A B : Option Addr) (len capA capB : Nat) (l : List Ins) (hl : l.length = len) (h200 : len ≤ 200) (ha : InsAt w A l) (hb : InsAt w B l) :
    Calls Try.prog 12 #[.slice A len capA, .slice B len capB] w fun e w' => e = .returned (.bool true) ∧ Below w.heap.size w w' :=
  (same_ref w A B len capA capB l hl h200 ha hb).mono fun _ _ ⟨he, n, hw⟩ => ⟨he, by rw [hw]; exact below_drews (Below.refl _ _) n⟩
theorem conv_row {w w' : World} {g off len cap : Nat} {zs : List Int} (hz : zs.length = len) (hr : RowAt w g off len zs) (hg : g < w.heap.size) (hb : Below w.heap.size w w') :
    (convert 24 9 (.slice (some ⟨g, off, none⟩) len cap)).run Try.prog w' = .ok (.string (strOfNums zs)) w' :=
  str_of hz (fun j hj => (hb.cell (p := ⟨g, off + j, none⟩) hg).trans (hr j hj))
theorem row_below {w w' : World} {g off len : Nat} {zs : List Int} (hr : RowAt w g off len zs) (hg : g < w.heap.size) (hb : Below w.heap.size w w') : RowAt w' g off len zs :=
  fun j hj => (hb.cell (p := ⟨g, off + j, none⟩) hg).trans (hr j hj)
theorem insList_fit {zs : List Int} (hz : BytesIn zs) (N : Nat) : ∀ x ∈ insList zs N, x.Fit := by
  intro x hx
  simp only [insList, List.mem_map] at hx
  obtain ⟨j, _, rfl⟩ := hx
  have h0 := hz (8 * j)
  have h1 := hz (8 * j + 1)
  rw [pieceOf_at]
  constructor
  · exact h0
  · simp only [insOf]; omega
  · simp only [insOf]; omega
  · simp only [insOf, i16_mod]; omega
  · simp only [insOf, wrap32]; omega

set_option maxHeartbeats 2000000 in
theorem law_reads_good (w : World) (g off cap N : Nat) (zs : List Int) (hz : zs.length = 8 * N) (h1 : 1 ≤ N) (h64 : N ≤ 64) (hlc : 8 * N ≤ cap) (hcm : cap ≤ maxLen) (hr : RowAt w g off (8 * N) zs) (hzb : BytesIn zs) :
    Calls Try.prog 4 #[.slice (some ⟨g, off, none⟩) (8 * N) cap] w fun e w' => e = .returned (.bool true) ∧ Below w.heap.size w w' := by
  have hg : g < w.heap.size := World.block_lt_of_cell? w _ (hr 0 (by omega))
  have hll := insList_length zs N
  have hfit := insList_fit hzb N
  have hbo := bytesOf_insList zs N hz hzb
  obtain ⟨l, hl⟩ : ∃ l, insList zs N = l := ⟨_, rfl⟩
  obtain ⟨s, hs⟩ : ∃ s, strOfNums zs = s := ⟨_, rfl⟩
  rw [hl] at hll hfit hbo
  have HL := Lib.hid hl
  have HS := Lib.hid hs
  have HLL := Lib.hid hll
  have HBO := Lib.hid hbo
  have HZ := Lib.hid hz
  clear hl hs hll hbo hz
  go_enter Try.func4, Try.ntmps4
  go_wp2_with (first
    | (go_at_call 7; refine (alive _).mono ?_; rintro e w1 ⟨rfl, hb1⟩; have hr1 := row_below hr hg hb1; have hg1 := Nat.lt_of_lt_of_le hg hb1.size; have HB1 := Lib.hid hb1; clear hb1)
    | (go_at_call 10; refine (read_good _ _ _ _ zs _ h1 h64 hlc hcm hr1 hzb).mono ?_; rintro e w2 ⟨v2, rfl, ho2, hb2⟩; rw [HL.out] at ho2; obtain ⟨A2, cap2, rfl, hi2⟩ := insRow_of_own HLL.out ho2; have hr2 := row_below hr1 hg1 hb2; have hg2 := Nat.lt_of_lt_of_le hg1 hb2.size; have HB2 := Lib.hid hb2; clear hb2 ho2)
    | (go_at_call 11; refine (ref_good _ _ _ _ zs _ h1 h64 hr2 hzb).mono ?_; rintro e w3 ⟨v3, rfl, ho3, hb3⟩; rw [HL.out] at ho3; obtain ⟨A3, cap3, rfl, hi3⟩ := insRow_of_own HLL.out ho3; have hi23 := insAt_below hi2 hb3; have hr3 := row_below hr2 hg2 hb3; have hg3 := Nat.lt_of_lt_of_le hg2 hb3.size; have HB3 := Lib.hid hb3; clear hb3 ho3))
  have hb3 : Below w3.drew.heap.size w3.drew w3.drew := Below.refl _ _
  have hcb3 := conv_row (cap := cap) (w := w3.drew) HZ.out hr3 hg3 hb3
  rw [HS.out] at hcb3
  go_region_with (first
    | (go_at_call 12; refine (same_yes _ _ _ _ _ _ l HLL.out (by omega) (by exact hi23) (by exact hi3)).mono ?_; rintro e w4 ⟨rfl, hb4⟩;
        have hi4 : InsAt w4 A2 l := insAt_below (w := w3.drew) hi23 hb4;
        have hr4 : RowAt w4 g off (8 * N) zs := row_below (w := w3.drew) hr3 hg3 hb4;
        have hg4 : g < w4.heap.size := Nat.lt_of_lt_of_le hg3 hb4.size;
        have hcb4 := conv_row (cap := cap) HZ.out hr4 hg4 (Below.refl _ w4); rw [HS.out] at hcb4;
        have HB4 := Lib.hid hb4; clear hb4)
    | (go_at_call 8; refine (bytes_inst _ _ _ _ l HLL.out (by omega) hfit (by exact hi4)).mono ?_; rintro e w5 ⟨g5, cap5, rfl, hf5⟩;
        have hcb5 := conv_row (cap := cap) HZ.out hr4 hg4 hf5.below; rw [HS.out] at hcb5;
        have hcc5 := conv_own (cap := cap5) (by rw [HBO.out]; exact HZ.out) (.inr ⟨g5, rfl, hf5⟩) (Below.refl _ w5); rw [HBO.out, HS.out] at hcc5;
        have HF5 := Lib.hid hf5; clear hf5))
  all_goals
    go_wp2
    go_ret
    have a1 := HB1.out
    have a2 := HB2.out
    have a3 := HB3.out
    have a4 := HB4.out
    have a5 := HF5.out.below
    exact ⟨rfl, ((((a1.trans (a2.mono a1.size)).trans (a3.mono (Nat.le_trans a1.size a2.size))).drew.trans (a4.mono (Nat.le_trans a1.size (Nat.le_trans a2.size a3.size)))).trans (a5.mono (Nat.le_trans a1.size (Nat.le_trans a2.size (Nat.le_trans a3.size a4.size)))))⟩
end Go.Proofs.Ytmihmgchbibmoaa
