/-
  Proved here: the law InstBytes returns true, over a slice of instructions. Conditions: the fields fit their kinds.
-/
import Derived.Test.YtmihmgchbibmoaaRefBytes
import Derived.Test.YtmihmgchbibmoaaInsIn
import Derived.Deep.RegionWith
namespace Go.Proofs.Ytmihmgchbibmoaa
open Go.RowKit

theorem conv_own {W w w' : World} {A : Option Addr} {n cap : Nat} {zs : List Int} (hz : zs.length = n) (h : n = 0 ∨ ∃ g, A = some ⟨g, 0, none⟩ ∧ Fresh W w g n zs) (hb : Below w.heap.size w w') :
    (convert 24 9 (.slice A n cap)).run Try.prog w' = .ok (.string (strOfNums zs)) w' := by
  rcases h with rfl | ⟨g, rfl, hf⟩
  · obtain rfl : zs = [] := List.eq_nil_of_length_eq_zero hz
    exact run_convert_bytes_zero (P := Try.prog) w' 24 5 Try.underlying24 Try.underlying5 A cap 9 Try.underlying9
  · rcases Nat.eq_zero_or_pos n with h0 | h0
    · subst h0
      obtain rfl : zs = [] := List.eq_nil_of_length_eq_zero hz
      exact run_convert_bytes_zero (P := Try.prog) w' 24 5 Try.underlying24 Try.underlying5 _ cap 9 Try.underlying9
    · have hg := hf.lt h0
      exact str_of hz (fun j hj => (hb.cell (p := ⟨g, 0 + j, none⟩) hg).trans (hf.row j hj))
theorem insAt_below {w w' : World} {A : Option Addr} {l : List Ins} (h : InsAt w A l) (hb : Below w.heap.size w w') : InsAt w' A l := by
  rcases h with h | ⟨g, off, rfl, hg, hr⟩
  · exact .inl h
  · exact .inr ⟨g, off, rfl, Nat.lt_of_lt_of_le hg hb.size, hr.below hb hg⟩

theorem law_bytes_long (w : World) (A : Option Addr) (len cap : Nat) (h : 200 < len) (hm : len ≤ maxLen) :
    Calls Try.prog 3 #[.slice A len cap] w fun e w' => e = .returned (.bool true) ∧ Below w.heap.size w w' := by
  unfold maxLen at hm
  have hd : decide (200 < (len : Int)) = true := decide_eq_true (by omega)
  go_enter Try.func3, Try.ntmps3
  go_wp2_with (go_at_call 7; refine (alive _).mono ?_; rintro e w1 ⟨rfl, hb1⟩; have HB1 := Lib.hid hb1; clear hb1)
  go_quiet (fail)
  go_wp2
  go_ret
  exact ⟨rfl, below_drews HB1.out _⟩
theorem law_bytes_short (w : World) (A : Option Addr) (len cap : Nat) (l : List Ins) (hl : l.length = len) (h200 : len ≤ 200) (hfit : ∀ x ∈ l, x.Fit) (hr : InsAt w A l) :
    Calls Try.prog 3 #[.slice A len cap] w fun e w' => e = .returned (.bool true) ∧ Below w.heap.size w w' := by
  have hd : decide (200 < (len : Int)) = false := decide_eq_false (by omega)
  obtain ⟨s, hs⟩ : ∃ s, strOfNums (bytesOf l) = s := ⟨_, rfl⟩
  have HS := Lib.hid hs
  have HL := Lib.hid hl
  have HB2 := Lib.hid (show (bytesOf l).length = 8 * len by rw [bytesOf_length, hl])
  clear hs hl
  go_enter Try.func3, Try.ntmps3
  go_wp2_with (go_at_call 7; refine (alive _).mono ?_; rintro e w1 ⟨rfl, hb1⟩; have hr1 := insAt_below hr hb1; have HB1 := Lib.hid hb1; clear hb1)
  have hb1 : Below w1.drew.heap.size w1.drew w1.drew := Below.refl _ _
  go_region_with (first
    | (go_at_call 8; refine (bytes_inst _ _ _ _ l HL.out h200 hfit (by exact hr1)).mono ?_; rintro e w2 ⟨g2, cap2, rfl, hf2⟩;
        have hr2 : InsAt w2 A l := insAt_below (w := w1.drew) hr1 hf2.below;
        have hc2 := conv_own (cap := cap2) HB2.out (.inr ⟨g2, rfl, hf2⟩) (Below.refl _ w2); rw [HS.out] at hc2;
        have HF2 := Lib.hid hf2; clear hf2)
    | (go_at_call 9; refine (bytes_ref _ _ _ _ l HL.out h200 hfit (by exact hr2)).mono ?_; rintro e w3 ⟨A3, cap3, rfl, ho3, hb3⟩;
        have hc3 := conv_own (cap := cap3) HB2.out ho3 (Below.refl _ w3); rw [HS.out] at hc3;
        have hc4 := conv_own (cap := cap2) HB2.out (.inr ⟨g2, rfl, HF2.out⟩) hb3; rw [HS.out] at hc4;
        have HB3 := Lib.hid hb3; clear hb3 ho3))
  all_goals
    go_wp2
    go_ret
    exact ⟨rfl, ((HB1.out.drew).trans (HF2.out.below.mono (HB1.out.size))).trans (HB3.out.mono (Nat.le_trans HB1.out.size HF2.out.below.size))⟩

theorem instBytes.walk (v0 : Value) (w : World) (h0 : IsRows insKinds w v0) : Calls Try.prog 3 #[v0] w fun e w' => e = .returned (.bool true) ∧ Below w.heap.size w w' := by
  obtain ⟨A, len, cap, l, rfl, hl, hm, hfit, hat⟩ := rows_in h0
  by_cases h : 200 < len
  · exact law_bytes_long w A len cap h hm
  · exact law_bytes_short w A len cap l hl (by omega) hfit hat
end Go.Proofs.Ytmihmgchbibmoaa
