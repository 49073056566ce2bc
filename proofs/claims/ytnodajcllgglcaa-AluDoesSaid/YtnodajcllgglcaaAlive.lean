/-
  Proved here: alive of halberdlaw04 (the document's examples) returns true. Conditions: none.
-/
import Derived.Test.YtnodajcllgglcaaHoldsAll
import Derived.Test.YtnodajcllgglcaaRefDoAll
import Derived.Deep.RegionWith
namespace Go.Proofs.Ytnodajcllgglcaa
open Go.RowKit

theorem ex_div : doI 48 true 7 0 = 0 ∧ doI 144 true 7 0 = 7 ∧ doI 96 true 1 65 = 2 ∧ doI 16 false 0 1 = 4294967295 ∧ isOp 16 = true ∧ holdI 96 true 0 18446744073709551615 = true ∧ isCond 96 = true := by decide +kernel
theorem alive (w : World) : Calls Try.prog 7 #[] w fun e w' => e = .returned (.bool true) ∧ Below w.heap.size w w' := by
  obtain ⟨e1, e2, e3, e4, e5, e6, e7⟩ := ex_div
  have E1 := Lib.hid e1
  have E2 := Lib.hid e2
  have E3 := Lib.hid e3
  have E4 := Lib.hid e4
  have E5 := Lib.hid e5
  have E6 := Lib.hid e6
  have E7 := Lib.hid e7
  clear e1 e2 e3 e4 e5 e6 e7
  obtain ⟨o1, ho1⟩ : ∃ o, isOp 48 = o := ⟨_, rfl⟩
  obtain ⟨o2, ho2⟩ : ∃ o, isOp 144 = o := ⟨_, rfl⟩
  obtain ⟨o3, ho3⟩ : ∃ o, isOp 96 = o := ⟨_, rfl⟩
  have O1 := Lib.hid ho1
  have O2 := Lib.hid ho2
  have O3 := Lib.hid ho3
  clear ho1 ho2 ho3
  have HB := Lib.hid (Below.refl w.heap.size w)
  go_enter Try.func7, Try.ntmps7
  go_wp2_with (first
    | (go_at_call_of 8 (Value.int .u8 48); refine (do_alu 48 true 7 0 _ (by decide) (by decide) (by decide) (by decide) (by decide) (by decide)).mono ?_; rw [E1.out, O1.out]; rintro e w' ⟨rfl, hb⟩; have HB1 := Lib.hid (HB.out.trans (hb.mono HB.out.size)); clear hb HB E1)
    | (go_at_call_of 8 (Value.int .u8 144); refine (do_alu 144 true 7 0 _ (by decide) (by decide) (by decide) (by decide) (by decide) (by decide)).mono ?_; rw [E2.out, O2.out]; rintro e w' ⟨rfl, hb⟩; have HB2 := Lib.hid (HB1.out.trans (hb.mono HB1.out.size)); clear hb HB1 E2)
    | (go_at_call_of 8 (Value.int .u8 96); refine (do_alu 96 true 1 65 _ (by decide) (by decide) (by decide) (by decide) (by decide) (by decide)).mono ?_; rw [E3.out, O3.out]; rintro e w' ⟨rfl, hb⟩; have HB3 := Lib.hid (HB2.out.trans (hb.mono HB2.out.size)); clear hb HB2 E3)
    | (go_at_call_of 8 (Value.int .u8 16); refine (do_alu 16 false 0 1 _ (by decide) (by decide) (by decide) (by decide) (by decide) (by decide)).mono ?_; rw [E4.out, E5.out]; rintro e w' ⟨rfl, hb⟩; have HB4 := Lib.hid (HB3.out.trans (hb.mono HB3.out.size)); clear hb HB3 E4)
    | (go_at_call 10; refine (holds_alu 96 true 0 18446744073709551615 _ (by decide) (by decide) (by decide) (by decide)).mono ?_; rw [E6.out, E7.out]; rintro e w' ⟨rfl, hb⟩; have HB5 := Lib.hid (HB4.out.trans (hb.mono HB4.out.size)); clear hb HB4 E6))
  go_ret
  exact ⟨rfl, HB5.out⟩
end Go.Proofs.Ytnodajcllgglcaa
