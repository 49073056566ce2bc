/-
  Proved here: what lands of package isa returns. Conditions: the place is one of the code's.
-/
import Derived.Test.YtcngkbmffaojoaaStands
namespace Go.Proofs.Ytcngkbmffaojoaa
open Go.RowKit
/-- A jump goes to where it may. -/
def landB (l : List Ins) (k : Nat) : Bool :=
  !jmpI (l.getD k .zero).op || (decide (0 ≤ (l.getD k .zero).off) && decide ((k : Int) + 1 + (l.getD k .zero).off < l.length) && !secN l ((k : Int) + 1 + (l.getD k .zero).off).toNat)


theorem lands_no (w : World) (g off len cap k : Nat) (o d s f m : Int) (hk : k < len) (hc : At5 w g (off + k * 5) ⟨o, d, s, f, m⟩) (hj : jmpI o = false) :
    Calls Try.prog 26 #[.slice (some ⟨g, off, none⟩) len cap, .int .i64 k] w fun e w' => e = .returned (.bool true) ∧ Below w.heap.size w w' := by
  have i0 : (0 : Int) ≤ (k : Int) := by omega
  have i1 : (k : Int) < (len : Int) := by omega
  have HJ := Lib.hid hj
  clear hj
  obtain ⟨x0, x1, x2, x3, x4⟩ := hc
  go_enter Try.func26, Try.ntmps26
  go_wp2_with (go_at_call 11; refine (jump_isa o d s f m _).mono ?_; rintro e w1 ⟨rfl, hb1⟩; rw [HJ.out]; have HB1 := Lib.hid hb1; clear hb1)
  go_ret
  exact ⟨rfl, HB1.out⟩
theorem lands_back (w : World) (g off len cap k : Nat) (o d s f m : Int) (hm : len ≤ 9223372036854742000) (hk : k < len) (hc : At5 w g (off + k * 5) ⟨o, d, s, f, m⟩) (hj : jmpI o = true) (hf : -32768 ≤ f) (h : f < 0) :
    Calls Try.prog 26 #[.slice (some ⟨g, off, none⟩) len cap, .int .i64 k] w fun e w' => e = .returned (.bool false) ∧ Below w.heap.size w w' := by
  have i0 : (0 : Int) ≤ (k : Int) := by omega
  have i1 : (k : Int) < (len : Int) := by omega
  have HJ := Lib.hid hj
  clear hj
  obtain ⟨x0, x1, x2, x3, x4⟩ := id hc
  go_enter Try.func26, Try.ntmps26
  go_wp2_with (go_at_call 11; refine (jump_isa o d s f m _).mono ?_; rintro e w1 ⟨rfl, hb1⟩; rw [HJ.out]; clear x0 x1 x2 x3 x4; obtain ⟨x0, x1, x2, x3, x4⟩ := At5.stays hc hb1; have HB1 := Lib.hid hb1; clear hb1)
  go_ret
  exact ⟨rfl, HB1.out⟩
theorem lands_far (w : World) (g off len cap k : Nat) (o d s f m : Int) (hm : len ≤ 9223372036854742000) (hk : k < len) (hc : At5 w g (off + k * 5) ⟨o, d, s, f, m⟩) (hj : jmpI o = true) (h0 : 0 ≤ f) (h1 : f ≤ 32767) (h : (len : Int) ≤ (k : Int) + 1 + f) :
    Calls Try.prog 26 #[.slice (some ⟨g, off, none⟩) len cap, .int .i64 k] w fun e w' => e = .returned (.bool false) ∧ Below w.heap.size w w' := by
  have i0 : (0 : Int) ≤ (k : Int) := by omega
  have i1 : (k : Int) < (len : Int) := by omega
  have HJ := Lib.hid hj
  clear hj
  obtain ⟨x0, x1, x2, x3, x4⟩ := id hc
  go_enter Try.func26, Try.ntmps26
  go_wp2_with (go_at_call 11; refine (jump_isa o d s f m _).mono ?_; rintro e w1 ⟨rfl, hb1⟩; rw [HJ.out]; clear x0 x1 x2 x3 x4; obtain ⟨x0, x1, x2, x3, x4⟩ := At5.stays hc hb1; have HB1 := Lib.hid hb1; clear hb1)
  go_ret
  exact ⟨rfl, HB1.out⟩
theorem lands_in (w : World) (g off len cap k : Nat) (l : List Ins) (o d s f m : Int) (hl : l.length = len) (hm : len ≤ 9223372036854742000) (hr : InsAt w (some ⟨g, off, none⟩) l) (hk : k < len) (hc : At5 w g (off + k * 5) ⟨o, d, s, f, m⟩) (hj : jmpI o = true) (h0 : 0 ≤ f) (h1 : f ≤ 32767)
    (h : (k : Int) + 1 + f < (len : Int)) :
    Calls Try.prog 26 #[.slice (some ⟨g, off, none⟩) len cap, .int .i64 k] w fun e w' => e = .returned (.bool (!secN l ((k : Int) + 1 + f).toNat)) ∧ Below w.heap.size w w' := by
  have i0 : (0 : Int) ≤ (k : Int) := by omega
  have i1 : (k : Int) < (len : Int) := by omega
  have HJ := Lib.hid hj
  have HL := Lib.hid hl
  clear hj hl
  obtain ⟨x0, x1, x2, x3, x4⟩ := id hc
  go_enter Try.func26, Try.ntmps26
  go_wp2_with (first
    | (go_at_call 11; refine (jump_isa o d s f m _).mono ?_; rintro e w1 ⟨rfl, hb1⟩; rw [HJ.out]; clear x0 x1 x2 x3 x4; obtain ⟨x0, x1, x2, x3, x4⟩ := At5.stays hc hb1; have hr1 := hr.below hb1; have HB1 := Lib.hid hb1; clear hb1)
    | (go_at_call 14; refine (second_at _ _ _ _ _ ((k : Int) + 1 + f).toNat l (by omega) HL.out (by unfold maxLen; omega) hr1).mono ?_; rintro e w2 ⟨rfl, hb2⟩; have HB2 := Lib.hid hb2; clear hb2))
  go_ret
  exact ⟨rfl, HB1.out.trans (HB2.out.mono HB1.out.size)⟩
end Go.Proofs.Ytcngkbmffaojoaa
