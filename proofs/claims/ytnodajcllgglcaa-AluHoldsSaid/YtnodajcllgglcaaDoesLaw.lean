/-
  Proved here: AluDoes, and AluHolds, of halberdlaw04 return true, of every number. Conditions: the arguments are of their types.
-/
import Derived.Test.YtnodajcllgglcaaAlive
namespace Go.Proofs.Ytnodajcllgglcaa
open Go.RowKit

theorem law_does (op : Int) (wide : Bool) (a b : Int) (w : World) (h0 : 0 ≤ op) (h1 : op ≤ 255) (ha0 : 0 ≤ a) (ha1 : a ≤ 18446744073709551615) (hb0 : 0 ≤ b) (hb1 : b ≤ 18446744073709551615) :
    Calls Try.prog 3 #[.int .u8 op, .bool wide, .int .u64 a, .int .u64 b] w fun e w' => e = .returned (.bool true) ∧ Below w.heap.size w w' := by
  obtain ⟨r, hr⟩ : ∃ r, doI op wide a b = r := ⟨_, rfl⟩
  obtain ⟨o, ho⟩ : ∃ o, isOp op = o := ⟨_, rfl⟩
  have HR := Lib.hid hr
  have HO := Lib.hid ho
  clear hr ho
  go_enter Try.func3, Try.ntmps3
  go_wp2_with (first
    | (go_at_call 7; refine (alive _).mono ?_; rintro e w1 ⟨rfl, hb⟩; have HB1 := Lib.hid hb; clear hb)
    | (go_at_call 8; refine (do_alu op wide a b _ h0 h1 ha0 ha1 hb0 hb1).mono ?_; rw [HR.out, HO.out]; rintro e w2 ⟨rfl, hb⟩; have HB2 := Lib.hid (HB1.out.trans (hb.mono HB1.out.size)); clear hb HB1)
    | (go_at_call 9; refine (do_ref op wide a b _ ha0 ha1 hb0 hb1).mono ?_; rw [HR.out, HO.out]; rintro e w3 ⟨rfl, rfl⟩))
  go_ret
  exact ⟨ret_bool (by simp), HB2.out⟩
theorem law_holds (op : Int) (wide : Bool) (a b : Int) (w : World) (ha0 : 0 ≤ a) (ha1 : a ≤ 18446744073709551615) (hb0 : 0 ≤ b) (hb1 : b ≤ 18446744073709551615) :
    Calls Try.prog 4 #[.int .u8 op, .bool wide, .int .u64 a, .int .u64 b] w fun e w' => e = .returned (.bool true) ∧ Below w.heap.size w w' := by
  obtain ⟨r, hr⟩ : ∃ r, holdI op wide a b = r := ⟨_, rfl⟩
  obtain ⟨o, ho⟩ : ∃ o, isCond op = o := ⟨_, rfl⟩
  have HR := Lib.hid hr
  have HO := Lib.hid ho
  clear hr ho
  go_enter Try.func4, Try.ntmps4
  go_wp2_with (first
    | (go_at_call 7; refine (alive _).mono ?_; rintro e w1 ⟨rfl, hb⟩; have HB1 := Lib.hid hb; clear hb)
    | (go_at_call 10; refine (holds_alu op wide a b _ ha0 ha1 hb0 hb1).mono ?_; rw [HR.out, HO.out]; rintro e w2 ⟨rfl, hb⟩; have HB2 := Lib.hid (HB1.out.trans (hb.mono HB1.out.size)); clear hb HB1)
    | (go_at_call 11; refine (holds_ref op wide a b _ ha0 ha1 hb0 hb1).mono ?_; rw [HR.out, HO.out]; rintro e w3 ⟨rfl, hb⟩; have HB3 := Lib.hid (HB2.out.trans (hb.mono HB2.out.size)); clear hb HB2))
  go_ret
  exact ⟨ret_bool (by simp), HB3.out⟩

theorem aluDoes.walk (v0 v1 v2 v3 : Value) (w : World) (h0 : IsInt .u8 v0) (h1 : ∃ b : Bool, v1 = .bool b) (h2 : IsInt .u64 v2) (h3 : IsInt .u64 v3) :
    Calls Try.prog 3 #[v0, v1, v2, v3] w fun e w' => e = .returned (.bool true) ∧ Below w.heap.size w w' := by
  obtain ⟨op, rfl, ho⟩ := h0
  obtain ⟨wide, rfl⟩ := h1
  obtain ⟨a, rfl, ha⟩ := h2
  obtain ⟨b, rfl, hb⟩ := h3
  have b0 := bounds_u8 ho
  have b1 := bounds_u64 ha
  have b2 := bounds_u64 hb
  exact law_does op wide a b w b0.1 b0.2 b1.1 b1.2 b2.1 b2.2
theorem aluHolds.walk (v0 v1 v2 v3 : Value) (w : World) (h0 : IsInt .u8 v0) (h1 : ∃ b : Bool, v1 = .bool b) (h2 : IsInt .u64 v2) (h3 : IsInt .u64 v3) :
    Calls Try.prog 4 #[v0, v1, v2, v3] w fun e w' => e = .returned (.bool true) ∧ Below w.heap.size w w' := by
  obtain ⟨op, rfl, -⟩ := h0
  obtain ⟨wide, rfl⟩ := h1
  obtain ⟨a, rfl, ha⟩ := h2
  obtain ⟨b, rfl, hb⟩ := h3
  have b1 := bounds_u64 ha
  have b2 := bounds_u64 hb
  exact law_holds op wide a b w b1.1 b1.2 b2.1 b2.2
end Go.Proofs.Ytnodajcllgglcaa
