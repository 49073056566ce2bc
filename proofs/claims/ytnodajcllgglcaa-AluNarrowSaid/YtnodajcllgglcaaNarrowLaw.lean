/-
  Proved here: AluNarrow of halberdlaw04 returns true, of every number. Conditions: the arguments are of their types.
-/
import Derived.Test.YtnodajcllgglcaaAlive
namespace Go.Proofs.Ytnodajcllgglcaa
open Go.RowKit

/-- The low half of a, and other bytes above it. -/
def mixI (a c : Int) : Int := IntKind.u64.wrap (a % 4294967296 + IntKind.u64.wrap (c * 4294967296))
theorem mix_bd (a c : Int) : 0 ≤ mixI a c ∧ mixI a c ≤ 18446744073709551615 := wrap_bd _
theorem mix_low (a c : Int) : mixI a c % 4294967296 = a % 4294967296 := by
  unfold mixI
  simp only [IntKind.wrap, IntKind.bits, IntKind.signed]
  simp
theorem do_mix (op a b c d : Int) : doI op false (mixI a c) (mixI b d) = doI op false a b := by
  unfold doI
  have e1 : zx (mixI a c) (szI false) = zx a (szI false) := mix_low a c
  have e2 : zx (mixI b d) (szI false) = zx b (szI false) := mix_low b d
  rw [e1, e2]
theorem hold_mix (op a b c d : Int) : holdI op false (mixI a c) (mixI b d) = holdI op false a b := by
  unfold holdI
  have e1 : zx (mixI a c) (szI false) = zx a (szI false) := mix_low a c
  have e2 : zx (mixI b d) (szI false) = zx b (szI false) := mix_low b d
  rw [e1, e2]
theorem do_low (op a b : Int) : doI op false a b < 4294967296 := by
  unfold doI
  have e (z : Int) : zx z (szI false) = z % 4294967296 := rfl
  rw [e (opI _ _ _ _)]
  omega

theorem law_narrow (op a b c d : Int) (w : World) (h0 : 0 ≤ op) (h1 : op ≤ 255) (ha0 : 0 ≤ a) (ha1 : a ≤ 18446744073709551615) (hb0 : 0 ≤ b) (hb1 : b ≤ 18446744073709551615) :
    Calls Try.prog 5 #[.int .u8 op, .int .u64 a, .int .u64 b, .int .u64 c, .int .u64 d] w fun e w' => e = .returned (.bool true) ∧ Below w.heap.size w w' := by
  have hl := do_low op a b
  obtain ⟨r, hr⟩ : ∃ r, doI op false a b = r := ⟨_, rfl⟩
  obtain ⟨h, hh⟩ : ∃ h, holdI op false a b = h := ⟨_, rfl⟩
  obtain ⟨o, ho⟩ : ∃ o, isOp op = o := ⟨_, rfl⟩
  obtain ⟨q, hq⟩ : ∃ q, isCond op = q := ⟨_, rfl⟩
  have hr2 := do_mix op a b c d
  have hh2 := hold_mix op a b c d
  rw [hr] at hr2 hl
  rw [hh] at hh2
  have hx := mix_bd a c
  have hy := mix_bd b d
  obtain ⟨x, ex⟩ : ∃ x, mixI a c = x := ⟨_, rfl⟩
  obtain ⟨y, ey⟩ : ∃ y, mixI b d = y := ⟨_, rfl⟩
  rw [ex, ey] at hr2 hh2
  rw [ex] at hx
  rw [ey] at hy
  unfold mixI at ex ey
  obtain ⟨x0, x1⟩ := hx
  obtain ⟨y0, y1⟩ := hy
  have HR := Lib.hid hr
  have HR2 := Lib.hid hr2
  have HH := Lib.hid hh
  have HH2 := Lib.hid hh2
  have HO := Lib.hid ho
  have HQ := Lib.hid hq
  clear hr hr2 hh hh2 ho hq
  go_enter Try.func5, Try.ntmps5
  go_wp2_with (first
    | (go_at_call 7; refine (alive _).mono ?_; rintro e w1 ⟨rfl, hb⟩; have HB1 := Lib.hid hb; clear hb)
    | (go_at_call_of 8 (Value.int .u64 a); refine (do_alu op false a b _ h0 h1 ha0 ha1 hb0 hb1).mono ?_; rw [HR.out, HO.out]; rintro e w2 ⟨rfl, hb⟩; have HB2 := Lib.hid (HB1.out.trans (hb.mono HB1.out.size)); clear hb HB1)
    | (go_at_call_of 8 (Value.int .u64 x); refine (do_alu op false x y _ h0 h1 x0 x1 y0 y1).mono ?_; rw [HR2.out, HO.out]; rintro e w2 ⟨rfl, hb⟩; have HB3 := Lib.hid (HB2.out.trans (hb.mono HB2.out.size)); clear hb HB2)
    | (go_at_call_of 10 (Value.int .u64 a); refine (holds_alu op false a b _ ha0 ha1 hb0 hb1).mono ?_; rw [HH.out, HQ.out]; rintro e w2 ⟨rfl, hb⟩; have HB4 := Lib.hid (HB3.out.trans (hb.mono HB3.out.size)); clear hb HB3)
    | (go_at_call_of 10 (Value.int .u64 x); refine (holds_alu op false x y _ x0 x1 y0 y1).mono ?_; rw [HH2.out, HQ.out]; rintro e w2 ⟨rfl, hb⟩; have HB5 := Lib.hid (HB4.out.trans (hb.mono HB4.out.size)); clear hb HB4))
  go_ret
  exact ⟨ret_bool (by simp), HB5.out⟩
theorem aluNarrow.walk (v0 v1 v2 v3 v4 : Value) (w : World) (h0 : IsInt .u8 v0) (h1 : IsInt .u64 v1) (h2 : IsInt .u64 v2) (h3 : IsInt .u64 v3) (h4 : IsInt .u64 v4) :
    Calls Try.prog 5 #[v0, v1, v2, v3, v4] w fun e w' => e = .returned (.bool true) ∧ Below w.heap.size w w' := by
  obtain ⟨op, rfl, ho⟩ := h0
  obtain ⟨a, rfl, ha⟩ := h1
  obtain ⟨b, rfl, hb⟩ := h2
  obtain ⟨c, rfl, -⟩ := h3
  obtain ⟨d, rfl, -⟩ := h4
  have b0 := bounds_u8 ho
  have b1 := bounds_u64 ha
  have b2 := bounds_u64 hb
  exact law_narrow op a b c d w b0.1 b0.2 b1.1 b1.2 b2.1 b2.2
end Go.Proofs.Ytnodajcllgglcaa
