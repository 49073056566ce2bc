/-
  Proved here: what stands of package isa returns. Conditions: the place is one of the code's; the map is the one of fieldsByShapes.
-/
import Derived.Test.YtcngkbmffaojoaaSec
namespace Go.Proofs.Ytcngkbmffaojoaa
open Go.RowKit

/-- The cells of one instruction. -/
def At5 (w : World) (g o : Nat) (x : Ins) : Prop :=
  w.cell? ⟨g, o, none⟩ = some (.int .u8 x.op) ∧ w.cell? ⟨g, o + 1, none⟩ = some (.int .u8 x.dst) ∧ w.cell? ⟨g, o + 2, none⟩ = some (.int .u8 x.src) ∧ w.cell? ⟨g, o + 3, none⟩ = some (.int .i16 x.off) ∧ w.cell? ⟨g, o + 4, none⟩ = some (.int .i32 x.imm)
theorem At5.stays {w w1 : World} {g o : Nat} {x : Ins} (h : At5 w g o x) (hb : Below w.heap.size w w1) : At5 w1 g o x :=
  ⟨Ytcngkbmffaojoaa.stays hb h.1, Ytcngkbmffaojoaa.stays hb h.2.1, Ytcngkbmffaojoaa.stays hb h.2.2.1, Ytcngkbmffaojoaa.stays hb h.2.2.2.1, Ytcngkbmffaojoaa.stays hb h.2.2.2.2⟩
theorem second_at (i : Int) (w : World) (A : Option Addr) (len cap k : Nat) (l : List Ins) (hi : i = k) (hl : l.length = len) (hm : len ≤ maxLen) (hr : InsAt w A l) :
    Calls Try.prog 14 #[.slice A len cap, .int .i64 i] w fun e w' => e = .returned (.bool (secN l k)) ∧ Below w.heap.size w w' := by
  subst hi
  exact second_isa w A len cap k l hl hm hr

/-- An instruction stands where it is. -/
def stB (l : List Ins) (k : Nat) : Bool := secN l k || (rightI (l.getD k .zero) && ((l.getD k .zero).op != 24 || secN l (k + 1)))

theorem stands_sec (w : World) (b : Nat) (A : Option Addr) (len cap k : Nat) (l : List Ins) (hl : l.length = len) (hm : len ≤ maxLen) (hr : InsAt w A l) (hs : secN l k = true) :
    Calls Try.prog 24 #[.map (some b), .slice A len cap, .int .i64 k] w fun e w' => e = .returned (.bool true) ∧ Below w.heap.size w w' := by
  have HL := Lib.hid hl
  have HS := Lib.hid hs
  clear hl hs
  go_enter Try.func24, Try.ntmps24
  go_wp2_with (go_at_call 14; refine (second_at _ _ _ _ _ k l rfl HL.out hm hr).mono ?_; rintro e w1 ⟨rfl, hb1⟩; rw [HS.out]; have HB1 := Lib.hid hb1; clear hb1)
  go_ret
  exact ⟨rfl, HB1.out⟩
theorem stands_wrong (w : World) (b : Nat) (g off len cap k : Nat) (l : List Ins) (o d s f m : Int) (hl : l.length = len) (hm : len ≤ maxLen) (hr : InsAt w (some ⟨g, off, none⟩) l) (hs : secN l k = false) (hb : FieldMap w b) (hk : k < len)
    (h0 : 0 ≤ o) (h1 : o ≤ 255) (hc : At5 w g (off + k * 5) ⟨o, d, s, f, m⟩) (hx : rightI ⟨o, d, s, f, m⟩ = false) :
    Calls Try.prog 24 #[.map (some b), .slice (some ⟨g, off, none⟩) len cap, .int .i64 k] w fun e w' => e = .returned (.bool false) ∧ Below w.heap.size w w' := by
  have hm' := hm
  unfold maxLen at hm'
  have HL := Lib.hid hl
  have HS := Lib.hid hs
  have HX := Lib.hid hx
  clear hl hs hx
  have i0 : (0 : Int) ≤ (k : Int) := by omega
  have i1 : (k : Int) < (len : Int) := by omega
  go_enter Try.func24, Try.ntmps24
  go_wp2_with (first
    | (go_at_call 14; refine (second_at _ _ _ _ _ k l rfl HL.out hm hr).mono ?_; rintro e w1 ⟨rfl, hb1⟩; rw [HS.out]; obtain ⟨x0, x1, x2, x3, x4⟩ := hc.stays hb1; have hbm := hb.below hb1 hb.lt; have HB1 := Lib.hid hb1; clear hb1)
    | (go_at_call 18; refine (fits_isa _ _ o d s f m hbm h0 h1).mono ?_; rintro e w2 ⟨rfl, hb2⟩; rw [HX.out]; have HB2 := Lib.hid hb2; clear hb2))
  go_ret
  exact ⟨rfl, HB1.out.trans (HB2.out.mono HB1.out.size)⟩
theorem stands_plain (w : World) (b : Nat) (g off len cap k : Nat) (l : List Ins) (o d s f m : Int) (hl : l.length = len) (hm : len ≤ maxLen) (hr : InsAt w (some ⟨g, off, none⟩) l) (hs : secN l k = false) (hb : FieldMap w b) (hk : k < len)
    (h0 : 0 ≤ o) (h1 : o ≤ 255) (hc : At5 w g (off + k * 5) ⟨o, d, s, f, m⟩) (hx : rightI ⟨o, d, s, f, m⟩ = true) (h24 : o ≠ 24) :
    Calls Try.prog 24 #[.map (some b), .slice (some ⟨g, off, none⟩) len cap, .int .i64 k] w fun e w' => e = .returned (.bool true) ∧ Below w.heap.size w w' := by
  have hm' := hm
  unfold maxLen at hm'
  have HL := Lib.hid hl
  have HS := Lib.hid hs
  have HX := Lib.hid hx
  clear hl hs hx
  have i0 : (0 : Int) ≤ (k : Int) := by omega
  have i1 : (k : Int) < (len : Int) := by omega
  have b24 : (o != 24) = true := by simpa using h24
  go_enter Try.func24, Try.ntmps24
  go_wp2_with (first
    | (go_at_call 14; refine (second_at _ _ _ _ _ k l rfl HL.out hm hr).mono ?_; rintro e w1 ⟨rfl, hb1⟩; rw [HS.out]; obtain ⟨x0, x1, x2, x3, x4⟩ := hc.stays hb1; have hc1 := Lib.hid (hc.stays hb1); have hbm := hb.below hb1 hb.lt; have HB1 := Lib.hid hb1; clear hb1)
    | (go_at_call 18; refine (fits_isa _ _ o d s f m hbm h0 h1).mono ?_; rintro e w2 ⟨rfl, hb2⟩; rw [HX.out]; clear x0 x1 x2 x3 x4; obtain ⟨x0, x1, x2, x3, x4⟩ := At5.stays hc1.out hb2; have HB2 := Lib.hid hb2; clear hb2))
  go_ret
  exact ⟨rfl, HB1.out.trans (HB2.out.mono HB1.out.size)⟩
theorem stands_wide (w : World) (b : Nat) (g off len cap k : Nat) (l : List Ins) (d s f m : Int) (hl : l.length = len) (hm : len ≤ maxLen) (hr : InsAt w (some ⟨g, off, none⟩) l) (hs : secN l k = false) (hb : FieldMap w b) (hk : k < len)
    (hc : At5 w g (off + k * 5) ⟨24, d, s, f, m⟩) (hx : rightI ⟨24, d, s, f, m⟩ = true) :
    Calls Try.prog 24 #[.map (some b), .slice (some ⟨g, off, none⟩) len cap, .int .i64 k] w fun e w' => e = .returned (.bool (secN l (k + 1))) ∧ Below w.heap.size w w' := by
  have hm' := hm
  unfold maxLen at hm'
  have HL := Lib.hid hl
  have HS := Lib.hid hs
  have HX := Lib.hid hx
  clear hl hs hx
  have i0 : (0 : Int) ≤ (k : Int) := by omega
  have i1 : (k : Int) < (len : Int) := by omega
  have t1 : True := trivial
  go_enter Try.func24, Try.ntmps24
  go_wp2_with (first
    | (go_at_call 14; have _t := t1; refine (second_at _ _ _ _ _ k l rfl HL.out hm hr).mono ?_; rintro e w1 ⟨rfl, hb1⟩; rw [HS.out]; obtain ⟨x0, x1, x2, x3, x4⟩ := hc.stays hb1; have hc1 := Lib.hid (hc.stays hb1); have hr1 := hr.below hb1; have hbm := hb.below hb1 hb.lt; have HB1 := Lib.hid hb1; clear hb1 t1)
    | (go_at_call 18; refine (fits_isa _ _ 24 d s f m hbm (by omega) (by omega)).mono ?_; rintro e w2 ⟨rfl, hb2⟩; rw [HX.out]; clear x0 x1 x2 x3 x4; obtain ⟨x0, x1, x2, x3, x4⟩ := At5.stays hc1.out hb2; have hr2 := hr1.below hb2; have HB2 := Lib.hid hb2; clear hb2)
    | (go_at_call 14; refine (second_at _ _ _ _ _ (k + 1) l (by omega) HL.out hm hr2).mono ?_; rintro e w3 ⟨rfl, hb3⟩; have HB3 := Lib.hid hb3; clear hb3))
  go_ret
  exact ⟨rfl, (HB1.out.trans (HB2.out.mono HB1.out.size)).trans (HB3.out.mono (Nat.le_trans HB1.out.size HB2.out.size))⟩
theorem at5_of {w : World} {A : Option Addr} {len k : Nat} {l : List Ins} (hl : l.length = len) (hr : InsAt w A l) (hk : k < len) :
    ∃ g off, A = some ⟨g, off, none⟩ ∧ g < w.heap.size ∧ At5 w g (off + k * 5) (l.getD k .zero) := by
  rcases hr with h | ⟨g, off, rfl, hg, hrow⟩
  · omega
  · exact ⟨g, off, rfl, hg, hrow k (by omega)⟩
theorem stands_isa (w : World) (b : Nat) (A : Option Addr) (len cap k : Nat) (l : List Ins) (hl : l.length = len) (hm : len ≤ maxLen) (hfit : ∀ x ∈ l, x.Fit) (hr : InsAt w A l) (hb : FieldMap w b) (hk : k < len) :
    Calls Try.prog 24 #[.map (some b), .slice A len cap, .int .i64 k] w fun e w' => e = .returned (.bool (stB l k)) ∧ Below w.heap.size w w' := by
  obtain ⟨g, off, rfl, hg, hc⟩ := at5_of hl hr hk
  have hf := (getD_fit hfit (k := k) (by omega)).op
  unfold stB
  cases hs : secN l k
  · obtain ⟨⟨o, d, s, f, m⟩, hx⟩ : ∃ x, l.getD k .zero = x := ⟨_, rfl⟩
    rw [hx] at hc hf ⊢
    dsimp only at hf
    cases hri : rightI ⟨o, d, s, f, m⟩
    · simpa using stands_wrong w b g off len cap k l o d s f m hl hm hr hs hb hk hf.1 hf.2 hc hri
    · by_cases h24 : o = 24
      · subst h24
        simpa using stands_wide w b g off len cap k l d s f m hl hm hr hs hb hk hc hri
      · have b24 : (o != 24) = true := by simpa using h24
        simpa [b24] using stands_plain w b g off len cap k l o d s f m hl hm hr hs hb hk hf.1 hf.2 hc hri h24
  · simpa using stands_sec w b _ len cap k l hl hm hr hs
end Go.Proofs.Ytcngkbmffaojoaa
