/-
  Proved here: what hasMap and lands return of every place, and what the closure of Check and all return. Conditions: at most 200 instructions whose fields fit; the map is the one of fieldsByShapes.
-/
import Derived.Test.YtcngkbmffaojoaaHasSome
import Derived.Test.YtcngkbmffaojoaaHasNeg
import Derived.Test.YtcngkbmffaojoaaHasNil
import Derived.Test.YtcngkbmffaojoaaJumps
namespace Go.Proofs.Ytcngkbmffaojoaa
open Go.RowKit

theorem wideN_nonneg (x y : Ins) : 0 ≤ wideN x y := by unfold wideN; omega
theorem has_isa (w : World) (A : Option Addr) (len cap k : Nat) (l : List Ins) (maps : Int) (hl : l.length = len) (hm : len ≤ maxLen) (hr : InsAt w A l) (hk : k < len) (hn : (l.getD k .zero).op = 24 → k + 1 < len)
    (h0 : -9223372036854775808 ≤ maps) (h1 : maps ≤ 9223372036854775807) :
    Calls Try.prog 25 #[.slice A len cap, .int .i64 k, .int .i64 maps] w fun e w' => e = .returned (.bool (mapB l k maps)) ∧ Below w.heap.size w w' := by
  obtain ⟨g, off, rfl, hg, hc⟩ := at5_of hl hr hk
  by_cases h24 : (l.getD k .zero).op = 24
  · have hk1 := hn h24
    obtain ⟨g', off', he, _, hc'⟩ := at5_of hl hr hk1
    cases he
    unfold mapB
    obtain ⟨⟨o', d', s', f', m'⟩, hy⟩ : ∃ x, l.getD (k + 1) .zero = x := ⟨_, rfl⟩
    obtain ⟨⟨o, d, s, f, m⟩, hx⟩ : ∃ x, l.getD k .zero = x := ⟨_, rfl⟩
    rw [hy] at hc' ⊢
    rw [hx] at hc h24 ⊢
    dsimp only at h24
    subst h24
    by_cases hs : s = 1
    · subst hs
      have hnn := wideN_nonneg ⟨24, d, 1, f, m⟩ ⟨o', d', s', f', m'⟩
      by_cases hp : 1 ≤ maps
      · have := has_some w g off len cap k d f m o' d' s' f' m' maps hm hk1 hc hc' hp h1
        have e : max maps 0 = maps := by omega
        simpa [e] using this
      · have : Calls Try.prog 25 #[.slice (some ⟨g, off, none⟩) len cap, .int .i64 k, .int .i64 maps] w fun e w' => e = .returned (.bool false) ∧ Below w.heap.size w w' := by
          by_cases hz : maps = 0
          · subst hz
            exact has_nil w g off len cap k d f m o' d' s' f' m' hm hk1 hc hc'
          · exact has_neg w g off len cap k d f m o' d' s' f' m' maps hm hk1 hc hc' h0 (by omega)
        have e : max maps 0 = 0 := by omega
        have e2 : ¬ wideN ⟨24, d, 1, f, m⟩ ⟨o', d', s', f', m'⟩ < 0 := by omega
        simpa [e, e2] using this
    · have := has_none w g off len cap k d s f m maps hk hc hs
      have e : (s != 1) = true := by simpa using hs
      simpa [e] using this
  · unfold mapB
    obtain ⟨⟨o, d, s, f, m⟩, hx⟩ : ∃ x, l.getD k .zero = x := ⟨_, rfl⟩
    rw [hx] at hc h24 ⊢
    dsimp only at h24
    have := has_plain w g off len cap k o d s f m maps hk hc h24
    have e : (o != 24) = true := by simpa using h24
    simpa [e] using this
theorem lands_isa (w : World) (A : Option Addr) (len cap k : Nat) (l : List Ins) (hl : l.length = len) (hm : len ≤ 9223372036854742000) (hfit : ∀ x ∈ l, x.Fit) (hr : InsAt w A l) (hk : k < len) :
    Calls Try.prog 26 #[.slice A len cap, .int .i64 k] w fun e w' => e = .returned (.bool (landB l k)) ∧ Below w.heap.size w w' := by
  obtain ⟨g, off, rfl, hg, hc⟩ := at5_of hl hr hk
  have hf := (getD_fit hfit (k := k) (by omega)).off
  unfold landB
  obtain ⟨⟨o, d, s, f, m⟩, hx⟩ : ∃ x, l.getD k .zero = x := ⟨_, rfl⟩
  rw [hx] at hc hf ⊢
  dsimp only at hf ⊢
  cases hj : jmpI o
  · simpa using lands_no w g off len cap k o d s f m hk hc hj
  · by_cases h0 : 0 ≤ f
    · by_cases h : (k : Int) + 1 + f < (len : Int)
      · have := lands_in w g off len cap k l o d s f m hl hm hr hk hc hj h0 hf.2 h
        rw [hl]
        simpa [h0, h] using this
      · have := lands_far w g off len cap k o d s f m hm hk hc hj h0 hf.2 (by omega)
        rw [hl]
        simpa [h] using this
    · have := lands_back w g off len cap k o d s f m hm hk hc hj hf.1 (by omega)
      simpa [h0] using this

/-- All that is asked of one place. -/
def oneB (l : List Ins) (k : Nat) (maps : Int) : Bool := stB l k && mapB l k maps && landB l k
theorem secN_true {l : List Ins} {k : Nat} (h : secN l k = true) : 1 ≤ k ∧ k < l.length ∧ (l.getD (k - 1) .zero).op = 24 ∧ rightI (l.getD (k - 1) .zero) = true ∧ noneB (l.getD k .zero) = true := by
  unfold secN at h
  generalize l.getD (k - 1) .zero = x at h ⊢
  generalize l.getD k .zero = y at h ⊢
  simp only [Bool.and_eq_true, decide_eq_true_eq, beq_iff_eq] at h
  exact ⟨h.1.1, h.1.2, h.2.1.1, h.2.1.2, h.2.2⟩
theorem secN_op {l : List Ins} {k : Nat} (h : secN l k = true) : (l.getD k .zero).op = 0 := by
  have := (secN_true h).2.2.2.2
  simp only [noneB, Bool.and_eq_true, beq_iff_eq] at this
  exact this.1.1.1
theorem stB_wide {l : List Ins} {k : Nat} (h : stB l k = true) (h24 : (l.getD k .zero).op = 24) : k + 1 < l.length := by
  unfold stB at h
  rw [h24] at h
  simp only [Bool.or_eq_true, Bool.and_eq_true] at h
  rcases h with h | ⟨_, h | h⟩
  · have := secN_op h
    omega
  · simp at h
  · exact (secN_true h).2.1
/-- The boxes that the closure has taken. -/
structure Taken (w : World) (p : Nat) (b : Nat) (A : Option Addr) (len cap : Nat) (l : List Ins) (maps : Int) : Prop where
  code : w.cell? ⟨p, 0, none⟩ = some (.slice A len cap)
  maps : w.cell? ⟨p + 1, 0, none⟩ = some (.int .i64 maps)
  may : w.cell? ⟨p + 3, 0, none⟩ = some (.map (some b))
  fields : FieldMap w b
  ins : InsAt w A l
theorem Taken.below {w w' : World} {p b : Nat} {A : Option Addr} {len cap : Nat} {l : List Ins} {maps : Int} (h : Taken w p b A len cap l maps) (hb : Below w.heap.size w w') : Taken w' p b A len cap l maps :=
  ⟨stays hb h.code, stays hb h.maps, stays hb h.may, h.fields.below hb h.fields.lt, h.ins.below hb⟩
theorem closure_all (w : World) (p b : Nat) (A : Option Addr) (len cap k : Nat) (l : List Ins) (maps : Int) (hl : l.length = len) (h200 : len ≤ 200) (hfit : ∀ x ∈ l, x.Fit) (hk : k < len) (ht : Taken w p b A len cap l maps)
    (h0 : -9223372036854775808 ≤ maps) (h1 : maps ≤ 9223372036854775807) :
    Calls Try.prog 23 #[.int .i64 k, .pointer (some ⟨p + 3, 0, none⟩), .pointer (some ⟨p, 0, none⟩), .pointer (some ⟨p + 1, 0, none⟩)] w fun e w' => e = .returned (.bool (oneB l k maps)) ∧ Below w.heap.size w w' := by
  have hm : len ≤ maxLen := by unfold maxLen; omega
  unfold oneB
  obtain ⟨c1, c2, c3, hf, hr⟩ := id ht
  have HL := Lib.hid hl
  have HT := Lib.hid ht
  clear ht
  cases hs : stB l k
  · have HS := Lib.hid hs
    clear hs hl
    go_enter Try.func23, Try.ntmps23
    go_wp2_with (go_at_call 24; refine (stands_isa _ b _ _ _ k l HL.out hm hfit hr hf hk).mono ?_; rintro e w1 ⟨rfl, hb1⟩; rw [HS.out]; have HB1 := Lib.hid hb1; clear hb1)
    go_ret
    exact ⟨rfl, HB1.out⟩
  · have hn : (l.getD k .zero).op = 24 → k + 1 < len := fun h => by have := stB_wide hs h; omega
    have HS := Lib.hid hs
    have HN := Lib.hid hn
    clear hs hl hn
    cases hq : mapB l k maps
    · have HQ := Lib.hid hq
      clear hq
      go_enter Try.func23, Try.ntmps23
      go_wp2_with (first
        | (go_at_call 24; refine (stands_isa _ b _ _ _ k l HL.out hm hfit hr hf hk).mono ?_; rintro e w1 ⟨rfl, hb1⟩; rw [HS.out]; clear c1 c2 c3; obtain ⟨c1, c2, c3, hf1, hr1⟩ := Taken.below HT.out hb1; have HB1 := Lib.hid hb1; clear hb1)
        | (go_at_call 25; refine (has_isa _ _ _ _ k l maps HL.out hm hr1 hk HN.out h0 h1).mono ?_; rintro e w2 ⟨rfl, hb2⟩; rw [HQ.out]; have HB2 := Lib.hid hb2; clear hb2))
      go_ret
      exact ⟨rfl, HB1.out.trans (HB2.out.mono HB1.out.size)⟩
    · have HQ := Lib.hid hq
      clear hq
      go_enter Try.func23, Try.ntmps23
      go_wp2_with (first
        | (go_at_call 24; refine (stands_isa _ b _ _ _ k l HL.out hm hfit hr hf hk).mono ?_; rintro e w1 ⟨rfl, hb1⟩; rw [HS.out]; have HT1 := Lib.hid (Taken.below HT.out hb1); clear c1 c2 c3; obtain ⟨c1, c2, c3, hf1, hr1⟩ := id HT1.out; have HB1 := Lib.hid hb1; clear hb1)
        | (go_at_call 25; refine (has_isa _ _ _ _ k l maps HL.out hm hr1 hk HN.out h0 h1).mono ?_; rintro e w2 ⟨rfl, hb2⟩; rw [HQ.out]; clear c1 c2 c3; obtain ⟨c1, c2, c3, hf2, hr2⟩ := Taken.below HT1.out hb2; have HB2 := Lib.hid hb2; clear hb2)
        | (go_at_call 26; refine (lands_isa _ _ _ _ k l HL.out (by omega) hfit hr2 hk).mono ?_; rintro e w3 ⟨rfl, hb3⟩; have HB3 := Lib.hid hb3; clear hb3))
      go_ret
      exact ⟨rfl, (HB1.out.trans (HB2.out.mono HB1.out.size)).trans (HB3.out.mono (Nat.le_trans HB1.out.size HB2.out.size))⟩
end Go.Proofs.Ytcngkbmffaojoaa
