/-
  Proved here: what Check of the document's answers returns. Conditions: at most 200 instructions whose fields fit; the number of maps is an int.
-/
import Derived.Test.YtcngkbmffaojoaaSeconds
import Derived.Deep.RegionHeld
namespace Go.Proofs.Ytcngkbmffaojoaa
open Go.RowKit

/-- What the document's answers ask of one place. -/
def plR (l : List Ins) (k : Nat) (maps : Int) : Bool := secN l k || (rightR (l.getD k .zero) &&
  ((l.getD k .zero).op != 24 || (secN l (k + 1) && !((l.getD k .zero).src == 1 && (decide (maps < 1) || decide (maps ≤ wideN (l.getD k .zero) (l.getD (k + 1) .zero)))))) &&
  (!jmpR (l.getD k .zero).op || (decide (0 ≤ (l.getD k .zero).off) && decide ((k : Int) + 1 + (l.getD k .zero).off < l.length) && !secN l ((k : Int) + 1 + (l.getD k .zero).off).toNat)))
/-- .. of the last one. -/
def lastB (x : Ins) : Bool := x.op == 149 && x.dst == 0 && x.src == 0 && x.off == 0 && x.imm == 0
def chkR (l : List Ins) (maps : Int) : Bool := decide (1 ≤ l.length) && decide (l.length ≤ 64) && ((List.range l.length).all fun k => plR l k maps) && lastB (l.getD (l.length - 1) .zero)
def PlUpTo (l : List Ins) (maps : Int) (k : Nat) : Prop := ∀ j, j < k → plR l j maps = true
theorem PlUpTo.next {l : List Ins} {maps : Int} {k : Nat} (h : PlUpTo l maps k) (hk : plR l k maps = true) : PlUpTo l maps (k + 1) := by
  intro j hj
  rcases Nat.lt_or_ge j k with h1 | h1
  · exact h j h1
  · obtain rfl : j = k := by omega
    exact hk
theorem chkR_false {l : List Ins} {maps : Int} {k : Nat} (hk : k < l.length) (h : plR l k maps = false) : chkR l maps = false := by
  have : ((List.range l.length).all fun k => plR l k maps) = false := by
    rw [Bool.eq_false_iff]
    intro h2
    have := List.all_eq_true.1 h2 k (List.mem_range.2 hk)
    rw [h] at this
    cases this
  unfold chkR
  rw [this]
  simp
theorem chkR_end {l : List Ins} {maps : Int} (h1 : 1 ≤ l.length) (h2 : l.length ≤ 64) (h : PlUpTo l maps l.length) : chkR l maps = lastB (l.getD (l.length - 1) .zero) := by
  have : ((List.range l.length).all fun k => plR l k maps) = true := List.all_eq_true.2 fun k hk => h k (List.mem_range.1 hk)
  unfold chkR
  rw [this]
  simp [h1, h2]
theorem chkR_size {l : List Ins} {maps : Int} (h : l.length < 1 ∨ 64 < l.length) : chkR l maps = false := by
  unfold chkR
  have : (decide (1 ≤ l.length) && decide (l.length ≤ 64)) = false := by
    rw [← Bool.decide_and]
    exact decide_eq_false (by omega)
  rw [this]
  simp
/-! ### What of one place is false, or true -/
theorem pl_sec {l : List Ins} {k : Nat} {maps : Int} (h : secN l k = true) : plR l k maps = true := by simp [plR, h]
theorem pl_wrong {l : List Ins} {k : Nat} {maps : Int} {x : Ins} (hx : l.getD k .zero = x) (h : secN l k = false) (hr : rightR x = false) : plR l k maps = false := by
  subst hx; unfold plR; rw [h, hr]; rfl
theorem pl_alone {l : List Ins} {k : Nat} {maps : Int} {x : Ins} (hx : l.getD k .zero = x) (h : secN l k = false) (h24 : x.op = 24) (h2 : secN l (k + 1) = false) : plR l k maps = false := by
  subst hx; unfold plR; rw [h, h24, h2]; simp
theorem pl_map {l : List Ins} {k : Nat} {maps : Int} {x y : Ins} (hx : l.getD k .zero = x) (hy : l.getD (k + 1) .zero = y) (h : secN l k = false) (h24 : x.op = 24) (h1 : x.src = 1) (hm : maps < 1 ∨ maps ≤ wideN x y) : plR l k maps = false := by
  subst hx hy; unfold plR; rw [h, h24, h1]
  have : (decide (maps < 1) || decide (maps ≤ wideN (l.getD k .zero) (l.getD (k + 1) .zero))) = true := by simpa using hm
  rw [this]; simp
theorem pl_wide {l : List Ins} {k : Nat} {maps : Int} {x y : Ins} (hx : l.getD k .zero = x) (hy : l.getD (k + 1) .zero = y) (h24 : x.op = 24) (hr : rightR x = true) (h2 : secN l (k + 1) = true) (hm : x.src ≠ 1 ∨ (1 ≤ maps ∧ wideN x y < maps)) (hj : jmpR 24 = false) : plR l k maps = true := by
  subst hx hy; unfold plR; rw [hr, h24, h2, hj]
  have : ((l.getD k .zero).src == 1 && (decide (maps < 1) || decide (maps ≤ wideN (l.getD k .zero) (l.getD (k + 1) .zero)))) = false := by
    rcases hm with h | h
    · have : ((l.getD k .zero).src == 1) = false := by simpa using h
      rw [this]; rfl
    · rw [decide_eq_false (by omega : ¬ maps < 1), decide_eq_false (by omega)]; simp
  rw [this]; simp
theorem pl_plain {l : List Ins} {k : Nat} {maps : Int} {x : Ins} (hx : l.getD k .zero = x) (h24 : x.op ≠ 24) (hr : rightR x = true) (hj : jmpR x.op = false) : plR l k maps = true := by
  subst hx; unfold plR; rw [hr, hj]
  have : ((l.getD k .zero).op != 24) = true := by simpa using h24
  rw [this]; simp
theorem pl_jump {l : List Ins} {k : Nat} {maps : Int} {x : Ins} (hx : l.getD k .zero = x) (h24 : x.op ≠ 24) (hr : rightR x = true) (h0 : 0 ≤ x.off) (h1 : (k : Int) + 1 + x.off < l.length) (h2 : secN l ((k : Int) + 1 + x.off).toNat = false) : plR l k maps = true := by
  subst hx; unfold plR; rw [hr, h2, decide_eq_true h0, decide_eq_true h1]
  have : ((l.getD k .zero).op != 24) = true := by simpa using h24
  rw [this]; simp
theorem pl_far {l : List Ins} {k : Nat} {maps : Int} {x : Ins} (hx : l.getD k .zero = x) (h : secN l k = false) (hj : jmpR x.op = true) (h0 : x.off < 0 ∨ (l.length : Int) ≤ (k : Int) + 1 + x.off ∨ secN l ((k : Int) + 1 + x.off).toNat = true) : plR l k maps = false := by
  subst hx; unfold plR; rw [h, hj]
  rcases h0 with h0 | h0 | h0
  · rw [decide_eq_false (by omega : ¬ 0 ≤ (l.getD k .zero).off)]; simp
  · rw [decide_eq_false (by omega : ¬ (k : Int) + 1 + (l.getD k .zero).off < l.length)]; simp
  · rw [h0]; simp
theorem jmp24 : jmpR 24 = false := by decide

/-- What holds at a round's head. -/
structure ChkRel (w wr : World) (gs len : Nat) (l : List Ins) : Prop where
  row : BoolRow wr gs len (secN l)
  lt : gs < wr.heap.size
  below : Below w.heap.size w wr
theorem ChkRel.stays {w wr w2 : World} {gs len : Nat} {l : List Ins} (h : ChkRel w wr gs len l) (hb : Below wr.heap.size wr w2) : ChkRel w w2 gs len l :=
  ⟨h.row.stays hb, Nat.lt_of_lt_of_le h.lt hb.size, h.below.trans (hb.mono h.below.size)⟩
theorem at5_below {B : Nat} {w w1 : World} {g o : Nat} {x : Ins} (h : At5 w g o x) (hb : Below B w w1) (hg : g < B) : At5 w1 g o x :=
  ⟨(hb.cell (p := ⟨g, _, none⟩) hg).trans h.1, (hb.cell (p := ⟨g, _, none⟩) hg).trans h.2.1, (hb.cell (p := ⟨g, _, none⟩) hg).trans h.2.2.1, (hb.cell (p := ⟨g, _, none⟩) hg).trans h.2.2.2.1, (hb.cell (p := ⟨g, _, none⟩) hg).trans h.2.2.2.2⟩
theorem box_keep {W w2 : World} {p : Nat} {a b c d e : Value}
    (h : W.cell? ⟨p, 0, none⟩ = some a ∧ W.cell? ⟨p, 1, none⟩ = some b ∧ W.cell? ⟨p, 2, none⟩ = some c ∧ W.cell? ⟨p, 3, none⟩ = some d ∧ W.cell? ⟨p, 4, none⟩ = some e) (hb : Below W.heap.size W w2) :
    w2.cell? ⟨p, 0, none⟩ = some a ∧ w2.cell? ⟨p, 1, none⟩ = some b ∧ w2.cell? ⟨p, 2, none⟩ = some c ∧ w2.cell? ⟨p, 3, none⟩ = some d ∧ w2.cell? ⟨p, 4, none⟩ = some e :=
  ⟨stays hb h.1, stays hb h.2.1, stays hb h.2.2.1, stays hb h.2.2.2.1, stays hb h.2.2.2.2⟩
theorem ten_keep {w1 w2 : World} {p g q : Nat} {a b c d e a' b' c' d' e' : Value}
    (h : w1.cell? ⟨p, 0, none⟩ = some a ∧ w1.cell? ⟨p, 1, none⟩ = some b ∧ w1.cell? ⟨p, 2, none⟩ = some c ∧ w1.cell? ⟨p, 3, none⟩ = some d ∧ w1.cell? ⟨p, 4, none⟩ = some e ∧
      w1.cell? ⟨g, q, none⟩ = some a' ∧ w1.cell? ⟨g, q + 1, none⟩ = some b' ∧ w1.cell? ⟨g, q + 2, none⟩ = some c' ∧ w1.cell? ⟨g, q + 3, none⟩ = some d' ∧ w1.cell? ⟨g, q + 4, none⟩ = some e') (hb : Below w1.heap.size w1 w2) :
    w2.cell? ⟨p, 0, none⟩ = some a ∧ w2.cell? ⟨p, 1, none⟩ = some b ∧ w2.cell? ⟨p, 2, none⟩ = some c ∧ w2.cell? ⟨p, 3, none⟩ = some d ∧ w2.cell? ⟨p, 4, none⟩ = some e ∧
      w2.cell? ⟨g, q, none⟩ = some a' ∧ w2.cell? ⟨g, q + 1, none⟩ = some b' ∧ w2.cell? ⟨g, q + 2, none⟩ = some c' ∧ w2.cell? ⟨g, q + 3, none⟩ = some d' ∧ w2.cell? ⟨g, q + 4, none⟩ = some e' := by
  obtain ⟨h0, h1, h2, h3, h4, h5, h6, h7, h8, h9⟩ := h
  exact ⟨stays hb h0, stays hb h1, stays hb h2, stays hb h3, stays hb h4, stays hb h5, stays hb h6, stays hb h7, stays hb h8, stays hb h9⟩
theorem ten_drew {w1 : World} {p g q : Nat} {a b c d e : Value} {x : Ins}
    (h : w1.cell? ⟨p, 0, none⟩ = some a ∧ w1.cell? ⟨p, 1, none⟩ = some b ∧ w1.cell? ⟨p, 2, none⟩ = some c ∧ w1.cell? ⟨p, 3, none⟩ = some d ∧ w1.cell? ⟨p, 4, none⟩ = some e) (hx : At5 w1 g q x) :
    w1.drew.cell? ⟨p, 0, none⟩ = some a ∧ w1.drew.cell? ⟨p, 1, none⟩ = some b ∧ w1.drew.cell? ⟨p, 2, none⟩ = some c ∧ w1.drew.cell? ⟨p, 3, none⟩ = some d ∧ w1.drew.cell? ⟨p, 4, none⟩ = some e ∧
      w1.drew.cell? ⟨g, q, none⟩ = some (.int .u8 x.op) ∧ w1.drew.cell? ⟨g, q + 1, none⟩ = some (.int .u8 x.dst) ∧ w1.drew.cell? ⟨g, q + 2, none⟩ = some (.int .u8 x.src) ∧ w1.drew.cell? ⟨g, q + 3, none⟩ = some (.int .i16 x.off) ∧ w1.drew.cell? ⟨g, q + 4, none⟩ = some (.int .i32 x.imm) :=
  ⟨h.1, h.2.1, h.2.2.1, h.2.2.2.1, h.2.2.2.2, hx.1, hx.2.1, hx.2.2.1, hx.2.2.2.1, hx.2.2.2.2⟩
theorem below_undrew {w1 w2 : World} (h : Below w1.drew.heap.size w1.drew w2) : Below w1.heap.size w1 w2 := ⟨h.os, h.tape, h.output, h.size, h.block⟩
theorem check_ref_size (w : World) (A : Option Addr) (len cap : Nat) (maps : Int) (hm : len ≤ maxLen) (h : len < 1 ∨ 64 < len) :
    Calls Try.prog 16 #[.slice A len cap, .int .i64 maps] w fun e w' => e = .returned (.bool false) ∧ Below w.heap.size w w' := by
  unfold maxLen at hm
  rcases h with h | h
  · obtain rfl : len = 0 := by omega
    go_enter Try.func16, Try.ntmps16
    go_wp2
    go_ret
    exact ⟨rfl, Below.refl _ _⟩
  · have h1 : ¬ len < 1 := by omega
    go_enter Try.func16, Try.ntmps16
    go_wp2
    go_ret
    exact ⟨rfl, Below.refl _ _⟩
set_option maxRecDepth 100000 in
set_option maxHeartbeats 8000000 in
theorem check_ref_good (w : World) (g off len cap : Nat) (l : List Ins) (maps : Int) (hl : l.length = len) (h1 : 1 ≤ len) (h64 : len ≤ 64) (hg : g < w.heap.size) (hfit : ∀ x ∈ l, x.Fit) (hr : InsAt w (some ⟨g, off, none⟩) l)
    (hm0 : -9223372036854775808 ≤ maps) (hm1 : maps ≤ 9223372036854775807) :
    Calls Try.prog 16 #[.slice (some ⟨g, off, none⟩) len cap, .int .i64 maps] w fun e w' => e = .returned (.bool (chkR l maps)) ∧ Below w.heap.size w w' := by
  have HL := Lib.hid hl
  clear hl
  go_enter Try.func16, Try.ntmps16
  go_wp2_with (go_at_call 13; refine (seconds_ref _ _ _ _ l HL.out (by omega) hfit hr).mono ?_; rintro e w1 ⟨gs, rfl, hgs, hrow, hb1⟩; have HR1 := Lib.hid (ChkRel.mk hrow hgs hb1); clear hrow hgs hb1)
  go_loopw [6] (fun i wr => ∃ k : Nat, k ≤ len ∧ i = .int .i64 k ∧ PlUpTo l maps k ∧ ChkRel w wr gs len l) (fun i _ => len - (intOf i).toNat)
  case atStart => exact ⟨0, by omega, rfl, fun j hj => absurd hj (by omega), HR1.out⟩
  case round =>
    obtain ⟨k, hk, rfl, hpl, hrel⟩ := hrel
    have HP := Lib.hid hpl
    have hlt0 := hrel.lt
    have HR := Lib.hid hrel
    clear hpl hrel HR1
    by_cases hlt : k < len
    · obtain ⟨g', off', he, _, hx5⟩ := at5_of (k := k) HL.out hr hlt
      cases he
      have hfx := getD_fit hfit (k := k) (by rw [HL.out]; exact hlt)
      have hxr := at5_below hx5 HR.out.below hg
      have hgr : g < wr.heap.size := Nat.lt_of_lt_of_le hg HR.out.below.size
      have hsk := HR.out.row k hlt
      obtain ⟨⟨o, d, s, f, m⟩, hx⟩ : ∃ x, l.getD k .zero = x := ⟨_, rfl⟩
      rw [hx] at hfx hxr
      have h00 := hfx.op.1
      have h01 := hfx.op.2
      have hf0 := hfx.off.1
      have hf1 := hfx.off.2
      have hi0 := hfx.imm.1
      have hi1 := hfx.imm.2
      dsimp only at h00 h01 hf0 hf1 hi0 hi1
      have HX := Lib.hid hx
      have hS1 := Lib.hid (HR.out.stays (below_box wr (.cells #[.int .u8 o, .int .u8 d, .int .u8 s, .int .i16 f, .int .i32 m] 24)))
      obtain ⟨x0, x1, x2, x3, x4⟩ := hxr
      have i0 : (0 : Int) ≤ (k : Int) := by omega
      have i1 : (k : Int) < (len : Int) := by omega
      clear hx hfx hx5
      cases hs : secN l k
      · rw [hs] at hsk
        cases hri : rightR ⟨o, d, s, f, m⟩
        · have hff := chkR_false (maps := maps) (by rw [HL.out]; exact hlt) (pl_wrong HX.out hs hri)
          have HF := Lib.hid hff
          have HRI := Lib.hid hri
          clear hs hff hri
          go_wp2_with (go_at_call 8; refine (right_ref o d s f m _ h00 h01).mono ?_; rintro e w2 ⟨rfl, hb2⟩; rw [HRI.out]; have HB2 := Lib.hid (hS1.out.stays hb2); clear hb2)
          go_ret
          exact ⟨ret_bool HF.out.symm, HB2.out.below⟩
        · by_cases h24 : o = 24
          · subst h24
            have HRI := Lib.hid hri
            have HSN := Lib.hid hs
            clear hri hs
            by_cases hlt1 : k + 1 < len
            · have j0 : IntKind.i64.wrap ((k : Int) + 1) = (k : Int) + 1 := IntWalk.i64_in _ (by omega)
              have j1 : (0 : Int) ≤ (k : Int) + 1 := by omega
              have j2 : (k : Int) + 1 < (len : Int) := by omega
              have j3 : ((k : Int) + 1).toNat = k + 1 := by omega
              have j4 : ((k : Int) + 1 == (len : Int)) = false := by simp; omega
              cases hst : secN l (k + 1)
              · have HF := Lib.hid (chkR_false (maps := maps) (by rw [HL.out]; exact hlt) (pl_alone HX.out HSN.out rfl hst))
                have HST := Lib.hid hst
                clear hst
                go_wp2_with (go_at_call 8; refine (right_ref 24 d s f m _ (by omega) (by omega)).mono ?_; rintro e w2 ⟨rfl, hb2⟩; rw [HRI.out]; have hs2 := hS1.out.stays hb2; have hrt := hs2.row (k + 1) hlt1; rw [HST.out] at hrt; have hbx := box_stays (B := wr.heap.size) hb2 (MapKept.heap_alloc wr _).1; have HBX := Lib.hid hbx; obtain ⟨z0, z1, z2, z3, z4⟩ := hbx; have HS2 := Lib.hid hs2; clear hs2 hb2)
                go_ret
                exact ⟨ret_bool HF.out.symm, HS2.out.below⟩
              · obtain ⟨g'', off'', he2, _, hy5⟩ := at5_of (k := k + 1) HL.out hr hlt1
                cases he2
                have hfy := (getD_fit hfit (k := k + 1) (by rw [HL.out]; exact hlt1)).imm
                obtain ⟨⟨o', d', s', f', m'⟩, hy⟩ : ∃ y, l.getD (k + 1) .zero = y := ⟨_, rfl⟩
                rw [hy] at hfy hy5
                have hi' : -2147483648 ≤ m' ∧ m' ≤ 2147483647 := hfy
                have HY := Lib.hid hy
                have HST := Lib.hid hst
                obtain ⟨n, hn⟩ : ∃ n, m % 4294967296 + m' % 4294967296 * 4294967296 = n := ⟨_, rfl⟩
                have hn0 : 0 ≤ n := by omega
                have hn1 : n ≤ 18446744073709551615 := by omega
                have HN := Lib.hid hn
                have HNW := Lib.hid (show wideN ⟨24, d, s, f, m⟩ ⟨o', d', s', f', m'⟩ = n from hn)
                clear hy hst hn hfy
                by_cases hs1 : s = 1
                · by_cases hm : maps < 1
                  · have HF := Lib.hid (chkR_false (maps := maps) (by rw [HL.out]; exact hlt) (pl_map HX.out HY.out HSN.out rfl hs1 (.inl hm)))
                    have b1 : (s == 1) = true := by simpa using hs1
                    clear hs1
                    go_wp2_with (go_at_call 8; refine (right_ref 24 d s f m _ (by omega) (by omega)).mono ?_; rintro e w2 ⟨rfl, hb2⟩; rw [HRI.out]; have hs2 := hS1.out.stays hb2; have hrt := hs2.row (k + 1) hlt1; rw [HST.out] at hrt; have hgr2 : g < w2.heap.size := Nat.lt_of_lt_of_le hg hs2.below.size; have hy2 := at5_below hy5 hs2.below hg; have HY2 := Lib.hid hy2; clear hy2; have hbx := box_stays (B := wr.heap.size) hb2 (MapKept.heap_alloc wr _).1; have HBX := Lib.hid hbx; obtain ⟨z0, z1, z2, z3, z4⟩ := hbx; have HS2 := Lib.hid hs2; clear hs2 hb2)
                    go_region_held (fun w' => w'.cell? ⟨wr.heap.size, 0, none⟩ = some (.int .u8 24) ∧ w'.cell? ⟨wr.heap.size, 1, none⟩ = some (.int .u8 d) ∧ w'.cell? ⟨wr.heap.size, 2, none⟩ = some (.int .u8 s) ∧ w'.cell? ⟨wr.heap.size, 3, none⟩ = some (.int .i16 f) ∧ w'.cell? ⟨wr.heap.size, 4, none⟩ = some (.int .i32 m) ∧
                        w'.cell? ⟨g, off + (k + 1) * 5, none⟩ = some (.int .u8 o') ∧ w'.cell? ⟨g, off + (k + 1) * 5 + 1, none⟩ = some (.int .u8 d') ∧ w'.cell? ⟨g, off + (k + 1) * 5 + 2, none⟩ = some (.int .u8 s') ∧ w'.cell? ⟨g, off + (k + 1) * 5 + 3, none⟩ = some (.int .i16 f') ∧ w'.cell? ⟨g, off + (k + 1) * 5 + 4, none⟩ = some (.int .i32 m'))
                      (first | exact ten_drew HBX.out HY2.out | exact hT3 | assumption)
                      (first
                        | (go_at_call 27; refine (wide_ref 24 d s f m o' d' s' f' m' _ ⟨hi0, hi1⟩ hi').mono ?_; rintro e w3 ⟨rfl, hb3⟩; rw [HN.out]; have hT3 := ten_keep (w1 := w2.drew) (ten_drew HBX.out HY2.out) hb3; have HS3 := Lib.hid (HS2.out.stays (w2 := w3) (below_undrew hb3)); clear hb3))
                    obtain ⟨z0, z1, z2, z3, z4, -, -, -, -, -⟩ := hT3
                    go_wp2
                    go_ret
                    exact ⟨ret_bool HF.out.symm, HS3.out.below⟩
                  · have hu : IntKind.u64.wrap maps = maps := IntWalk.u64_in _ (by omega)
                    have b1 : (s == 1) = true := by simpa using hs1
                    by_cases hnm : maps ≤ n
                    · have HF := Lib.hid (chkR_false (maps := maps) (by rw [HL.out]; exact hlt) (pl_map HX.out HY.out HSN.out rfl hs1 (.inr (by rw [HNW.out]; exact hnm))))
                      clear hs1
                      go_wp2_with (go_at_call 8; refine (right_ref 24 d s f m _ (by omega) (by omega)).mono ?_; rintro e w2 ⟨rfl, hb2⟩; rw [HRI.out]; have hs2 := hS1.out.stays hb2; have hrt := hs2.row (k + 1) hlt1; rw [HST.out] at hrt; have hgr2 : g < w2.heap.size := Nat.lt_of_lt_of_le hg hs2.below.size; have hy2 := at5_below hy5 hs2.below hg; have HY2 := Lib.hid hy2; clear hy2; have hbx := box_stays (B := wr.heap.size) hb2 (MapKept.heap_alloc wr _).1; have HBX := Lib.hid hbx; obtain ⟨z0, z1, z2, z3, z4⟩ := hbx; have HS2 := Lib.hid hs2; clear hs2 hb2)
                      go_region_held (fun w' => w'.cell? ⟨wr.heap.size, 0, none⟩ = some (.int .u8 24) ∧ w'.cell? ⟨wr.heap.size, 1, none⟩ = some (.int .u8 d) ∧ w'.cell? ⟨wr.heap.size, 2, none⟩ = some (.int .u8 s) ∧ w'.cell? ⟨wr.heap.size, 3, none⟩ = some (.int .i16 f) ∧ w'.cell? ⟨wr.heap.size, 4, none⟩ = some (.int .i32 m) ∧
                          w'.cell? ⟨g, off + (k + 1) * 5, none⟩ = some (.int .u8 o') ∧ w'.cell? ⟨g, off + (k + 1) * 5 + 1, none⟩ = some (.int .u8 d') ∧ w'.cell? ⟨g, off + (k + 1) * 5 + 2, none⟩ = some (.int .u8 s') ∧ w'.cell? ⟨g, off + (k + 1) * 5 + 3, none⟩ = some (.int .i16 f') ∧ w'.cell? ⟨g, off + (k + 1) * 5 + 4, none⟩ = some (.int .i32 m'))
                        (first | exact ten_drew HBX.out HY2.out | exact hT3 | assumption)
                        (first
                          | (go_at_call 27; refine (wide_ref 24 d s f m o' d' s' f' m' _ ⟨hi0, hi1⟩ hi').mono ?_; rintro e w3 ⟨rfl, hb3⟩; rw [HN.out]; have hT3 := ten_keep (w1 := w2.drew) (ten_drew HBX.out HY2.out) hb3; have HS3 := Lib.hid (HS2.out.stays (w2 := w3) (below_undrew hb3)); clear hb3))
                      obtain ⟨z0, z1, z2, z3, z4, -, -, -, -, -⟩ := hT3
                      go_wp2
                      go_ret
                      exact ⟨ret_bool HF.out.symm, HS3.out.below⟩
                    · have HP1 := Lib.hid (HP.out.next (pl_wide (maps := maps) HX.out HY.out rfl HRI.out HST.out (.inr ⟨by omega, by rw [HNW.out]; omega⟩) jmp24))
                      clear hs1
                      go_wp2_with (go_at_call 8; refine (right_ref 24 d s f m _ (by omega) (by omega)).mono ?_; rintro e w2 ⟨rfl, hb2⟩; rw [HRI.out]; have hs2 := hS1.out.stays hb2; have hrt := hs2.row (k + 1) hlt1; rw [HST.out] at hrt; have hgr2 : g < w2.heap.size := Nat.lt_of_lt_of_le hg hs2.below.size; have hy2 := at5_below hy5 hs2.below hg; have HY2 := Lib.hid hy2; clear hy2; have hbx := box_stays (B := wr.heap.size) hb2 (MapKept.heap_alloc wr _).1; have HBX := Lib.hid hbx; obtain ⟨z0, z1, z2, z3, z4⟩ := hbx; have HS2 := Lib.hid hs2; clear hs2 hb2)
                      go_region_held (fun w' => w'.cell? ⟨wr.heap.size, 0, none⟩ = some (.int .u8 24) ∧ w'.cell? ⟨wr.heap.size, 1, none⟩ = some (.int .u8 d) ∧ w'.cell? ⟨wr.heap.size, 2, none⟩ = some (.int .u8 s) ∧ w'.cell? ⟨wr.heap.size, 3, none⟩ = some (.int .i16 f) ∧ w'.cell? ⟨wr.heap.size, 4, none⟩ = some (.int .i32 m) ∧
                          w'.cell? ⟨g, off + (k + 1) * 5, none⟩ = some (.int .u8 o') ∧ w'.cell? ⟨g, off + (k + 1) * 5 + 1, none⟩ = some (.int .u8 d') ∧ w'.cell? ⟨g, off + (k + 1) * 5 + 2, none⟩ = some (.int .u8 s') ∧ w'.cell? ⟨g, off + (k + 1) * 5 + 3, none⟩ = some (.int .i16 f') ∧ w'.cell? ⟨g, off + (k + 1) * 5 + 4, none⟩ = some (.int .i32 m'))
                        (first | exact ten_drew HBX.out HY2.out | exact hT3 | assumption)
                        (first
                          | (go_at_call 27; refine (wide_ref 24 d s f m o' d' s' f' m' _ ⟨hi0, hi1⟩ hi').mono ?_; rintro e w3 ⟨rfl, hb3⟩; rw [HN.out]; have hT3 := ten_keep (w1 := w2.drew) (ten_drew HBX.out HY2.out) hb3; have HS3 := Lib.hid (HS2.out.stays (w2 := w3) (below_undrew hb3)); clear hb3))
                      obtain ⟨z0, z1, z2, z3, z4, -, -, -, -, -⟩ := hT3
                      go_wp2_with (go_at_call 12; refine (jump_ref 24 d s f m _ (by omega) (by omega)).mono ?_; rintro e w4 ⟨rfl, hb4⟩; rw [jmp24]; have HS4 := Lib.hid (HS3.out.stays hb4); clear hb4)
                      go_roundw
                      case rel => exact ⟨k + 1, by omega, by go_num, HP1.out, HS4.out⟩
                      case measure => simp [intOf]; omega
                · have HP1 := Lib.hid (HP.out.next (pl_wide (maps := maps) HX.out HY.out rfl HRI.out HST.out (.inl hs1) jmp24))
                  have b1 : (s == 1) = false := by simpa using hs1
                  clear hs1
                  go_wp2_with (go_at_call 8; refine (right_ref 24 d s f m _ (by omega) (by omega)).mono ?_; rintro e w2 ⟨rfl, hb2⟩; rw [HRI.out]; have hs2 := hS1.out.stays hb2; have hrt := hs2.row (k + 1) hlt1; rw [HST.out] at hrt; have hgr2 : g < w2.heap.size := Nat.lt_of_lt_of_le hg hs2.below.size; have hy2 := at5_below hy5 hs2.below hg; have HY2 := Lib.hid hy2; clear hy2; have hbx := box_stays (B := wr.heap.size) hb2 (MapKept.heap_alloc wr _).1; have HBX := Lib.hid hbx; obtain ⟨z0, z1, z2, z3, z4⟩ := hbx; have HS2 := Lib.hid hs2; clear hs2 hb2)
                  go_region_held (fun w' => w'.cell? ⟨wr.heap.size, 0, none⟩ = some (.int .u8 24) ∧ w'.cell? ⟨wr.heap.size, 1, none⟩ = some (.int .u8 d) ∧ w'.cell? ⟨wr.heap.size, 2, none⟩ = some (.int .u8 s) ∧ w'.cell? ⟨wr.heap.size, 3, none⟩ = some (.int .i16 f) ∧ w'.cell? ⟨wr.heap.size, 4, none⟩ = some (.int .i32 m) ∧
                      w'.cell? ⟨g, off + (k + 1) * 5, none⟩ = some (.int .u8 o') ∧ w'.cell? ⟨g, off + (k + 1) * 5 + 1, none⟩ = some (.int .u8 d') ∧ w'.cell? ⟨g, off + (k + 1) * 5 + 2, none⟩ = some (.int .u8 s') ∧ w'.cell? ⟨g, off + (k + 1) * 5 + 3, none⟩ = some (.int .i16 f') ∧ w'.cell? ⟨g, off + (k + 1) * 5 + 4, none⟩ = some (.int .i32 m'))
                    (first | exact ten_drew HBX.out HY2.out | exact hT3 | assumption)
                    (first
                      | (go_at_call 27; refine (wide_ref 24 d s f m o' d' s' f' m' _ ⟨hi0, hi1⟩ hi').mono ?_; rintro e w3 ⟨rfl, hb3⟩; rw [HN.out]; have hT3 := ten_keep (w1 := w2.drew) (ten_drew HBX.out HY2.out) hb3; have HS3 := Lib.hid (HS2.out.stays (w2 := w3) (below_undrew hb3)); clear hb3))
                  obtain ⟨z0, z1, z2, z3, z4, -, -, -, -, -⟩ := hT3
                  go_wp2_with (go_at_call 12; refine (jump_ref 24 d s f m _ (by omega) (by omega)).mono ?_; rintro e w4 ⟨rfl, hb4⟩; rw [jmp24]; have HS4 := Lib.hid (HS3.out.stays hb4); clear hb4)
                  go_roundw
                  case rel => exact ⟨k + 1, by omega, by go_num, HP1.out, HS4.out⟩
                  case measure => simp [intOf]; omega
            · have ek : k + 1 = len := by omega
              have j0 : IntKind.i64.wrap ((k : Int) + 1) = (k : Int) + 1 := IntWalk.i64_in _ (by omega)
              have j4 : ((k : Int) + 1 == (len : Int)) = true := by simp; omega
              have hst : secN l (k + 1) = false := by
                have := HL.out
                unfold secN
                rw [decide_eq_false (by omega : ¬ k + 1 < l.length)]
                simp
              have HF := Lib.hid (chkR_false (maps := maps) (by rw [HL.out]; exact hlt) (pl_alone HX.out HSN.out rfl hst))
              have HEK := Lib.hid ek
              clear hst ek
              go_wp2_with (go_at_call 8; refine (right_ref 24 d s f m _ (by omega) (by omega)).mono ?_; rintro e w2 ⟨rfl, hb2⟩; rw [HRI.out]; have hs2 := hS1.out.stays hb2;  have hbx := box_stays (B := wr.heap.size) hb2 (MapKept.heap_alloc wr _).1; have HBX := Lib.hid hbx; obtain ⟨z0, z1, z2, z3, z4⟩ := hbx; have HS2 := Lib.hid hs2; clear hs2 hb2)
              go_ret
              exact ⟨ret_bool HF.out.symm, HS2.out.below⟩
          · have b24 : (o == 24) = false := by simpa using h24
            have HRI := Lib.hid hri
            clear hri
            cases hj : jmpR o
            · have HP1 := Lib.hid (HP.out.next (pl_plain (maps := maps) HX.out h24 HRI.out hj))
              have HJ := Lib.hid hj
              clear hs hj
              go_wp2_with (first
                | (go_at_call 8; refine (right_ref o d s f m _ h00 h01).mono ?_; rintro e w2 ⟨rfl, hb2⟩; rw [HRI.out]; have hs2 := hS1.out.stays hb2; have hq2 := hs2.row k hlt; obtain ⟨z0, z1, z2, z3, z4⟩ := box_stays (B := wr.heap.size) hb2 (MapKept.heap_alloc wr _).1; have HS2 := Lib.hid hs2; clear hs2 hb2)
                | (go_at_call 12; refine (jump_ref o d s f m _ h00 h01).mono ?_; rintro e w3 ⟨rfl, hb3⟩; rw [HJ.out]; have HS3 := Lib.hid (HS2.out.stays hb3); clear hb3))
              go_roundw
              case rel => exact ⟨k + 1, by omega, by go_num, HP1.out, HS3.out⟩
              case measure => simp [intOf]; omega
            · have HJ := Lib.hid hj
              have HSN := Lib.hid hs
              clear hs hj
              by_cases hf : f < 0
              · have HF := Lib.hid (chkR_false (maps := maps) (by rw [HL.out]; exact hlt) (pl_far HX.out HSN.out HJ.out (.inl hf)))
                go_wp2_with (first
                  | (go_at_call 8; refine (right_ref o d s f m _ h00 h01).mono ?_; rintro e w2 ⟨rfl, hb2⟩; rw [HRI.out]; have hs2 := hS1.out.stays hb2; have hbx := box_stays (B := wr.heap.size) hb2 (MapKept.heap_alloc wr _).1; have HBX := Lib.hid hbx; obtain ⟨z0, z1, z2, z3, z4⟩ := hbx; have HS2 := Lib.hid hs2; clear hs2 hb2)
                  | (go_at_call 12; refine (jump_ref o d s f m _ h00 h01).mono ?_; rintro e w3 ⟨rfl, hb3⟩; rw [HJ.out]; clear z0 z1 z2 z3 z4; obtain ⟨z0, z1, z2, z3, z4⟩ := box_keep HBX.out hb3; have HS3 := Lib.hid (HS2.out.stays hb3); clear hb3))
                go_ret
                exact ⟨ret_bool HF.out.symm, HS3.out.below⟩
              · by_cases hfar : (len : Int) ≤ (k : Int) + 1 + f
                · have HF := Lib.hid (chkR_false (maps := maps) (by rw [HL.out]; exact hlt) (pl_far HX.out HSN.out HJ.out (.inr (.inl (by rw [HL.out]; exact hfar)))))
                  go_wp2_with (first
                    | (go_at_call 8; refine (right_ref o d s f m _ h00 h01).mono ?_; rintro e w2 ⟨rfl, hb2⟩; rw [HRI.out]; have hs2 := hS1.out.stays hb2; have hbx := box_stays (B := wr.heap.size) hb2 (MapKept.heap_alloc wr _).1; have HBX := Lib.hid hbx; obtain ⟨z0, z1, z2, z3, z4⟩ := hbx; have HS2 := Lib.hid hs2; clear hs2 hb2)
                    | (go_at_call 12; refine (jump_ref o d s f m _ h00 h01).mono ?_; rintro e w3 ⟨rfl, hb3⟩; rw [HJ.out]; clear z0 z1 z2 z3 z4; obtain ⟨z0, z1, z2, z3, z4⟩ := box_keep HBX.out hb3; have HS3 := Lib.hid (HS2.out.stays hb3); clear hb3))
                  go_ret
                  exact ⟨ret_bool HF.out.symm, HS3.out.below⟩
                · obtain ⟨t, ht⟩ : ∃ t : Nat, (k : Int) + 1 + f = t := ⟨((k : Int) + 1 + f).toNat, by omega⟩
                  have htl : t < len := by omega
                  have et : ((k : Int) + 1 + f).toNat = t := by omega
                  have hnf : ¬ f < 0 := hf
                  cases hst : secN l t
                  · have HP1 := Lib.hid (HP.out.next (pl_jump (maps := maps) HX.out h24 HRI.out (by show 0 ≤ f; omega) (by rw [HL.out]; show (k : Int) + 1 + f < len; omega) (by show secN l ((k : Int) + 1 + f).toNat = false; rw [et]; exact hst)))
                    have HST := Lib.hid hst
                    have HT := Lib.hid ht
                    clear hst ht et
                    go_wp2_with (first
                      | (go_at_call 8; refine (right_ref o d s f m _ h00 h01).mono ?_; rintro e w2 ⟨rfl, hb2⟩; rw [HRI.out]; have hs2 := hS1.out.stays hb2; have hbx := box_stays (B := wr.heap.size) hb2 (MapKept.heap_alloc wr _).1; have HBX := Lib.hid hbx; obtain ⟨z0, z1, z2, z3, z4⟩ := hbx; have HS2 := Lib.hid hs2; clear hs2 hb2)
                      | (go_at_call 12; refine (jump_ref o d s f m _ h00 h01).mono ?_; rintro e w3 ⟨rfl, hb3⟩; rw [HJ.out]; clear z0 z1 z2 z3 z4; obtain ⟨z0, z1, z2, z3, z4⟩ := box_keep HBX.out hb3; have hs3 := HS2.out.stays hb3; have hrt := hs3.row t htl; rw [HST.out] at hrt; have hto := HT.out; have HS3 := Lib.hid hs3; clear hs3 hb3))
                    go_roundw
                    case rel => exact ⟨k + 1, by omega, by go_num, HP1.out, HS3.out⟩
                    case measure => simp [intOf]; omega
                  · have HF := Lib.hid (chkR_false (maps := maps) (by rw [HL.out]; exact hlt) (pl_far HX.out HSN.out HJ.out (.inr (.inr (by show secN l ((k : Int) + 1 + f).toNat = true; rw [et]; exact hst)))))
                    have HST := Lib.hid hst
                    have HT := Lib.hid ht
                    clear hst ht et
                    go_wp2_with (first
                      | (go_at_call 8; refine (right_ref o d s f m _ h00 h01).mono ?_; rintro e w2 ⟨rfl, hb2⟩; rw [HRI.out]; have hs2 := hS1.out.stays hb2; have hbx := box_stays (B := wr.heap.size) hb2 (MapKept.heap_alloc wr _).1; have HBX := Lib.hid hbx; obtain ⟨z0, z1, z2, z3, z4⟩ := hbx; have HS2 := Lib.hid hs2; clear hs2 hb2)
                      | (go_at_call 12; refine (jump_ref o d s f m _ h00 h01).mono ?_; rintro e w3 ⟨rfl, hb3⟩; rw [HJ.out]; clear z0 z1 z2 z3 z4; obtain ⟨z0, z1, z2, z3, z4⟩ := box_keep HBX.out hb3; have hs3 := HS2.out.stays hb3; have hrt := hs3.row t htl; rw [HST.out] at hrt; have hto := HT.out; have HS3 := Lib.hid hs3; clear hs3 hb3))
                    go_ret
                    exact ⟨ret_bool HF.out.symm, HS3.out.below⟩
      · rw [hs] at hsk
        have HP1 := Lib.hid (HP.out.next (pl_sec (maps := maps) hs))
        clear hs
        go_wp2
        go_roundw
        case rel => exact ⟨k + 1, by omega, by go_num, HP1.out, hS1.out⟩
        case measure => simp [intOf]; omega
    · obtain rfl : k = len := by omega
      obtain ⟨g', off', he, _, hx5⟩ := at5_of (k := k - 1) HL.out hr (by omega)
      cases he
      obtain ⟨x0, x1, x2, x3, x4⟩ := at5_below hx5 HR.out.below hg
      have hend := chkR_end (l := l) (maps := maps) (by rw [HL.out]; exact h1) (by rw [HL.out]; exact h64) (by rw [HL.out]; exact HP.out)
      rw [HL.out] at hend
      obtain ⟨⟨o, d, s, f, m⟩, hx⟩ : ∃ x, l.getD (k - 1) .zero = x := ⟨_, rfl⟩
      rw [hx] at x0 x1 x2 x3 x4 hend
      dsimp only at x0 x1 x2 x3 x4
      have HE := Lib.hid hend
      have HX := Lib.hid hx
      clear hend hx hx5
      have e1 : IntKind.i64.wrap ((k : Int) - 1) = (k : Int) - 1 := IntWalk.i64_in _ (by omega)
      have e2 : (0 : Int) ≤ (k : Int) - 1 := by omega
      have e3 : ((k : Int) - 1).toNat = k - 1 := by omega
      go_wp2
      all_goals
        go_ret
        exact ⟨ret_bool (HE.out.trans (by simp_all [lastB])).symm, HR.out.below⟩
end Go.Proofs.Ytcngkbmffaojoaa
