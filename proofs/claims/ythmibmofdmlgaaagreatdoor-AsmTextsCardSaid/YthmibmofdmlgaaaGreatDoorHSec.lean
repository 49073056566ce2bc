import Derived.Test.YthmibmofdmlgaaaGreatDoorG03
import Derived.RegionTactic
/-
  Proved here: what Second of package isa returns. Conditions: the fields fit; the place is an int.
-/
namespace Go.Proofs.YthmibmofdmlgaaaGreatDoor
open Go.RowKit

/-- Op, Dst, Src and Off are 0. -/
def noneB (x : Ins) : Bool := x.op == 0 && x.dst == 0 && x.src == 0 && x.off == 0
/-- Is the instruction at k a second one? -/
def secN (l : List Ins) (k : Nat) : Bool := decide (1 ≤ k) && decide (k < l.length) && ((l.getD (k - 1) .zero).op == 24 && rightI (l.getD (k - 1) .zero) && noneB (l.getD k .zero))
theorem ins_eta (x : Ins) : (⟨x.op, x.dst, x.src, x.off, x.imm⟩ : Ins) = x := rfl
theorem getD_fit {l : List Ins} (h : ∀ x ∈ l, x.Fit) {k : Nat} (hk : k < l.length) : (l.getD k .zero).Fit := by
  rw [List.getD_eq_getElem?_getD, List.getElem?_eq_getElem hk]
  exact h _ (List.getElem_mem _)

theorem second_out (w : World) (A : Option Addr) (len cap : Nat) (i : Int) (h : i < 1 ∨ (len : Int) ≤ i) :
    Calls Tryz.prog 19 #[.slice A len cap, .int .i64 i] w fun e w' => e = .returned (.bool false) ∧ Below w.heap.size w w' := by
  by_cases h1 : i < 1
  · go_enter Tryz.func19, Tryz.ntmps19
    go_wp2
    go_ret
    exact ⟨rfl, Below.refl _ _⟩
  · have h2 : (len : Int) ≤ i := by omega
    clear h
    go_enter Tryz.func19, Tryz.ntmps19
    go_wp2
    go_ret
    exact ⟨rfl, Below.refl _ _⟩

/-- What was there stays. -/
theorem stays {W w1 : World} (hb : Below W.heap.size W w1) {p : Addr} {v : Value} (h : W.cell? p = some v) : w1.cell? p = some v :=
  (hb.cell (p := p) (World.block_lt_of_cell? W _ h)).trans h
theorem heap_two (w : World) (a b : Obj) : ((w.alloc a).alloc b).drew.heap[w.heap.size]? = some a ∧ ((w.alloc a).alloc b).drew.heap[w.heap.size + 1]? = some b := by
  have e : ((w.alloc a).alloc b).drew.heap = (w.heap.push a).push b := rfl
  rw [e]
  constructor
  · rw [Array.getElem?_push, if_neg (by simp), Array.getElem?_push, if_pos rfl]
  · have h : w.heap.size + 1 = (w.heap.push a).size := by simp
    rw [h, Array.getElem?_push, if_pos rfl]
theorem box_stays {W w1 : World} {B T : Nat} {a b c d e : Value} (hb : Below W.heap.size W w1) (hB : W.heap[B]? = some (.cells #[a, b, c, d, e] T)) :
    w1.cell? ⟨B, 0, none⟩ = some a ∧ w1.cell? ⟨B, 1, none⟩ = some b ∧ w1.cell? ⟨B, 2, none⟩ = some c ∧ w1.cell? ⟨B, 3, none⟩ = some d ∧ w1.cell? ⟨B, 4, none⟩ = some e := by
  have hlt : B < W.heap.size := (Array.getElem?_eq_some_iff.1 hB).1
  have h1 := (hb.block B hlt).trans hB
  simp [World.cell?, h1]
theorem below_two {w w1 : World} {a b : Obj} (hb : Below ((w.alloc a).alloc b).drew.heap.size ((w.alloc a).alloc b).drew w1) : Below w.heap.size w w1 :=
  (((Below.refl _ _).alloc (Nat.le_refl _) _).alloc (by simp) _).drew.trans (hb.mono (by simp; omega))
theorem below_two0 (w : World) (a b : Obj) : Below w.heap.size w ((w.alloc a).alloc b).drew := (((Below.refl _ _).alloc (Nat.le_refl _) _).alloc (by simp) _).drew
theorem second_no (w : World) (g off len cap k : Nat) (o d s f m o' d' s' f' m' : Int) (hm : len ≤ 9223372036854775807) (hk1 : 1 ≤ k) (hk : k < len) (hg : g < w.heap.size)
    (c0 : w.cell? ⟨g, off + (k - 1) * 5, none⟩ = some (.int .u8 o)) (c1 : w.cell? ⟨g, off + (k - 1) * 5 + 1, none⟩ = some (.int .u8 d)) (c2 : w.cell? ⟨g, off + (k - 1) * 5 + 2, none⟩ = some (.int .u8 s))
    (c3 : w.cell? ⟨g, off + (k - 1) * 5 + 3, none⟩ = some (.int .i16 f)) (c4 : w.cell? ⟨g, off + (k - 1) * 5 + 4, none⟩ = some (.int .i32 m))
    (b0 : w.cell? ⟨g, off + k * 5, none⟩ = some (.int .u8 o')) (b1 : w.cell? ⟨g, off + k * 5 + 1, none⟩ = some (.int .u8 d')) (b2 : w.cell? ⟨g, off + k * 5 + 2, none⟩ = some (.int .u8 s'))
    (b3 : w.cell? ⟨g, off + k * 5 + 3, none⟩ = some (.int .i16 f')) (b4 : w.cell? ⟨g, off + k * 5 + 4, none⟩ = some (.int .i32 m')) (h24 : o ≠ 24) :
    Calls Tryz.prog 19 #[.slice (some ⟨g, off, none⟩) len cap, .int .i64 k] w fun e w' => e = .returned (.bool false) ∧ Below w.heap.size w w' := by
  have e1 : IntKind.i64.wrap ((k : Int) - 1) = (k : Int) - 1 := IntWalk.i64_in _ (by omega)
  have e2 : (0 : Int) ≤ (k : Int) - 1 := by omega
  have e3 : ((k : Int) - 1).toNat = k - 1 := by omega
  have e4 : (k : Int) - 1 < (len : Int) := by omega
  have i0 : (0 : Int) ≤ (k : Int) := by omega
  have i1 : (k : Int) < (len : Int) := by omega
  have hq : (o == 24) = false := by simpa using h24
  go_enter Tryz.func19, Tryz.ntmps19
  go_wp2
  go_region
  all_goals
    clear e1 e2 e3 e4 i0 i1 c0 c1 c2 c3 c4 b0 b1 b2 b3 b4
    go_wp2
    go_ret
    exact ⟨rfl, below_two0 _ _ _⟩
theorem second_wrong (w : World) (g off len cap k : Nat) (d s f m o' d' s' f' m' : Int) (hm : len ≤ 9223372036854775807) (hk1 : 1 ≤ k) (hk : k < len) (hg : g < w.heap.size)
    (c0 : w.cell? ⟨g, off + (k - 1) * 5, none⟩ = some (.int .u8 24)) (c1 : w.cell? ⟨g, off + (k - 1) * 5 + 1, none⟩ = some (.int .u8 d)) (c2 : w.cell? ⟨g, off + (k - 1) * 5 + 2, none⟩ = some (.int .u8 s))
    (c3 : w.cell? ⟨g, off + (k - 1) * 5 + 3, none⟩ = some (.int .i16 f)) (c4 : w.cell? ⟨g, off + (k - 1) * 5 + 4, none⟩ = some (.int .i32 m))
    (b0 : w.cell? ⟨g, off + k * 5, none⟩ = some (.int .u8 o')) (b1 : w.cell? ⟨g, off + k * 5 + 1, none⟩ = some (.int .u8 d')) (b2 : w.cell? ⟨g, off + k * 5 + 2, none⟩ = some (.int .u8 s'))
    (b3 : w.cell? ⟨g, off + k * 5 + 3, none⟩ = some (.int .i16 f')) (b4 : w.cell? ⟨g, off + k * 5 + 4, none⟩ = some (.int .i32 m')) (hri : rightI ⟨24, d, s, f, m⟩ = false) :
    Calls Tryz.prog 19 #[.slice (some ⟨g, off, none⟩) len cap, .int .i64 k] w fun e w' => e = .returned (.bool false) ∧ Below w.heap.size w w' := by
  have e1 : IntKind.i64.wrap ((k : Int) - 1) = (k : Int) - 1 := IntWalk.i64_in _ (by omega)
  have e2 : (0 : Int) ≤ (k : Int) - 1 := by omega
  have e3 : ((k : Int) - 1).toNat = k - 1 := by omega
  have e4 : (k : Int) - 1 < (len : Int) := by omega
  have i0 : (0 : Int) ≤ (k : Int) := by omega
  have i1 : (k : Int) < (len : Int) := by omega
  go_enter Tryz.func19, Tryz.ntmps19
  go_wp2
  go_region
  all_goals
    clear e1 e2 e3 e4 i0 i1 c0 c1 c2 c3 c4 b0 b1 b2 b3 b4
    go_wp2_with (go_at_call 41; refine (right_isa 24 d s f m _ (by omega) (by omega)).mono ?_; rintro e w1 ⟨rfl, hb1⟩; rw [hri]; have HB1 := Lib.hid hb1; clear hb1)
    go_ret
    exact ⟨rfl, below_two HB1.out⟩
theorem second_yes (w : World) (g off len cap k : Nat) (d s f m o' d' s' f' m' : Int) (hm : len ≤ 9223372036854775807) (hk1 : 1 ≤ k) (hk : k < len) (hg : g < w.heap.size)
    (c0 : w.cell? ⟨g, off + (k - 1) * 5, none⟩ = some (.int .u8 24)) (c1 : w.cell? ⟨g, off + (k - 1) * 5 + 1, none⟩ = some (.int .u8 d)) (c2 : w.cell? ⟨g, off + (k - 1) * 5 + 2, none⟩ = some (.int .u8 s))
    (c3 : w.cell? ⟨g, off + (k - 1) * 5 + 3, none⟩ = some (.int .i16 f)) (c4 : w.cell? ⟨g, off + (k - 1) * 5 + 4, none⟩ = some (.int .i32 m))
    (b0 : w.cell? ⟨g, off + k * 5, none⟩ = some (.int .u8 o')) (b1 : w.cell? ⟨g, off + k * 5 + 1, none⟩ = some (.int .u8 d')) (b2 : w.cell? ⟨g, off + k * 5 + 2, none⟩ = some (.int .u8 s'))
    (b3 : w.cell? ⟨g, off + k * 5 + 3, none⟩ = some (.int .i16 f')) (b4 : w.cell? ⟨g, off + k * 5 + 4, none⟩ = some (.int .i32 m')) (hri : rightI ⟨24, d, s, f, m⟩ = true) :
    Calls Tryz.prog 19 #[.slice (some ⟨g, off, none⟩) len cap, .int .i64 k] w fun e w' => e = .returned (.bool (noneB ⟨o', d', s', f', m'⟩)) ∧ Below w.heap.size w w' := by
  have e1 : IntKind.i64.wrap ((k : Int) - 1) = (k : Int) - 1 := IntWalk.i64_in _ (by omega)
  have e2 : (0 : Int) ≤ (k : Int) - 1 := by omega
  have e3 : ((k : Int) - 1).toNat = k - 1 := by omega
  have e4 : (k : Int) - 1 < (len : Int) := by omega
  have i0 : (0 : Int) ≤ (k : Int) := by omega
  have i1 : (k : Int) < (len : Int) := by omega
  go_enter Tryz.func19, Tryz.ntmps19
  go_wp2
  go_region
  · clear e1 e2 e3 e4 i0 i1 c0 c1 c2 c3 c4 b0 b1 b2 b3 b4
    go_wp2_with (go_at_call 41; refine (right_isa 24 d s f m _ (by omega) (by omega)).mono ?_; rintro e w1 ⟨rfl, hb1⟩; rw [hri]; obtain ⟨y0, y1, y2, y3, y4⟩ := box_stays hb1 (heap_two _ _ _).2; have HB1 := Lib.hid hb1; clear hb1)
    all_goals
      go_ret
      exact ⟨ret_bool (by simp_all [noneB]), below_two HB1.out⟩
  · clear e1 e2 e3 e4 i0 i1 c0 c1 c2 c3 c4 b0 b1 b2 b3 b4
    go_wp2_with (go_at_call 41; refine (right_isa 24 d s f m _ (by omega) (by omega)).mono ?_; rintro e w1 ⟨rfl, hb1⟩; rw [hri]; obtain ⟨y0, y1, y2, y3, y4⟩ := box_stays hb1 (heap_two _ _ _).1; have HB1 := Lib.hid hb1; clear hb1)
    all_goals
      go_ret
      exact ⟨ret_bool (by simp_all [noneB]), below_two HB1.out⟩
theorem second_in (w : World) (A : Option Addr) (len cap k : Nat) (l : List Ins) (hl : l.length = len) (hm : len ≤ maxLen) (hk1 : 1 ≤ k) (hk : k < len) (hr : InsAt w A l) :
    Calls Tryz.prog 19 #[.slice A len cap, .int .i64 k] w fun e w' => e = .returned (.bool (secN l k)) ∧ Below w.heap.size w w' := by
  obtain ⟨g, off, rfl, hg, hrow⟩ : ∃ g off, A = some ⟨g, off, none⟩ ∧ g < w.heap.size ∧ InsRow w g off l := by
    rcases hr with h | h
    · omega
    · exact h
  obtain ⟨c0, c1, c2, c3, c4⟩ := hrow (k - 1) (by omega)
  obtain ⟨b0, b1, b2, b3, b4⟩ := hrow k (by omega)
  have hsec : secN l k = ((l.getD (k - 1) .zero).op == 24 && rightI (l.getD (k - 1) .zero) && noneB (l.getD k .zero)) := by
    simp [secN, hk1, hl, hk]
  rw [hsec]
  unfold maxLen at hm
  obtain ⟨⟨o, d, s, f, m⟩, hx⟩ : ∃ x, l.getD (k - 1) .zero = x := ⟨_, rfl⟩
  obtain ⟨⟨o', d', s', f', m'⟩, hy⟩ : ∃ y, l.getD k .zero = y := ⟨_, rfl⟩
  rw [hx] at c0 c1 c2 c3 c4 ⊢
  rw [hy] at b0 b1 b2 b3 b4 ⊢
  dsimp only at c0 c1 c2 c3 c4 b0 b1 b2 b3 b4 ⊢
  by_cases h24 : o = 24
  · subst h24
    cases hri : rightI ⟨24, d, s, f, m⟩
    · exact second_wrong w g off len cap k _ _ _ _ _ _ _ _ _ (by omega) hk1 hk hg c0 c1 c2 c3 c4 b0 b1 b2 b3 b4 hri
    · have := second_yes w g off len cap k _ _ _ _ _ _ _ _ _ (by omega) hk1 hk hg c0 c1 c2 c3 c4 b0 b1 b2 b3 b4 hri
      simpa using this
  · have hq : (o == 24) = false := by simpa using h24
    have := second_no w g off len cap k _ _ _ _ _ _ _ _ _ _ (by omega) hk1 hk hg c0 c1 c2 c3 c4 b0 b1 b2 b3 b4 h24
    rw [hq]
    exact this
theorem second_isa (w : World) (A : Option Addr) (len cap k : Nat) (l : List Ins) (hl : l.length = len) (hm : len ≤ maxLen) (hr : InsAt w A l) :
    Calls Tryz.prog 19 #[.slice A len cap, .int .i64 k] w fun e w' => e = .returned (.bool (secN l k)) ∧ Below w.heap.size w w' := by
  by_cases h1 : 1 ≤ k
  · by_cases h2 : k < len
    · exact second_in w A len cap k l hl hm h1 h2 hr
    · have e : secN l k = false := by simp [secN, hl, h2]
      rw [e]
      exact second_out w A len cap k (.inr (by omega))
  · have e : secN l k = false := by simp [secN, h1]
    rw [e]
    exact second_out w A len cap k (.inl (by omega))
end Go.Proofs.YthmibmofdmlgaaaGreatDoor
