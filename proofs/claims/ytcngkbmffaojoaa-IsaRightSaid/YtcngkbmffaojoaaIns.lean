/-
  Proved here: an instruction, its value and its fields' bounds; a slice of instructions as a row of cells, kept where nothing below is turned; what came in as such. Conditions: as each lemma says. No Go text is spoken of.
-/
import Derived.Test.YtcngkbmffaojoaaRows
import Derived.Test.YtcngkbmffaojoaaOpen
import Derived.WalkKit
import Derived.Below
namespace Go.Proofs.Ytcngkbmffaojoaa
open Go.RowKit

/-- An instruction. -/
structure Ins where
  op : Int
  dst : Int
  src : Int
  off : Int
  imm : Int

structure Ins.Fit (x : Ins) : Prop where
  op : 0 ≤ x.op ∧ x.op ≤ 255
  dst : 0 ≤ x.dst ∧ x.dst ≤ 255
  src : 0 ≤ x.src ∧ x.src ≤ 255
  off : -32768 ≤ x.off ∧ x.off ≤ 32767
  imm : -2147483648 ≤ x.imm ∧ x.imm ≤ 2147483647

def Ins.zero : Ins := ⟨0, 0, 0, 0, 0⟩
instance : Inhabited Ins := ⟨.zero⟩
/-- Its value, field by field. -/
def insV (o d s f m : Int) : Value := .agg #[.int .u8 o, .int .u8 d, .int .u8 s, .int .i16 f, .int .i32 m]
/-- Its value. -/
def Ins.val (x : Ins) : Value := .agg #[.int .u8 x.op, .int .u8 x.dst, .int .u8 x.src, .int .i16 x.off, .int .i32 x.imm]

/-- The cells of instructions in a row. -/
def InsRow (w : World) (g off : Nat) (l : List Ins) : Prop := ∀ j, j < l.length →
  w.cell? ⟨g, off + j * 5, none⟩ = some (.int .u8 (l.getD j .zero).op) ∧ w.cell? ⟨g, off + j * 5 + 1, none⟩ = some (.int .u8 (l.getD j .zero).dst) ∧
  w.cell? ⟨g, off + j * 5 + 2, none⟩ = some (.int .u8 (l.getD j .zero).src) ∧ w.cell? ⟨g, off + j * 5 + 3, none⟩ = some (.int .i16 (l.getD j .zero).off) ∧
  w.cell? ⟨g, off + j * 5 + 4, none⟩ = some (.int .i32 (l.getD j .zero).imm)
theorem InsRow.below {B : Nat} {w w' : World} {g off : Nat} {l : List Ins} (h : InsRow w g off l) (hb : Below B w w') (hg : g < B) : InsRow w' g off l := by
  intro j hj
  obtain ⟨h0, h1, h2, h3, h4⟩ := h j hj
  exact ⟨(hb.cell (p := ⟨g, _, none⟩) hg).trans h0, (hb.cell (p := ⟨g, _, none⟩) hg).trans h1, (hb.cell (p := ⟨g, _, none⟩) hg).trans h2, (hb.cell (p := ⟨g, _, none⟩) hg).trans h3, (hb.cell (p := ⟨g, _, none⟩) hg).trans h4⟩
/-- A slice of instructions. -/
def InsAt (w : World) (A : Option Addr) (l : List Ins) : Prop := l.length = 0 ∨ ∃ g off, A = some ⟨g, off, none⟩ ∧ g < w.heap.size ∧ InsRow w g off l
theorem InsAt.below {w w' : World} {A : Option Addr} {l : List Ins} (h : InsAt w A l) (hb : Below w.heap.size w w') : InsAt w' A l := by
  rcases h with h | ⟨g, off, rfl, hg, hr⟩
  · exact .inl h
  · exact .inr ⟨g, off, rfl, Nat.lt_of_lt_of_le hg hb.size, hr.below hb hg⟩

/-- The kinds of an instruction's fields. -/
abbrev insKinds : List IntKind := [.u8, .u8, .u8, .i16, .i32]
theorem ins_in {v : Value} (h : IsInts insKinds v) : ∃ x : Ins, v = x.val ∧ x.Fit := by
  obtain ⟨cs, rfl, hl, hk⟩ := h
  obtain ⟨o, ho, wo⟩ := hk 0 .u8 rfl
  obtain ⟨d, hd, wd⟩ := hk 1 .u8 rfl
  obtain ⟨s, hs, ws⟩ := hk 2 .u8 rfl
  obtain ⟨f, hf, wf⟩ := hk 3 .i16 rfl
  obtain ⟨m, hm, wm⟩ := hk 4 .i32 rfl
  refine ⟨⟨o, d, s, f, m⟩, ?_, ⟨bounds_u8 wo, bounds_u8 wd, bounds_u8 ws, bounds_i16 wf, bounds_i32 wm⟩⟩
  match cs, hl with
  | [c0, c1, c2, c3, c4], _ =>
    simp only [List.getElem?_cons_zero, List.getElem?_cons_succ, Option.some.injEq] at ho hd hs hf hm
    subst ho hd hs hf hm
    rfl
theorem rows_in {w : World} {v : Value} (h : IsRows insKinds w v) : ∃ A len cap l, v = .slice A len cap ∧ l.length = len ∧ len ≤ maxLen ∧ (∀ x ∈ l, x.Fit) ∧ InsAt w A l := by
  rcases h with rfl | ⟨a, len, cap, rfl, hl, hm, hc⟩
  · exact ⟨none, 0, 0, [], rfl, rfl, Nat.zero_le _, by simp, .inl rfl⟩
  · have hx : ∀ j, j < len → ∃ x : Ins, x.Fit ∧ w.cell? (a.add (j * 5 + 0)) = some (.int .u8 x.op) ∧ w.cell? (a.add (j * 5 + 1)) = some (.int .u8 x.dst) ∧ w.cell? (a.add (j * 5 + 2)) = some (.int .u8 x.src) ∧
        w.cell? (a.add (j * 5 + 3)) = some (.int .i16 x.off) ∧ w.cell? (a.add (j * 5 + 4)) = some (.int .i32 x.imm) := by
      intro j hj
      obtain ⟨o, ho, wo⟩ := hc j hj 0 .u8 rfl
      obtain ⟨d, hd, wd⟩ := hc j hj 1 .u8 rfl
      obtain ⟨s, hs, ws⟩ := hc j hj 2 .u8 rfl
      obtain ⟨f, hf, wf⟩ := hc j hj 3 .i16 rfl
      obtain ⟨m, hm, wm⟩ := hc j hj 4 .i32 rfl
      exact ⟨⟨o, d, s, f, m⟩, ⟨bounds_u8 wo, bounds_u8 wd, bounds_u8 ws, bounds_i16 wf, bounds_i32 wm⟩, ho, hd, hs, hf, hm⟩
    obtain ⟨f, hf⟩ := Go.Deep.choose_lt hx
    refine ⟨some a, len, cap, (List.range len).map f, rfl, by simp, by omega, ?_, ?_⟩
    · intro x hx
      simp only [List.mem_map, List.mem_range] at hx
      obtain ⟨j, hj, rfl⟩ := hx
      exact (hf j hj).1
    · rcases Nat.eq_zero_or_pos len with h0 | h0
      · exact .inl (by simp [h0])
      · obtain ⟨b, off, spot⟩ := a
        have h1 := (hf 0 h0).2.1
        have hspot : spot = none := by simpa [Addr.add] using World.cell?_spot h1
        subst hspot
        have hg : b < w.heap.size := by
          have := World.block_lt_of_cell? w _ h1
          simpa [Addr.add] using this
        refine .inr ⟨b, off, rfl, hg, fun j hj => ?_⟩
        have hj' : j < len := by simpa using hj
        have e : ((List.range len).map f).getD j .zero = f j := by
          rw [List.getD_eq_getElem?_getD, List.getElem?_map, List.getElem?_range hj']
          rfl
        rw [e]
        obtain ⟨_, k0, k1, k2, k3, k4⟩ := hf j hj'
        rw [Go.WideShapes.add_plain] at k0 k1 k2 k3 k4
        exact ⟨k0, k1, k2, k3, k4⟩
end Go.Proofs.Ytcngkbmffaojoaa
