/-
  Proved here: a slice of instructions that came in is a row of instructions whose fields fit their kinds, and an instruction that came in by value is its fields. Conditions: none.
-/
import Derived.Test.YtmihmgchbibmoaaBytes
namespace Go.Proofs.Ytmihmgchbibmoaa
open Go.RowKit

/-- The kinds of an instruction's fields. -/
abbrev insKinds : List IntKind := [.u8, .u8, .u8, .i16, .i32]

instance : Inhabited Ins := ⟨.zero⟩
theorem ins_in {v : Value} (h : IsInts insKinds v) : ∃ x : Ins, v = x.val ∧ x.Fit := by
  obtain ⟨cs, rfl, hl, hk⟩ := h
  obtain ⟨o, ho, wo⟩ := hk 0 .u8 rfl
  obtain ⟨d, hd, wd⟩ := hk 1 .u8 rfl
  obtain ⟨s, hs, ws⟩ := hk 2 .u8 rfl
  obtain ⟨f, hf, wf⟩ := hk 3 .i16 rfl
  obtain ⟨m, hm, wm⟩ := hk 4 .i32 rfl
  refine ⟨⟨o, d, s, f, m⟩, ?_, ⟨bounds_u8 wo, bounds_u8 wd, bounds_u8 ws, bounds_i16 wf, bounds_i32 wm⟩⟩
  match cs, hl with
  | [c0, c1, c2, c3, c4], _ =>
    simp only [List.getElem?_cons_zero, List.getElem?_cons_succ, Option.some.injEq] at ho hd hs hf hm
    subst ho hd hs hf hm
    rfl
theorem rows_in {w : World} {v : Value} (h : IsRows insKinds w v) : ∃ A len cap l, v = .slice A len cap ∧ l.length = len ∧ len ≤ maxLen ∧ (∀ x ∈ l, x.Fit) ∧ InsAt w A l := by
  rcases h with rfl | ⟨a, len, cap, rfl, hl, hm, hc⟩
  · exact ⟨none, 0, 0, [], rfl, rfl, Nat.zero_le _, by simp, .inl rfl⟩
  · have hx : ∀ j, j < len → ∃ x : Ins, x.Fit ∧ w.cell? (a.add (j * 5 + 0)) = some (.int .u8 x.op) ∧ w.cell? (a.add (j * 5 + 1)) = some (.int .u8 x.dst) ∧ w.cell? (a.add (j * 5 + 2)) = some (.int .u8 x.src) ∧
        w.cell? (a.add (j * 5 + 3)) = some (.int .i16 x.off) ∧ w.cell? (a.add (j * 5 + 4)) = some (.int .i32 x.imm) := by
      intro j hj
      obtain ⟨o, ho, wo⟩ := hc j hj 0 .u8 rfl
      obtain ⟨d, hd, wd⟩ := hc j hj 1 .u8 rfl
      obtain ⟨s, hs, ws⟩ := hc j hj 2 .u8 rfl
      obtain ⟨f, hf, wf⟩ := hc j hj 3 .i16 rfl
      obtain ⟨m, hm, wm⟩ := hc j hj 4 .i32 rfl
      exact ⟨⟨o, d, s, f, m⟩, ⟨bounds_u8 wo, bounds_u8 wd, bounds_u8 ws, bounds_i16 wf, bounds_i32 wm⟩, ho, hd, hs, hf, hm⟩
    obtain ⟨f, hf⟩ := Go.Deep.choose_lt hx
    refine ⟨some a, len, cap, (List.range len).map f, rfl, by simp, by omega, ?_, ?_⟩
    · intro x hx
      simp only [List.mem_map, List.mem_range] at hx
      obtain ⟨j, hj, rfl⟩ := hx
      exact (hf j hj).1
    · rcases Nat.eq_zero_or_pos len with h0 | h0
      · exact .inl (by simp [h0])
      · obtain ⟨b, off, spot⟩ := a
        have h1 := (hf 0 h0).2.1
        have hspot : spot = none := by simpa [Addr.add] using World.cell?_spot h1
        subst hspot
        have hg : b < w.heap.size := by
          have := World.block_lt_of_cell? w _ h1
          simpa [Addr.add] using this
        refine .inr ⟨b, off, rfl, hg, fun j hj => ?_⟩
        have hj' : j < len := by simpa using hj
        have e : ((List.range len).map f).getD j .zero = f j := by
          rw [List.getD_eq_getElem?_getD, List.getElem?_map, List.getElem?_range hj']
          rfl
        rw [e]
        obtain ⟨_, k0, k1, k2, k3, k4⟩ := hf j hj'
        rw [Go.WideShapes.add_plain] at k0 k1 k2 k3 k4
        exact ⟨k0, k1, k2, k3, k4⟩
end Go.Proofs.Ytmihmgchbibmoaa
