import Derived.Test.YthmibmofdmlgaaaGreatDoorHLineAt
import Derived.Test.YthmibmofdmlgaaaGreatDoorG08
/-
  Proved here: nothing of a program: a code's text is its lines, each of one or two instructions. Conditions: the fields fit.
-/
namespace Go.Proofs.YthmibmofdmlgaaaGreatDoor
open Go.RowKit
set_option linter.unusedVariables false

/-- A line of a code: its text, its instructions. -/
abbrev Chunk := List UInt8 × List Ins
/-- It is the text of these. -/
def GoodC (c : Chunk) : Prop :=
  (∃ x : Ins, c = (lineT x x.imm (wordI x), [x]) ∧ x.Fit ∧ rightI x = true ∧ x.op ≠ 24 ∧ lineB x x.imm (wordI x) = true) ∨
  (∃ x y : Ins, c = (lineT x (wideN x y) (wordI x), [x, y]) ∧ x.Fit ∧ y.Fit ∧ rightI x = true ∧ x.op = 24 ∧ noneB y = true ∧ lineB x (wideN x y) (wordI x) = true)
def chunkT (C : List Chunk) : List UInt8 := (C.map fun c => c.1 ++ [10]).flatten
def chunkI (C : List Chunk) : List Ins := (C.map (·.2)).flatten
theorem chunks_of : ∀ (n : Nat) (l : List Ins) (T : List UInt8), l.length ≤ n → (∀ x ∈ l, x.Fit) → codeT l = some T → ∃ C : List Chunk, T = chunkT C ∧ l = chunkI C ∧ ∀ c ∈ C, GoodC c
  | _, [], T, _, _, h => by
    unfold codeT at h
    cases h
    exact ⟨[], rfl, rfl, by simp⟩
  | 0, x :: r, T, hn, _, _ => by simp at hn
  | n + 1, x :: r, T, hn, hf, h => by
    unfold codeT at h
    have hx := hf x (by simp)
    by_cases hr : rightI x = false
    · rw [if_pos hr] at h
      cases h
    rw [if_neg hr] at h
    have hr' : rightI x = true := by simpa using hr
    by_cases h24 : x.op = 24
    · rw [if_pos h24] at h
      cases r with
      | nil => cases h
      | cons y r' =>
        have hy := hf y (by simp)
        dsimp only at h
        by_cases hnn : noneB y = true
        · rw [if_pos hnn] at h
          unfold lineO at h
          by_cases hB : lineB x (wideN x y) (wordI x) = true
          · rw [if_pos hB, Option.bind_some] at h
            cases hc : codeT r' with
            | none => rw [hc] at h; cases h
            | some s =>
              rw [hc, Option.map_some] at h
              cases h
              obtain ⟨C, h1, h2, h3⟩ := chunks_of n r' s (by simp at hn; omega) (fun z hz => hf z (by simp [hz])) hc
              refine ⟨(lineT x (wideN x y) (wordI x), [x, y]) :: C, ?_, ?_, ?_⟩
              · rw [h1]; simp [chunkT]
              · rw [h2]; simp [chunkI]
              · intro c hc'
                rcases List.mem_cons.1 hc' with rfl | hc'
                · exact .inr ⟨x, y, rfl, hx, hy, hr', h24, hnn, hB⟩
                · exact h3 c hc'
          · rw [if_neg hB] at h
            cases h
        · rw [if_neg hnn] at h
          cases h
    · rw [if_neg h24] at h
      unfold lineO at h
      by_cases hB : lineB x x.imm (wordI x) = true
      · rw [if_pos hB, Option.bind_some] at h
        cases hc : codeT r with
        | none => rw [hc] at h; cases h
        | some s =>
          rw [hc, Option.map_some] at h
          cases h
          obtain ⟨C, h1, h2, h3⟩ := chunks_of n r s (by simp at hn; omega) (fun z hz => hf z (by simp [hz])) hc
          refine ⟨(lineT x x.imm (wordI x), [x]) :: C, ?_, ?_, ?_⟩
          · rw [h1]; simp [chunkT]
          · rw [h2]; simp [chunkI]
          · intro c hc'
            rcases List.mem_cons.1 hc' with rfl | hc'
            · exact .inl ⟨x, rfl, hx, hr', h24, hB⟩
            · exact h3 c hc'
      · rw [if_neg hB] at h
        cases h
/-- The lines, joined, and a last byte 10. -/
theorem chunkT_join : ∀ (c : Chunk) (C : List Chunk), chunkT (c :: C) = Lib.join ((c :: C).map Prod.fst) [10] ++ [10]
  | c, [] => by simp [chunkT, Lib.join, List.intercalate]
  | c, d :: C => by
    have ih := chunkT_join d C
    have e : chunkT (c :: d :: C) = c.1 ++ [10] ++ chunkT (d :: C) := by simp [chunkT]
    have e2 : (c :: d :: C).map Prod.fst = c.1 :: d.1 :: C.map Prod.fst := rfl
    have e3 : (d :: C).map Prod.fst = d.1 :: C.map Prod.fst := rfl
    rw [e, ih, e2, e3, join_two]
    simp
theorem chunk_len : ∀ C : List Chunk, (∀ c ∈ C, GoodC c) → C.length ≤ (chunkI C).length
  | [], _ => by simp [chunkI]
  | c :: C, h => by
    have ih := chunk_len C (fun d hd => h d (by simp [hd]))
    have e : chunkI (c :: C) = c.2 ++ chunkI C := by simp [chunkI]
    rw [e, List.length_append, List.length_cons]
    have : 1 ≤ c.2.length := by
      rcases h c (by simp) with ⟨x, rfl, _⟩ | ⟨x, y, rfl, _⟩ <;> simp
    omega
/-- A text whose last byte is 10 loses it. -/
theorem trim_last (a : List UInt8) : Lib.trimSuffix (a ++ [10]) [10] = a := by
  have h : Lib.hasSuffix (a ++ [10]) [10] = true := by
    unfold Lib.hasSuffix
    rw [List.isSuffixOf_iff_suffix]
    exact List.suffix_append _ _
  unfold Lib.trimSuffix
  rw [if_pos h]
  simp
/-- An instruction's five cells; those of instructions. -/
def Ins.cells (x : Ins) : List Value := [.int .u8 x.op, .int .u8 x.dst, .int .u8 x.src, .int .i16 x.off, .int .i32 x.imm]
def cellsOf (l : List Ins) : List Value := l.flatMap Ins.cells
theorem cellsOf_append (l m : List Ins) : cellsOf (l ++ m) = cellsOf l ++ cellsOf m := by simp [cellsOf]
theorem cellsOf_length (l : List Ins) : (cellsOf l).length = l.length * 5 := by
  induction l with
  | nil => rfl
  | cons x l ih =>
    have e : cellsOf (x :: l) = x.cells ++ cellsOf l := by simp [cellsOf]
    rw [e, List.length_append, ih]
    simp [Ins.cells]
    omega
theorem cellsOf_one (l : List Ins) : ∀ u ∈ cellsOf l, u.oneCell' = true := by
  intro u hu
  unfold cellsOf at hu
  rw [List.mem_flatMap] at hu
  obtain ⟨x, _, hx⟩ := hu
  simp only [Ins.cells, List.mem_cons, List.not_mem_nil, or_false] at hx
  rcases hx with rfl | rfl | rfl | rfl | rfl <;> rfl
theorem cellsOf_at (l : List Ins) : ∀ (j : Nat) (u : Value), (cellsOf l)[j]? = some u → ∃ k i, k < l.length ∧ i < 5 ∧ j = k * 5 + i ∧ ((l.getD k .zero).cells)[i]? = some u := by
  induction l with
  | nil => intro j u h; simp [cellsOf] at h
  | cons x l ih =>
    intro j u h
    have e : cellsOf (x :: l) = x.cells ++ cellsOf l := by simp [cellsOf]
    rw [e] at h
    by_cases hj : j < 5
    · rw [List.getElem?_append_left (by simpa [Ins.cells] using hj)] at h
      exact ⟨0, j, by simp, hj, by omega, by simpa using h⟩
    · rw [List.getElem?_append_right (by simp [Ins.cells]; omega)] at h
      obtain ⟨k, i, hk, hi, hji, hv⟩ := ih _ _ h
      have h5 : x.cells.length = 5 := rfl
      rw [h5] at hji
      exact ⟨k + 1, i, by simp; omega, hi, by omega, by simpa using hv⟩
/-- A row of instructions as the cells that an append takes. -/
theorem row_news {w : World} {g : Nat} {l : List Ins} (h : InsRow w g 0 l) : ∀ j u, (cellsOf l)[j]? = some u → w.cell? ((⟨g, 0, none⟩ : Addr).add j) = some u := by
  intro j u hu
  obtain ⟨k, i, hk, hi, rfl, hv⟩ := cellsOf_at l j u hu
  obtain ⟨h0, h1, h2, h3, h4⟩ := h k hk
  simp only [Nat.zero_add] at h0 h1 h2 h3 h4
  have ea : (⟨g, 0, none⟩ : Addr).add (k * 5 + i) = ⟨g, k * 5 + i, none⟩ := by rw [Go.WideShapes.add_plain, Nat.zero_add]
  rw [ea]
  have hi' : i = 0 ∨ i = 1 ∨ i = 2 ∨ i = 3 ∨ i = 4 := by omega
  rcases hi' with rfl | rfl | rfl | rfl | rfl
  · cases hv; exact h0
  · cases hv; exact h1
  · cases hv; exact h2
  · cases hv; exact h3
  · cases hv; exact h4
end Go.Proofs.YthmibmofdmlgaaaGreatDoor
