import Derived.Test.YthmibmofdmlgaaaGreatDoorHLineAt
import Derived.Test.YthmibmofdmlgaaaGreatDoorHRefLine
/-
  Proved here: nothing of a program: how the text of a code comes out of its lines, place by place; how long a line is. Conditions: the fields fit.
-/
namespace Go.Proofs.YthmibmofdmlgaaaGreatDoor
open Go.RowKit
set_option linter.unusedVariables false

theorem getD_drop {l : List Ins} {k : Nat} (hk : k < l.length) : l.drop k = l.getD k .zero :: l.drop (k + 1) := by
  rw [List.drop_eq_getElem_cons hk, List.getD_eq_getElem?_getD, List.getElem?_eq_getElem hk]
  rfl
theorem sec_next {l : List Ins} {k : Nat} (h : secN l k = true) : secN l (k + 1) = false := by
  unfold secN at h ⊢
  simp only [Bool.and_eq_true, decide_eq_true_eq, noneB, beq_iff_eq] at h
  have h0 : (l.getD k .zero).op = 0 := h.2.2.1.1.1
  have h1 : k + 1 - 1 = k := by omega
  rw [h1, h0]
  simp
theorem sec_end (l : List Ins) : secN l l.length = false := by simp [secN]
theorem sec_zero (l : List Ins) : secN l 0 = false := by simp [secN]
theorem sec_at {l : List Ins} {k : Nat} (hk : k + 1 < l.length) (h24 : (l.getD k .zero).op = 24) (hr : rightI (l.getD k .zero) = true) : secN l (k + 1) = noneB (l.getD (k + 1) .zero) := by
  unfold secN
  have h1 : k + 1 - 1 = k := by omega
  rw [h1, h24, hr]
  simp [hk]
theorem sec_plain {l : List Ins} {k : Nat} (h24 : (l.getD k .zero).op ≠ 24) : secN l (k + 1) = false := by
  unfold secN
  have h1 : k + 1 - 1 = k := by omega
  rw [h1]
  have : ((l.getD k .zero).op == 24) = false := by simpa using h24
  rw [this]
  simp
/-- Where the next line begins. -/
def nextK (l : List Ins) (k : Nat) : Nat := if secN l k = true then k + 1 else k
theorem code_step {l : List Ins} {k : Nat} (hk : k < l.length) (hs : secN l k = false) : codeT (l.drop k) = match atO l k with | none => none | some t => (codeT (l.drop (nextK l (k + 1)))).map fun s => t ++ [10] ++ s := by
  rw [getD_drop hk]
  unfold atO
  conv => lhs; unfold codeT
  by_cases hr : rightI (l.getD k .zero) = false
  · rw [if_pos hr, if_pos hr]
  · rw [if_neg hr, if_neg hr]
    have hr' : rightI (l.getD k .zero) = true := by simpa using hr
    by_cases h24 : (l.getD k .zero).op = 24
    · rw [if_pos h24, if_pos h24]
      by_cases hk2 : k + 1 < l.length
      · rw [getD_drop hk2]
        dsimp only
        rw [sec_at hk2 h24 hr']
        by_cases hn : noneB (l.getD (k + 1) .zero) = true
        · rw [if_pos hn, if_pos hn]
          have e : nextK l (k + 1) = k + 1 + 1 := by unfold nextK; rw [sec_at hk2 h24 hr', if_pos hn]
          rw [e]
          cases lineO (l.getD k .zero) (wideN (l.getD k .zero) (l.getD (k + 1) .zero)) <;> rfl
        · rw [if_neg hn, if_neg hn]
      · have e : l.drop (k + 1) = [] := List.drop_eq_nil_of_le (by omega)
        have e2 : secN l (k + 1) = false := by unfold secN; simp; omega
        rw [e, e2]
        rfl
    · rw [if_neg h24, if_neg h24]
      have e : nextK l (k + 1) = k + 1 := by unfold nextK; rw [sec_plain h24]; rfl
      rw [e]
      cases lineO (l.getD k .zero) (l.getD k .zero).imm <;> rfl
theorem lineT_len {x : Ins} {n : Int} (hx : x.Fit) (h0 : -9223372036854775808 ≤ n) (h1 : n ≤ 9223372036854775807) : (lineT x n (wordI x)).length ≤ 500 := by
  have h := word_small hx
  unfold wdB at h
  simp only [Bool.and_eq_true, decide_eq_true_eq, List.all_eq_true] at h
  obtain ⟨⟨h3, _⟩, ht⟩ := h
  unfold lineT
  split
  · omega
  · have hj : (Lib.join ((wordI x).2.1.map (partT x n (wordI x).2.2)) [44, 32]).length ≤ 300 := by
      have h46 : ∀ l ∈ (wordI x).2.1.map (partT x n (wordI x).2.2), l.length ≤ 46 := by
        intro l hl'
        obtain ⟨p, _, rfl⟩ := List.mem_map.1 hl'
        exact partT_len x n _ p h0 h1 hx
      have h3' : ((wordI x).2.1.map (partT x n (wordI x).2.2)).length ≤ 3 := by simpa using h3
      generalize (wordI x).2.1.map (partT x n (wordI x).2.2) = L at h46 h3'
      match L, h3' with
      | [], _ => simp [Lib.join]
      | [a], _ => have := h46 a (by simp); simp [Lib.join, List.intercalate]; omega
      | [a, b], _ => have := h46 a (by simp); have := h46 b (by simp); simp [Lib.join, List.intercalate]; omega
      | [a, b, c], _ => have := h46 a (by simp); have := h46 b (by simp); have := h46 c (by simp); simp [Lib.join, List.intercalate]; omega
    simp
    omega
theorem wide_bd (x y : Ins) : -9223372036854775808 ≤ wideN x y ∧ wideN x y ≤ 9223372036854775807 := by
  unfold wideN
  rw [IntKind.wrap_i64]
  omega
theorem atO_len {l : List Ins} {k : Nat} {t : List UInt8} (hf : ∀ x ∈ l, x.Fit) (hk : k < l.length) (h : atO l k = some t) : t.length ≤ 500 := by
  have hx := getD_fit hf hk
  unfold atO at h
  split at h
  · cases h
  · have key : ∀ n, -9223372036854775808 ≤ n → n ≤ 9223372036854775807 → lineO (l.getD k .zero) n = some t → t.length ≤ 500 := by
      intro n h0 h1 hn
      unfold lineO at hn
      split at hn
      · cases hn
        exact lineT_len hx h0 h1
      · cases hn
    split at h
    · split at h
      · exact key _ (wide_bd _ _).1 (wide_bd _ _).2 h
      · cases h
    · have := hx.imm
      exact key _ (by omega) (by omega) h
end Go.Proofs.YthmibmofdmlgaaaGreatDoor

/-
  Proved here: nothing of a program: a step through a code by the lines of the document's answers. Conditions: the fields fit.
-/
namespace Go.Proofs.YthmibmofdmlgaaaGreatDoor
open Go.RowKit
set_option linter.unusedVariables false

/-- How many instructions a line takes. -/
def takes (x : Ins) : Nat := if x.op = 24 then 2 else 1
/-- The line at an index, by the document's answers. -/
def refAt (l : List Ins) (k : Nat) : Option (List UInt8) := refO (l.getD k .zero) (l.getD (k + 1) .zero) (decide (k + 1 < l.length))
theorem ref_no {l : List Ins} {k : Nat} (hk : k < l.length) (hr : rightI (l.getD k .zero) = false) : codeT (l.drop k) = none := by
  rw [getD_drop hk]
  unfold codeT
  rw [if_pos hr]
theorem ref_step {l : List Ins} {k : Nat} (hk : k < l.length) (hr : rightI (l.getD k .zero) = true) :
    codeT (l.drop k) = (refAt l k).bind fun t => (codeT (l.drop (k + takes (l.getD k .zero)))).map fun s => t ++ [10] ++ s := by
  rw [getD_drop hk]
  unfold refAt refO takes
  conv => lhs; unfold codeT
  rw [if_neg (by rw [hr]; simp)]
  by_cases h24 : (l.getD k .zero).op = 24
  · rw [if_pos h24, if_pos h24, if_pos h24]
    by_cases hk2 : k + 1 < l.length
    · rw [getD_drop hk2]
      dsimp only
      cases hn : noneB (l.getD (k + 1) .zero) with
      | true => simp [hk2]
      | false => simp [hk2]
    · rw [List.drop_eq_nil_of_le (by omega)]
      simp [hk2]
  · rw [if_neg h24, if_neg h24, if_neg h24]
theorem wd_ne : ∀ n : Fin 256, (match wdOf (n.val : Int) with | some d => d.1 != [] | none => true) = true := by decide +kernel
theorem word_ne {x : Ins} (hx : x.Fit) (hr : rightI x = true) : (wordI x).1 ≠ [] := by
  unfold wordI
  by_cases hm : x.op = 24 ∧ x.src = 1
  · rw [if_pos hm]; simp [wdMap]
  · rw [if_neg hm]
    obtain ⟨n, hn⟩ := fin_of hx.op.1 hx.op.2
    have h1 := wd_ne n
    have h2 := wd_shape n
    rw [hn] at h1 h2
    cases hw : wdOf x.op with
    | none =>
      rw [hw] at h2
      simp only [Option.isSome_none, beq_iff_eq] at h2
      exact absurd h2.symm (by simpa using right_shp hr)
    | some d =>
      rw [hw] at h1
      simpa using h1
theorem line_ne {x : Ins} {n : Int} {t : List UInt8} (hx : x.Fit) (hr : rightI x = true) (h : lineO x n = some t) : t ≠ [] := by
  unfold lineO at h
  split at h
  · cases h
    unfold lineT
    have := word_ne hx hr
    split
    · exact this
    · simp
  · cases h
theorem refAt_ne {l : List Ins} {k : Nat} {t : List UInt8} (hf : ∀ x ∈ l, x.Fit) (hk : k < l.length) (hr : rightI (l.getD k .zero) = true) (h : refAt l k = some t) : t ≠ [] ∧ t.length ≤ 500 := by
  have hx := getD_fit hf hk
  unfold refAt refO at h
  have key : ∀ n, -9223372036854775808 ≤ n → n ≤ 9223372036854775807 → lineO (l.getD k .zero) n = some t → t ≠ [] ∧ t.length ≤ 500 := by
    intro n h0 h1 hn
    refine ⟨line_ne hx hr hn, ?_⟩
    unfold lineO at hn
    split at hn
    · cases hn
      exact lineT_len hx h0 h1
    · cases hn
  split at h
  · split at h
    · exact key _ (wide_bd _ _).1 (wide_bd _ _).2 h
    · cases h
  · have := hx.imm
    exact key _ (by omega) (by omega) h
theorem refAt_last {l : List Ins} {k : Nat} {t : List UInt8} (h : refAt l k = some t) (h24 : (l.getD k .zero).op = 24) : k + 1 < l.length := by
  unfold refAt refO at h
  rw [if_pos h24] at h
  by_cases hk : k + 1 < l.length
  · exact hk
  · simp [hk] at h
theorem getD_fit0 {l : List Ins} (hf : ∀ x ∈ l, x.Fit) (k : Nat) : (l.getD k .zero).Fit := by
  by_cases hk : k < l.length
  · exact getD_fit hf hk
  · rw [List.getD_eq_getElem?_getD, List.getElem?_eq_none (by omega)]
    exact ⟨by decide, by decide, by decide, by decide, by decide⟩
theorem getD_zero {l : List Ins} {k : Nat} (hk : ¬ k < l.length) : l.getD k .zero = .zero := by
  rw [List.getD_eq_getElem?_getD, List.getElem?_eq_none (by omega)]
  rfl
end Go.Proofs.YthmibmofdmlgaaaGreatDoor
