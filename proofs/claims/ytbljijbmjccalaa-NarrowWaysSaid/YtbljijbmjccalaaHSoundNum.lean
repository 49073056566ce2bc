/-
  Proved here: a number that two have, what they tell together has. No Go text is spoken of. Conditions: none.
-/
import Derived.Test.YtbljijbmjccalaaHNumI
namespace Go.Proofs.Ytbljijbmjccalaa
open Go.RowKit

theorem has_sum (a b : K) (x : B64) : (a.sum b).has x = true ↔ a.has x = true ∧ u b.a ≤ u x ∧ u x ≤ u b.b ∧ s b.c ≤ s x ∧ s x ≤ s b.d := by
  rw [K.sum, has_inS, has_inU]
  constructor
  · rintro ⟨⟨h1, h2, h3⟩, h4, h5⟩; exact ⟨h1, h2, h3, h4, h5⟩
  · rintro ⟨h1, h2, h3, h4, h5⟩; exact ⟨⟨h1, h2, h3⟩, h4, h5⟩
theorem has_both {a b : K} {x : B64} (ha : a.has x = true) (hb : b.has x = true) : a.okM b = true ∧ (a.both b).has x = true := by
  have ga := (has_iff a x).1 ha
  have gb := (has_iff b x).1 hb
  have hm : mtOk a.v a.m b.v b.m = true := by
    cases e : mtOk a.v a.m b.v b.m
    · have := mt_none _ _ _ _ x e
      rw [ga.1, gb.1] at this
      cases this
    · rfl
  have hp : (a.pair b).has x = true := by
    rw [K.pair, has_met _ _ _ _ (by rw [sum_v, sum_m]; exact hm)]
    exact ⟨(has_sum a b x).2 ⟨ha, gb.2⟩, gb.1⟩
  obtain ⟨e1, e2⟩ := both_yes hm
  have ho := has_okF hp
  rw [e1, e2]
  exact ⟨ho, (has_fine x ho).2 hp⟩
end Go.Proofs.Ytbljijbmjccalaa
