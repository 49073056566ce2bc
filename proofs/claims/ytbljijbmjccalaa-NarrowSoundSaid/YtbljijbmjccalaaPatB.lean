/-
  Proved here: what Has, Const, All, Add, Sub, And, Or and Xor of package tnum return. Conditions: none.
-/
import Derived.Test.YtbljijbmjccalaaPat
import Derived.Deep.RegionWith
import Derived.Deep.RegionHeld3
import Derived.Deep.DeepCutAuto
namespace Go.Proofs.Ytbljijbmjccalaa
open Go.RowKit
attribute [local go_sem ↓] eql_tn neq_tn
attribute [local go_sem] u_and u_or u_xor u_andNot u_add u_sub

theorem has_eq (v m x : B64) : tnEq (pv x m) m (pv v m) m = hasB v m x := by
  unfold tnEq hasB
  simp
/-- Three boxes: two patterns, and the result's. -/
def Three (w0 : World) (a b c d x y : Value) (W : World) : Prop :=
  W.heap[w0.heap.size]? = some (.cells #[a, b] 24) ∧ W.heap[w0.heap.size + 1]? = some (.cells #[c, d] 24) ∧ W.heap[w0.heap.size + 2]? = some (.cells #[x, y] 24) ∧ Below w0.heap.size w0 W
theorem blk_facts {W : World} {B : Nat} {a b : Value} (h : W.heap[B]? = some (.cells #[a, b] 24)) :
    W.cell? ⟨B, 0, none⟩ = some a ∧ W.cell? ⟨B, 1, none⟩ = some b ∧ W.frozen? ⟨B, 0, none⟩ = false ∧ W.frozen? ⟨B, 1, none⟩ = false ∧ B < W.heap.size :=
  ⟨by simp [World.cell?, h], by simp [World.cell?, h], by simp [World.frozen?, h], by simp [World.frozen?, h], (Array.getElem?_eq_some_iff.1 h).1⟩
theorem three_keep {w0 W W' : World} {a b c d x y : Value} (h : Three w0 a b c d x y W) (hb : Below W.heap.size W W') : Three w0 a b c d x y W' := by
  obtain ⟨h1, h2, h3, hB⟩ := h
  have s1 := (blk_facts h1).2.2.2.2
  have s2 := (blk_facts h2).2.2.2.2
  have s3 := (blk_facts h3).2.2.2.2
  exact ⟨(hb.block _ s1).trans h1, (hb.block _ s2).trans h2, (hb.block _ s3).trans h3, hB.trans (hb.mono (by omega))⟩
theorem three_new (w : World) (a b c d x y : Value) : Three w a b c d x y (((w.alloc (Obj.cells #[a, b] 24)).alloc (Obj.cells #[c, d] 24)).alloc (Obj.cells #[x, y] 24)).drew := by
  have e1 : (w.alloc (Obj.cells #[a, b] 24)).heap.size = w.heap.size + 1 := by simp
  have e2 : ((w.alloc (Obj.cells #[a, b] 24)).alloc (Obj.cells #[c, d] 24)).heap.size = w.heap.size + 2 := by simp
  have h1 := (MapKept.heap_alloc w (Obj.cells #[a, b] 24)).1
  have h2 := MapKept.heap_alloc (w.alloc (Obj.cells #[a, b] 24)) (Obj.cells #[c, d] 24)
  have h3 := MapKept.heap_alloc ((w.alloc (Obj.cells #[a, b] 24)).alloc (Obj.cells #[c, d] 24)) (Obj.cells #[x, y] 24)
  rw [e1] at h2
  rw [e2] at h3
  refine ⟨?_, ?_, ?_, ?_⟩
  · exact (h3.2 _ (by omega)).trans ((h2.2 _ (by omega)).trans h1)
  · exact (h3.2 _ (by omega)).trans h2.1
  · exact h3.1
  · exact ((((Below.refl _ _).alloc (Nat.le_refl _) _).alloc (by simp) _).alloc (by simp; omega) _).drew
theorem three_set {w0 W : World} {a b c d x y a' b' c' d' : Value} (h : Three w0 a b c d x y W) :
    Three w0 a' b' c' d' x y ((((W.setCell ⟨w0.heap.size, 0, none⟩ a').setCell ⟨w0.heap.size, 1, none⟩ b').setCell ⟨w0.heap.size + 1, 0, none⟩ c').setCell ⟨w0.heap.size + 1, 1, none⟩ d') := by
  obtain ⟨h1, h2, h3, hB⟩ := h
  refine ⟨?_, ?_, ?_, ?_⟩
  · simp [World.setCell, Array.getElem?_modify, h1]
  · simp [World.setCell, Array.getElem?_modify, h2]
  · simp [World.setCell, Array.getElem?_modify, h3]
  · exact (((hB.setCell (Nat.le_refl _) _).setCell (Nat.le_refl _) _).setCell (by simp) _).setCell (by simp) _
end Go.Proofs.Ytbljijbmjccalaa
