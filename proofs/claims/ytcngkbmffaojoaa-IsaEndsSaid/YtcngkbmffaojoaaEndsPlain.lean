/-
  Proved here: plain lemmas on codes that are well formed: from a place that is no second one and no Exit a later place that is no second one is gone to, whichever way is gone. Conditions: Check's answer is yes; the fields fit.
-/
import Derived.Test.YtcngkbmffaojoaaCheck
namespace Go.Proofs.Ytcngkbmffaojoaa
open Go.RowKit

theorem exit_table : ∀ n : Fin 256, decide (shp (n.val : Int) = 8 ↔ (n.val : Int) = 149) = true := by decide +kernel
theorem shp_exit {op : Int} (h0 : 0 ≤ op) (h1 : op ≤ 255) : shp op = 8 ↔ op = 149 := of_decide_eq_true (of_table (f := fun op => decide (shp op = 8 ↔ op = 149)) (g := fun _ => true) exit_table h0 h1)
structure Well (l : List Ins) (maps : Int) : Prop where
  one : 1 ≤ l.length
  all : ∀ k, k < l.length → oneB l k maps = true
  last : (l.getD (l.length - 1) .zero).op = 149
theorem well_of {l : List Ins} {maps : Int} (hfit : ∀ x ∈ l, x.Fit) (h : checkI l maps = true) : Well l maps ∧ l.length ≤ 64 := by
  unfold checkI at h
  simp only [Bool.and_eq_true, decide_eq_true_eq, beq_iff_eq] at h
  obtain ⟨⟨⟨h1, h2⟩, h3⟩, h4⟩ := h
  have hf := getD_fit hfit (k := l.length - 1) (by omega)
  exact ⟨⟨h1, fun k hk => List.all_eq_true.1 h4 k (List.mem_range.2 hk), (shp_exit hf.op.1 hf.op.2).1 h3⟩, h2⟩
/-- A place that may be come to. -/
def Stands (l : List Ins) (k : Nat) : Prop := k < l.length ∧ secN l k = false
theorem stands_zero {l : List Ins} {maps : Int} (h : Well l maps) : Stands l 0 := ⟨h.one, by simp [secN]⟩
theorem not_last {l : List Ins} {maps : Int} {k : Nat} (h : Well l maps) (hk : k < l.length) (h149 : (l.getD k .zero).op ≠ 149) : k + 1 < l.length := by
  rcases Nat.lt_or_ge (k + 1) l.length with h1 | h1
  · exact h1
  · have : k = l.length - 1 := by omega
    rw [this] at h149
    exact absurd h.last h149
/-- Behind one that is no LdWide. -/
theorem stands_next {l : List Ins} {maps : Int} {k : Nat} (h : Well l maps) (hs : Stands l k) (h149 : (l.getD k .zero).op ≠ 149) (h24 : (l.getD k .zero).op ≠ 24) : Stands l (k + 1) := by
  refine ⟨not_last h hs.1 h149, ?_⟩
  rw [Bool.eq_false_iff]
  intro hsec
  exact h24 (secN_true hsec).2.2.1
/-- Behind a LdWide and its second one. -/
theorem stands_wide2 {l : List Ins} {maps : Int} {k : Nat} (h : Well l maps) (hs : Stands l k) (h24 : (l.getD k .zero).op = 24) : Stands l (k + 2) := by
  have hone := h.all k hs.1
  unfold oneB stB at hone
  rw [hs.2, h24] at hone
  simp only [Bool.false_or, Bool.and_eq_true, Bool.or_eq_true] at hone
  have hsec : secN l (k + 1) = true := by
    rcases hone.1.1.2 with h | h
    · simp at h
    · exact h
  have hop : (l.getD (k + 1) .zero).op = 0 := secN_op hsec
  have hlt := (secN_true hsec).2.1
  refine ⟨not_last h hlt (by omega), ?_⟩
  rw [Bool.eq_false_iff]
  intro h2
  have := (secN_true h2).2.2.1
  rw [show k + 2 - 1 = k + 1 by omega] at this
  omega
/-- Where a jump goes. -/
theorem stands_jump {l : List Ins} {maps : Int} {k : Nat} (h : Well l maps) (hs : Stands l k) (hj : jmpI (l.getD k .zero).op = true) :
    0 ≤ (l.getD k .zero).off ∧ (k : Int) + 1 + (l.getD k .zero).off < l.length ∧ Stands l ((k : Int) + 1 + (l.getD k .zero).off).toNat := by
  have hone := h.all k hs.1
  unfold oneB landB at hone
  rw [hj] at hone
  simp only [Bool.not_true, Bool.false_or, Bool.and_eq_true, decide_eq_true_eq, Bool.not_eq_true'] at hone
  obtain ⟨-, ⟨h1, h2⟩, h3⟩ := hone
  exact ⟨h1, h2, by omega, h3⟩
end Go.Proofs.Ytcngkbmffaojoaa
