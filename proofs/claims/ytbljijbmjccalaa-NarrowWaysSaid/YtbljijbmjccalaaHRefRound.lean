/-
  Proved here: what the document's round makes of what is known, up to the test whether it is empty. Conditions: none.
-/
import Derived.Test.YtbljijbmjccalaaHNumI
namespace Go.Proofs.Ytbljijbmjccalaa
open Go.RowKit

theorem max_yes {x y : B64} (h : u x < u y) : maxU x y = y := if_pos h
theorem max_no {x y : B64} (h : u y ≤ u x) : maxU x y = x := if_neg (by omega)
theorem min_yes {x y : B64} (h : u y < u x) : minU x y = y := if_pos h
theorem min_no {x y : B64} (h : u x ≤ u y) : minU x y = x := if_neg (by omega)
theorem maxs_yes {x y : B64} (h : s x < s y) : maxS x y = y := if_pos h
theorem maxs_no {x y : B64} (h : s y ≤ s x) : maxS x y = x := if_neg (by omega)
theorem mins_yes {x y : B64} (h : s y < s x) : minS x y = y := if_pos h
theorem mins_no {x y : B64} (h : s x ≤ s y) : minS x y = x := if_neg (by omega)
/-- The boxes: what is known (a struct that came in), the result's. -/
def RB (w0 : World) (k : K) (W : World) : Prop := NumAt w0.heap.size k W ∧ NumAt (w0.heap.size + 1) zeroK W ∧ Below w0.heap.size w0 W
theorem num_far {g g' : Nat} {k : K} {W : World} (h : NumAt g k W) (hne : g ≠ g') (o : Nat) (x : Value) : NumAt g k (W.setCell ⟨g', o, none⟩ x) :=
  (Below.heap_setCell _ _ _ _ hne).trans h
theorem rb_a {w0 : World} {k : K} {W : World} (h : RB w0 k W) (x : B64) : RB w0 ⟨k.v, k.m, x, k.b, k.c, k.d⟩ (W.setCell ⟨w0.heap.size, 2, none⟩ (.int .u64 (u x))) :=
  ⟨by have := h.1; unfold NumAt at *; simp [World.setCell, Array.getElem?_modify, this], num_far h.2.1 (by omega) _ _, below_set h.2.2 _ _⟩
theorem rb_b {w0 : World} {k : K} {W : World} (h : RB w0 k W) (x : B64) : RB w0 ⟨k.v, k.m, k.a, x, k.c, k.d⟩ (W.setCell ⟨w0.heap.size, 3, none⟩ (.int .u64 (u x))) :=
  ⟨by have := h.1; unfold NumAt at *; simp [World.setCell, Array.getElem?_modify, this], num_far h.2.1 (by omega) _ _, below_set h.2.2 _ _⟩
theorem rb_c {w0 : World} {k : K} {W : World} (h : RB w0 k W) (x : B64) : RB w0 ⟨k.v, k.m, k.a, k.b, x, k.d⟩ (W.setCell ⟨w0.heap.size, 4, none⟩ (.int .i64 (s x))) :=
  ⟨by have := h.1; unfold NumAt at *; simp [World.setCell, Array.getElem?_modify, this], num_far h.2.1 (by omega) _ _, below_set h.2.2 _ _⟩
theorem rb_d {w0 : World} {k : K} {W : World} (h : RB w0 k W) (x : B64) : RB w0 ⟨k.v, k.m, k.a, k.b, k.c, x⟩ (W.setCell ⟨w0.heap.size, 5, none⟩ (.int .i64 (s x))) :=
  ⟨by have := h.1; unfold NumAt at *; simp [World.setCell, Array.getElem?_modify, this], num_far h.2.1 (by omega) _ _, below_set h.2.2 _ _⟩
theorem rb_drews {w0 : World} {k : K} {W : World} (h : RB w0 k W) (n : Nat) : RB w0 k (W.drewN n) :=
  ⟨num_keep h.1 (below_drews (Below.refl _ _) _), num_keep h.2.1 (below_drews (Below.refl _ _) _), below_drews h.2.2 _⟩
theorem rb_new (k : K) (w : World) : RB w k ((w.alloc (.cells #[.int .u64 (u k.v), .int .u64 (u k.m), .int .u64 (u k.a), .int .u64 (u k.b), .int .i64 (s k.c), .int .i64 (s k.d)] 26)).alloc
    (.cells #[.int .u64 0, .int .u64 0, .int .u64 0, .int .u64 0, .int .i64 0, .int .i64 0] 26)) := by
  have h1 := num_new k w
  obtain ⟨W1, hW1⟩ : ∃ W, w.alloc (.cells #[.int .u64 (u k.v), .int .u64 (u k.m), .int .u64 (u k.a), .int .u64 (u k.b), .int .i64 (s k.c), .int .i64 (s k.d)] 26) = W := ⟨_, rfl⟩
  have b1 : Below w.heap.size w W1 := by rw [← hW1]; exact below_box _ _
  have e1 : W1.heap.size = w.heap.size + 1 := by rw [← hW1]; simp
  rw [hW1] at h1 ⊢
  have h2 := zero_new W1
  have b2 := below_box W1 (.cells #[.int .u64 0, .int .u64 0, .int .u64 0, .int .u64 0, .int .i64 0, .int .i64 0] 26)
  rw [e1] at h2
  exact ⟨num_keep h1 b2, h2, b1.trans (b2.mono (by omega))⟩

/-! ### The least and the greatest number with a sign -/
/-- As the document reckons them. -/
def lsR (V W : B64) : B64 := if 9223372036854775808 ≤ u W ∧ u V < 9223372036854775808 then V + half else V
def msR (V W : B64) : B64 := if 9223372036854775808 ≤ u W ∧ u V < 9223372036854775808 then W - half else W
theorem pv_plus (v m : B64) : (v &&& ~~~m) + m = v ||| m := by
  rw [BitVec.add_eq_or_of_and_eq_zero]
  · apply BitVec.eq_of_getLsbD_eq
    intro i hi
    rw [BitVec.getLsbD_or, BitVec.getLsbD_or, BitVec.getLsbD_and, not_bit _ _ hi]
    cases m.getLsbD i <;> cases v.getLsbD i <;> rfl
  · apply BitVec.eq_of_getLsbD_eq
    intro i hi
    rw [BitVec.getLsbD_and, BitVec.getLsbD_and, not_bit _ _ hi, BitVec.getLsbD_zero]
    cases m.getLsbD i <;> cases v.getLsbD i <;> rfl
theorem top_iff (k : K) : (9223372036854775808 ≤ u (k.v ||| k.m) ∧ u (pv k.v k.m) < 9223372036854775808) ↔ k.m.getLsbD 63 = true := by
  have h1 := msb_iff (k.v ||| k.m)
  have h2 := msb_iff (pv k.v k.m)
  rw [BitVec.getLsbD_or] at h1
  rw [pv_bit _ _ _ (by omega)] at h2
  have e : u (pv k.v k.m) < 9223372036854775808 ↔ ¬ 9223372036854775808 ≤ u (pv k.v k.m) := by omega
  rw [e, ← h1, ← h2]
  cases k.m.getLsbD 63 <;> cases k.v.getLsbD 63 <;> simp
theorem lsR_eq (k : K) : lsR (pv k.v k.m) (k.v ||| k.m) = k.lowS := by
  unfold lsR K.lowS
  by_cases h : k.m.getLsbD 63 = true
  · rw [if_pos ((top_iff k).2 h)]
    rw [BitVec.add_eq_or_of_and_eq_zero]
    · apply BitVec.eq_of_getLsbD_eq
      intro i hi
      rw [BitVec.getLsbD_or, BitVec.getLsbD_or, BitVec.getLsbD_and, half_bit]
      by_cases e : i = 63
      · subst e; rw [h]; simp
      · simp [e]
    · apply BitVec.eq_of_getLsbD_eq
      intro i hi
      rw [BitVec.getLsbD_and, pv_bit _ _ _ hi, half_bit, BitVec.getLsbD_zero]
      by_cases e : i = 63
      · subst e; rw [h]; simp
      · simp [e]
  · rw [if_neg (fun g => h ((top_iff k).1 g))]
    apply BitVec.eq_of_getLsbD_eq
    intro i hi
    rw [BitVec.getLsbD_or, BitVec.getLsbD_and, half_bit]
    by_cases e : i = 63
    · subst e
      have : k.m.getLsbD 63 = false := by simpa using h
      rw [this]; simp
    · simp [e]
theorem msR_eq (k : K) : msR (pv k.v k.m) (k.v ||| k.m) = k.highS := by
  unfold msR K.highS
  by_cases h : k.m.getLsbD 63 = true
  · rw [if_pos ((top_iff k).2 h)]
    have e : (k.v ||| k.m) = ((k.v ||| k.m) &&& ~~~(k.m &&& half)) + half := by
      rw [BitVec.add_eq_or_of_and_eq_zero]
      · apply BitVec.eq_of_getLsbD_eq
        intro i hi
        rw [BitVec.getLsbD_or, BitVec.getLsbD_or, BitVec.getLsbD_and, BitVec.getLsbD_or, not_bit _ _ hi, BitVec.getLsbD_and, half_bit]
        by_cases e : i = 63
        · subst e; rw [h]; simp
        · simp [e]
      · apply BitVec.eq_of_getLsbD_eq
        intro i hi
        rw [BitVec.getLsbD_and, BitVec.getLsbD_and, BitVec.getLsbD_or, not_bit _ _ hi, BitVec.getLsbD_and, half_bit, BitVec.getLsbD_zero]
        by_cases e : i = 63
        · subst e; rw [h]; simp
        · simp [e]
    obtain ⟨Z, hZ⟩ : ∃ Z, (k.v ||| k.m) &&& ~~~(k.m &&& half) = Z := ⟨_, rfl⟩
    rw [hZ] at e ⊢
    rw [e, BitVec.add_sub_cancel]
  · rw [if_neg (fun g => h ((top_iff k).1 g))]
    apply BitVec.eq_of_getLsbD_eq
    intro i hi
    rw [BitVec.getLsbD_and, not_bit _ _ hi, BitVec.getLsbD_and, half_bit]
    by_cases e : i = 63
    · subst e
      have : k.m.getLsbD 63 = false := by simpa using h
      rw [this]; simp
    · simp [e]
theorem u_addH (x : B64) : IntKind.u64.wrap (u x + 9223372036854775808) = u (x + half) := by
  rw [← u_half, u_add]
theorem u_subH (x : B64) : IntKind.u64.wrap (u x - 9223372036854775808) = u (x - half) := by
  rw [← u_half, u_sub]
end Go.Proofs.Ytbljijbmjccalaa
