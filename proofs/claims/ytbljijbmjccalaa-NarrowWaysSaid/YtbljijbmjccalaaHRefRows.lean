/-
  Proved here: a row of 64 bools of the call's own: made, written to, kept. Conditions: as each lemma says.
-/
import Derived.Test.YtbljijbmjccalaaHRefOf
import Derived.RegionTactic
import Derived.BigRegion
namespace Go.Proofs.Ytbljijbmjccalaa
open Go.RowKit

def zeros64 : Array Value := madeCells (Value.bool false).cells 64
theorem zeros_size : zeros64.size = 64 := by decide +kernel
theorem zeros_at (i : Nat) (h : i < 64) : zeros64[i]? = some (.bool false) := by
  have hall : ∀ j : Fin 64, (match zeros64[j.val]? with | some (.bool b) => !b | _ => false) = true := by decide +kernel
  have := hall ⟨i, h⟩
  simp only at this
  split at this
  · rename_i b e
    rw [e]
    simp at this
    rw [this]
  · cases this
theorem Try.info4 : (Try.prog.info? 4).map (fun i => (i.zero, i.size, i.bytes)) = some (some (.bool false), 1, 1) := by kernel_rfl
theorem make64 (w : World) : (Instr.makeSlice 75 (.int .i64 64) (.int .i64 64)).run Try.prog w = .ok (.slice (some ⟨w.heap.size, 0, none⟩) 64 64) (w.alloc (.cells zeros64 4)) := by
  obtain ⟨i0, hi, hz0, hz1, hz2⟩ := info_parts Try.info4
  have := run_make (P := Try.prog) w 75 4 i0 (.bool false) Try.underlying75 hi hz0 .i64 .i64 64 64 (by omega) (by omega) (by rw [hz2]; omega) (by omega)
  rw [hz1] at this
  exact this
/-- A row of 64 bools. -/
def RowIs (W : World) (g : Nat) (f : Nat → Bool) : Prop := ∃ cs : Array Value, W.heap[g]? = some (.cells cs 4) ∧ cs.size = 64 ∧ ∀ i, i < 64 → cs[i]? = some (.bool (f i))
theorem row_lt {W : World} {g : Nat} {f : Nat → Bool} (h : RowIs W g f) : g < W.heap.size := by
  obtain ⟨cs, hb, _, _⟩ := h
  exact (Array.getElem?_eq_some_iff.1 hb).1
theorem row_new (W : World) : RowIs (W.alloc (.cells zeros64 4)) W.heap.size (fun _ => false) := ⟨zeros64, (MapKept.heap_alloc W _).1, zeros_size, zeros_at⟩
theorem row_keep {W W' : World} {g : Nat} {f : Nat → Bool} (h : RowIs W g f) (hb : Below W.heap.size W W') : RowIs W' g f := by
  have hg := row_lt h
  obtain ⟨cs, h1, h2, h3⟩ := h
  exact ⟨cs, (hb.block _ hg).trans h1, h2, h3⟩
theorem row_drew {W : World} {g : Nat} {f : Nat → Bool} (h : RowIs W g f) : RowIs W.drew g f := h
theorem row_at {W : World} {g : Nat} {f : Nat → Bool} (h : RowIs W g f) {k : Nat} (hk : k < 64) : W.cell? ⟨g, k, none⟩ = some (.bool (f k)) ∧ W.frozen? ⟨g, k, none⟩ = false := by
  obtain ⟨cs, h1, h2, h3⟩ := h
  refine ⟨?_, ?_⟩
  · simp [World.cell?, h1, h3 k hk]
  · simp [World.frozen?, h1]
theorem row_bools {W : World} {g : Nat} {f : Nat → Bool} (h : RowIs W g f) : Bools W g f := fun _ hi => (row_at h hi).1
theorem row_congr {W : World} {g : Nat} {f f' : Nat → Bool} (h : RowIs W g f) (he : ∀ i, i < 64 → f i = f' i) : RowIs W g f' := by
  obtain ⟨cs, h1, h2, h3⟩ := h
  exact ⟨cs, h1, h2, fun i hi => (h3 i hi).trans (by rw [he i hi])⟩
theorem row_put {W : World} {g : Nat} {f : Nat → Bool} (h : RowIs W g f) {k : Nat} (hk : k < 64) (b : Bool) : RowIs (W.setCell ⟨g, k, none⟩ (.bool b)) g (fun i => if i = k then b else f i) := by
  obtain ⟨cs, h1, h2, h3⟩ := h
  refine ⟨cs.setIfInBounds k (.bool b), ?_, by simp [h2], fun i hi => ?_⟩
  · simp [World.setCell, Array.getElem?_modify, h1]
  · by_cases e : i = k
    · subst e
      rw [Array.getElem?_setIfInBounds_self_of_lt (by omega)]
      simp
    · rw [Array.getElem?_setIfInBounds_ne (fun h => e h.symm), h3 i hi]
      simp [e]
theorem row_other {W : World} {g : Nat} {f : Nat → Bool} (h : RowIs W g f) {p : Addr} (hp : p.block ≠ g) (v : Value) : RowIs (W.setCell p v) g f := by
  obtain ⟨cs, h1, h2, h3⟩ := h
  refine ⟨cs, ?_, h2, h3⟩
  simp [World.setCell, Array.getElem?_modify, h1, hp]
theorem twain_far {w0 W : World} {a b x y : Value} (h : Twain w0 a b x y W) {p : Addr} (hp : w0.heap.size + 1 < p.block) (v : Value) : Twain w0 a b x y (W.setCell p v) := by
  obtain ⟨h1, h2, hB⟩ := h
  refine ⟨?_, ?_, hB.setCell (by omega) _⟩
  · have : p.block ≠ w0.heap.size := by omega
    simp [World.setCell, Array.getElem?_modify, h1, this]
  · have : p.block ≠ w0.heap.size + 1 := by omega
    simp [World.setCell, Array.getElem?_modify, h2, this]
theorem three_far {w0 W : World} {a b c d x y : Value} (h : Three w0 a b c d x y W) {p : Addr} (hp : w0.heap.size + 2 < p.block) (v : Value) : Three w0 a b c d x y (W.setCell p v) := by
  obtain ⟨h1, h2, h3, hB⟩ := h
  refine ⟨?_, ?_, ?_, hB.setCell (by omega) _⟩
  · have : p.block ≠ w0.heap.size := by omega
    simp [World.setCell, Array.getElem?_modify, h1, this]
  · have : p.block ≠ w0.heap.size + 1 := by omega
    simp [World.setCell, Array.getElem?_modify, h2, this]
  · have : p.block ≠ w0.heap.size + 2 := by omega
    simp [World.setCell, Array.getElem?_modify, h3, this]
/-- The first k are as F says, the rest false. -/
def rowF (F : Nat → Bool) (k i : Nat) : Bool := decide (i < k) && F i
theorem rowF_zero (F : Nat → Bool) (i : Nat) : false = rowF F 0 i := by simp [rowF]
theorem rowF_all (F : Nat → Bool) (i : Nat) (h : i < 64) : rowF F 64 i = F i := by simp [rowF, h]
theorem rowF_put (F : Nat → Bool) (k : Nat) (b : Bool) (hb : F k = b) (i : Nat) : (if i = k then b else rowF F k i) = rowF F (k + 1) i := by
  unfold rowF
  by_cases e : i = k
  · subst e
    simp [hb]
  · rw [if_neg e]
    by_cases h : i < k
    · have h' : i < k + 1 := by omega
      simp [h, h']
    · have h' : ¬ i < k + 1 := by omega
      simp [h, h']
/-- .. and where the bit is left as it was made. -/
theorem rowF_skip (F : Nat → Bool) (k : Nat) (hb : F k = false) (i : Nat) : rowF F k i = rowF F (k + 1) i := by
  have := rowF_put F k false hb i
  rw [← this]
  by_cases e : i = k
  · subst e; simp [rowF]
  · rw [if_neg e]
theorem row_two (W : World) : RowIs ((W.alloc (.cells zeros64 4)).alloc (.cells zeros64 4)) W.heap.size (fun _ => false) ∧ RowIs ((W.alloc (.cells zeros64 4)).alloc (.cells zeros64 4)) (W.heap.size + 1) (fun _ => false) := by
  have e : (W.alloc (.cells zeros64 4)).heap.size = W.heap.size + 1 := by simp
  have h2 := row_new (W.alloc (.cells zeros64 4))
  rw [e] at h2
  exact ⟨row_keep (row_new W) (below_box _ _), h2⟩
end Go.Proofs.Ytbljijbmjccalaa
