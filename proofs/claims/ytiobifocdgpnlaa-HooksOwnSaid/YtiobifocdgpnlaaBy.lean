/-
  Proved here: what By of package hooks gives. Conditions: the name is a string.
-/
import Derived.Test.YtiobifocdgpnlaaFirst
import Derived.Deep.WholeRow
namespace Go.Proofs.Ytiobifocdgpnlaa
open Go.RowKit

def isName (name : ByteArray) (i : Nat) : Bool := (nameB i).toList == name.toList
theorem by_clos (name : ByteArray) (i : Nat) (g h : Nat) (w : World) (hi : i < 17) (hc : w.cell? ⟨g, i * 3, none⟩ = some (.string (nameB i))) (hn : w.cell? ⟨h, 0, none⟩ = some (.string name)) :
    Calls Try.prog 18 #[.int .i64 i, .pointer (some ⟨g, 0, none⟩), .pointer (some ⟨h, 0, none⟩)] w fun e w' => e = .returned (.bool (isName name i)) ∧ Below w.heap.size w w' := by
  obtain ⟨b, hb⟩ : ∃ b, isName name i = b := ⟨_, rfl⟩
  have hb2 := hb
  unfold isName at hb2
  rw [hb]
  go_enter Try.func18, Try.ntmps18
  go_wp2
  go_quiet (fail)
  go_wp2
  go_ret
  exact ⟨rfl, below_drewN _ _⟩
/-- The number of a name: that of the first place that has it; 0 without one. -/
def byN (name : ByteArray) : Nat := ((List.range 17).find? (isName name)).getD 0
theorem put_hooks (b : Nat) (W : World) : (storeCells ⟨W.heap.size, 0, none⟩ (hookCells b)).run Try.prog (W.alloc (.cells #[.string { data := #[] }, .slice none 0 0, .int .u64 0, .string { data := #[] }, .slice none 0 0, .int .u64 0, .string { data := #[] }, .slice none 0 0, .int .u64 0, .string { data := #[] }, .slice none 0 0, .int .u64 0, .string { data := #[] }, .slice none 0 0, .int .u64 0, .string { data := #[] }, .slice none 0 0, .int .u64 0, .string { data := #[] }, .slice none 0 0, .int .u64 0, .string { data := #[] }, .slice none 0 0, .int .u64 0, .string { data := #[] }, .slice none 0 0, .int .u64 0, .string { data := #[] }, .slice none 0 0, .int .u64 0, .string { data := #[] }, .slice none 0 0, .int .u64 0, .string { data := #[] }, .slice none 0 0, .int .u64 0, .string { data := #[] }, .slice none 0 0, .int .u64 0, .string { data := #[] }, .slice none 0 0, .int .u64 0, .string { data := #[] }, .slice none 0 0, .int .u64 0, .string { data := #[] }, .slice none 0 0, .int .u64 0, .string { data := #[] }, .slice none 0 0, .int .u64 0] 44)) = .ok () (W.alloc (.cells (hookCells b).toArray 44)) :=
  run_storeCells_new W 44 _ (hookCells b).toArray (by kernel_rfl) (by kernel_rfl) (by kernel_rfl)
theorem hook_name (b i : Nat) (h : i < 17) : (hookCells b)[i * 3]? = some (.string (nameB i)) := match i, h with
  | 0, _ => by kernel_rfl
  | 1, _ => by kernel_rfl
  | 2, _ => by kernel_rfl
  | 3, _ => by kernel_rfl
  | 4, _ => by kernel_rfl
  | 5, _ => by kernel_rfl
  | 6, _ => by kernel_rfl
  | 7, _ => by kernel_rfl
  | 8, _ => by kernel_rfl
  | 9, _ => by kernel_rfl
  | 10, _ => by kernel_rfl
  | 11, _ => by kernel_rfl
  | 12, _ => by kernel_rfl
  | 13, _ => by kernel_rfl
  | 14, _ => by kernel_rfl
  | 15, _ => by kernel_rfl
  | 16, _ => by kernel_rfl
  | n + 17, h => absurd h (by omega)
theorem by_says (name : ByteArray) (g h : Nat) (w : World) (b : Nat) (hg : w.heap[g]? = some (.cells (hookCells b).toArray 44 (0, 0))) (hh : w.cell? ⟨h, 0, none⟩ = some (.string name)) :
    Says (isName name) 17 18 ⟨g, 0, none⟩ ⟨h, 0, none⟩ w := by
  intro i w1 hi hb
  have hgl : g < w.heap.size := (Array.getElem?_eq_some_iff.1 hg).1
  have hhl : h < w.heap.size := World.block_lt_of_cell? w _ hh
  refine by_clos name i g h w1 hi ?_ ((hb.cell (p := ⟨h, 0, none⟩) hhl).trans hh)
  rw [cell_of_row _ _ _ _ _ _ ((hb.block g hgl).trans hg)]
  simpa using hook_name b i hi
theorem first_fst (p : Nat → Bool) (n : Nat) : ∃ b, firstV p n = .tuple #[.int .i64 (((List.range n).find? p).getD 0 : Nat), .bool b] := by
  unfold firstV
  split
  · rename_i i h; rw [h]; exact ⟨_, rfl⟩
  · rename_i h; rw [h]; exact ⟨_, rfl⟩
theorem by_call (name : ByteArray) (w : World) : Calls Try.prog 13 #[.string name] w (Tells (.int .i64 (byN name)) w) := by
  have hput := put_hooks
  obtain ⟨fb, hfb⟩ := first_fst (isName name) 17
  have hby : ((List.range 17).find? (isName name)).getD 0 = byN name := rfl
  rw [hby] at hfb
  generalize byN name = r at hfb ⊢
  clear hby
  have HF := Lib.hid hfb
  clear hfb
  go_enter Try.func13, Try.ntmps13
  go_wp2_with ((go_at_call 16; refine (all_call _).mono ?_; rintro e w' ⟨rfl, hb⟩; obtain ⟨hc, hf⟩ := boxed hb.below; have HB := Lib.hid hb; clear hb))
  have hs := by_says name w'.heap.size w.heap.size (w'.alloc (.cells (hookCells (w.heap.size + 1)).toArray 44)) (w.heap.size + 1) (heap_alloc_new _ _) (by rw [World.cell?_alloc_lt _ _ _ (by have := HB.out.size; simp at this; simp; omega)]; exact hc 0)
  refine (first_by (isName name) 17 _ _ _ hs (by omega)).mono ?_
  rintro e w2 ⟨rfl, hb2⟩
  have HB2 := Lib.hid hb2
  clear hb2 hs
  rw [HF.out]
  go_wp2
  go_ret
  exact ⟨rfl, ((below_box HB.out.below).trans ((Below.refl _ _).alloc (by have := HB.out.size; simp at this; omega) _)).trans (HB2.out.mono (by have := HB.out.size; simp at this; simp; omega))⟩
end Go.Proofs.Ytiobifocdgpnlaa
