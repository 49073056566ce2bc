/-
  Proved here: what Field of package hooks gives, and the document's Fields. Conditions: as each says.
-/
import Derived.Test.YtiobifocdgpnlaaKind
namespace Go.Proofs.Ytiobifocdgpnlaa
open Go.RowKit

/-- The names of the fields of a type's objects. -/
def fldL : Nat → List ByteArray
  | 1 => [{ data := #[112, 105, 100] }, { data := #[112, 112, 105, 100] }, { data := #[117, 105, 100] }, { data := #[103, 105, 100] }, { data := #[101, 120, 101] }, { data := #[103, 101, 110] }, { data := #[116, 114, 97, 99, 101, 114] }, { data := #[102, 105, 108, 101, 115] }]
  | 2 => [{ data := #[105, 110, 111] }, { data := #[107, 105, 110, 100] }, { data := #[109, 111, 100, 101] }, { data := #[117, 105, 100] }, { data := #[103, 105, 100] }, { data := #[108, 105, 110, 107, 115] }, { data := #[115, 105, 122, 101] }, { data := #[103, 101, 110] }]
  | _ => []
def fldB (t j : Nat) : ByteArray := (fldL t).getD j { data := #[] }
def fldCells (t : Nat) : List Value := (List.range 8).map fun j => .string (fldB t j)
theorem fld_cell (t : Nat) (w : World) (j : Nat) (h : j < 8) : (w.alloc (.cells (fldCells t).toArray 9)).cell? ⟨w.heap.size, j, none⟩ = some (.string (fldB t j)) := by
  rw [cell_of_row _ _ _ _ _ _ (heap_alloc_new _ _)]
  simp [fldCells, h]
def GaveStrs (t : Nat) (w : World) (e : Ending) (w' : World) : Prop := ∃ g : Nat, e = .returned (.slice (some ⟨g, 0, none⟩) 8 8) ∧ w.heap.size ≤ g ∧ g < w'.heap.size ∧ Below w.heap.size w w' ∧ ∀ j, j < 8 → w'.cell? ⟨g, j, none⟩ = some (.string (fldB t j))
theorem fields_yes (t : Nat) (w : World) (ht : t = 1 ∨ t = 2) : Calls Try.prog 19 #[.int .i64 t] w (GaveStrs t w) := by
  rcases ht with rfl | rfl
  · go_enter Try.func19, Try.ntmps19
    go_wp2
    go_ret
    exact ⟨w.heap.size, rfl, Nat.le_refl _, by simp, (Below.refl _ _).alloc (Nat.le_refl _) _, fun j hj => (congrArg (fun o => (w.alloc o).cell? ⟨w.heap.size, j, none⟩) (show Obj.cells _ 9 (0, 0) = .cells (fldCells 1).toArray 9 (0, 0) by kernel_rfl)).trans (fld_cell 1 w j hj)⟩
  · go_enter Try.func19, Try.ntmps19
    go_wp2
    go_ret
    exact ⟨w.heap.size, rfl, Nat.le_refl _, by simp, (Below.refl _ _).alloc (Nat.le_refl _) _, fun j hj => (congrArg (fun o => (w.alloc o).cell? ⟨w.heap.size, j, none⟩) (show Obj.cells _ 9 (0, 0) = .cells (fldCells 2).toArray 9 (0, 0) by kernel_rfl)).trans (fld_cell 2 w j hj)⟩
theorem fields_no (t : Int) (w : World) (ht : ¬ (t = 1 ∨ t = 2)) : Calls Try.prog 19 #[.int .i64 t] w (Ret (.slice none 0 0) w) := by
  unfold Ret
  have t1 : (t == 1) = false := by simp; omega
  have t2 : (t == 2) = false := by simp; omega
  clear ht
  go_enter Try.func19, Try.ntmps19
  go_wp2
  go_ret
  exact ⟨rfl, rfl⟩
theorem refs_yes (t : Nat) (w : World) (ht : t = 1 ∨ t = 2) : Calls Try.prog 15 #[.int .i64 t] w (GaveStrs t w) := by
  rcases ht with rfl | rfl
  · go_enter Try.func15, Try.ntmps15
    go_wp2
    go_ret
    exact ⟨w.heap.size, rfl, Nat.le_refl _, by simp, (Below.refl _ _).alloc (Nat.le_refl _) _, fun j hj => (congrArg (fun o => (w.alloc o).cell? ⟨w.heap.size, j, none⟩) (show Obj.cells _ 9 (0, 0) = .cells (fldCells 1).toArray 9 (0, 0) by kernel_rfl)).trans (fld_cell 1 w j hj)⟩
  · go_enter Try.func15, Try.ntmps15
    go_wp2
    go_ret
    exact ⟨w.heap.size, rfl, Nat.le_refl _, by simp, (Below.refl _ _).alloc (Nat.le_refl _) _, fun j hj => (congrArg (fun o => (w.alloc o).cell? ⟨w.heap.size, j, none⟩) (show Obj.cells _ 9 (0, 0) = .cells (fldCells 2).toArray 9 (0, 0) by kernel_rfl)).trans (fld_cell 2 w j hj)⟩
theorem refs_no (t : Int) (w : World) (ht : ¬ (t = 1 ∨ t = 2)) : Calls Try.prog 15 #[.int .i64 t] w (Ret (.slice none 0 0) w) := by
  unfold Ret
  have t1 : (t == 1) = false := by simp; omega
  have t2 : (t == 2) = false := by simp; omega
  clear ht
  go_enter Try.func15, Try.ntmps15
  go_wp2
  go_ret
  exact ⟨rfl, rfl⟩

def isFld (t : Nat) (name : ByteArray) (j : Nat) : Bool := (fldB t j).toList == name.toList
theorem fld_clos (t : Nat) (name : ByteArray) (j : Nat) (g h G : Nat) (w : World) (hj : j < 8) (hg : w.cell? ⟨g, 0, none⟩ = some (.slice (some ⟨G, 0, none⟩) 8 8)) (hc : w.cell? ⟨G, j, none⟩ = some (.string (fldB t j))) (hn : w.cell? ⟨h, 0, none⟩ = some (.string name)) :
    Calls Try.prog 20 #[.int .i64 j, .pointer (some ⟨g, 0, none⟩), .pointer (some ⟨h, 0, none⟩)] w fun e w' => e = .returned (.bool (isFld t name j)) ∧ Below w.heap.size w w' := by
  obtain ⟨b, hb⟩ : ∃ b, isFld t name j = b := ⟨_, rfl⟩
  have hb2 := hb
  unfold isFld at hb2
  rw [hb]
  go_enter Try.func20, Try.ntmps20
  go_wp2
  go_quiet (fail)
  go_wp2
  go_ret
  exact ⟨rfl, below_drewN _ _⟩
theorem fld_says (t : Nat) (name : ByteArray) (g h G : Nat) (w : World) (hg : w.cell? ⟨g, 0, none⟩ = some (.slice (some ⟨G, 0, none⟩) 8 8)) (hG : G < w.heap.size) (hc : ∀ j, j < 8 → w.cell? ⟨G, j, none⟩ = some (.string (fldB t j))) (hh : w.cell? ⟨h, 0, none⟩ = some (.string name)) :
    Says (isFld t name) 8 20 ⟨g, 0, none⟩ ⟨h, 0, none⟩ w := by
  intro i w1 hi hb
  exact fld_clos t name i g h G w1 hi ((hb.cell (p := ⟨g, 0, none⟩) (World.block_lt_of_cell? w _ hg)).trans hg) ((hb.cell (p := ⟨G, i, none⟩) hG).trans (hc i hi)) ((hb.cell (p := ⟨h, 0, none⟩) (World.block_lt_of_cell? w _ hh)).trans hh)
theorem first_is (p : Nat → Bool) (n : Nat) : firstV p n = .tuple #[.int .i64 (((List.range n).find? p).getD 0 : Nat), .bool ((List.range n).find? p).isSome] := by
  unfold firstV
  split
  · rename_i i h; rw [h]; rfl
  · rename_i h; rw [h]; rfl
theorem find_le (p : Nat → Bool) (n : Nat) : ((List.range n).find? p).getD 0 ≤ n := by
  cases h : (List.range n).find? p with
  | none => exact Nat.zero_le _
  | some i => have := List.mem_of_find?_eq_some h; simp at this; simpa using Nat.le_of_lt this
/-- The place of a field, and whether there is such. -/
def fldI (t : Nat) (name : ByteArray) : Nat := ((List.range 8).find? (isFld t name)).getD 0
def fldIs (t : Nat) (name : ByteArray) : Bool := ((List.range 8).find? (isFld t name)).isSome
theorem field_yes (t : Nat) (name : ByteArray) (w : World) (ht : t = 1 ∨ t = 2) : Calls Try.prog 14 #[.int .i64 t, .string name] w (Tells (.tuple #[.int .i64 (fldI t name * 8), .bool (fldIs t name)]) w) := by
  have hf := first_is (isFld t name) 8
  have hr8 : fldI t name ≤ 8 := find_le _ _
  change firstV _ _ = .tuple #[.int .i64 (fldI t name), .bool (fldIs t name)] at hf
  generalize fldI t name = r at *
  generalize fldIs t name = b at *
  have HF := Lib.hid hf
  clear hf
  have HT := Lib.hid ht
  clear ht
  go_enter Try.func14, Try.ntmps14
  go_wp2_with (go_at_call 19; refine (fields_yes t _ HT.out).mono ?_; rintro e w' ⟨G, rfl, hG, hGl, hb, hc⟩; obtain ⟨hn, hfz⟩ := boxed hb; have HB := Lib.hid hb; have HC := Lib.hid hc; clear hb hc)
  have hsz : w.heap.size < w'.heap.size := by have := HB.out.size; simp at this; omega
  have hs := fld_says t name w'.heap.size w.heap.size G (w'.alloc (.cells #[.slice (some ⟨G, 0, none⟩) 8 8] 40)) (by simp [World.cell?_alloc_new]) (by simp; omega) (fun j hj => (World.cell?_alloc_lt _ _ _ hGl).trans (HC.out j hj)) (by rw [World.cell?_alloc_lt _ _ _ (by simp; omega)]; exact hn 0)
  refine (first_field (isFld t name) 8 _ _ _ hs (by omega)).mono ?_
  rintro e w2 ⟨rfl, hb2⟩
  have HB2 := Lib.hid hb2
  clear hb2 hs
  rw [HF.out]
  go_wp2
  go_ret2
  exact ⟨rfl, ((below_box HB.out).trans ((Below.refl _ _).alloc (by omega) _)).trans (HB2.out.mono (by simp; omega))⟩
theorem field_no (t : Int) (name : ByteArray) (w : World) (ht : ¬ (t = 1 ∨ t = 2)) : Calls Try.prog 14 #[.int .i64 t, .string name] w (Tells (.tuple #[.int .i64 0, .bool false]) w) := by
  have HT := Lib.hid ht
  clear ht
  go_enter Try.func14, Try.ntmps14
  go_wp2_with (go_at_call 19; refine (fields_no t _ HT.out).mono ?_; rintro e w' ⟨rfl, rfl⟩)
  have hs : Says (fun _ => true) 0 20 ⟨w.heap.size + 1, 0, none⟩ ⟨w.heap.size, 0, none⟩ ((w.alloc (.cells #[.string name] 9)).alloc (.cells #[.slice none 0 0] 40)) := fun i _ hi => absurd hi (Nat.not_lt_zero _)
  refine (first_field (fun _ => true) 0 _ _ _ hs (by omega)).mono ?_
  rintro e w2 ⟨rfl, hb2⟩
  have HB2 := Lib.hid hb2
  clear hb2 hs
  rw [first_none (fun j hj => absurd hj (Nat.not_lt_zero _))]
  go_wp2
  go_ret2
  exact ⟨rfl, (((Below.refl _ _).alloc (Nat.le_refl _) _).alloc (by simp) _).trans (HB2.out.mono (by simp; omega))⟩
end Go.Proofs.Ytiobifocdgpnlaa
