/-
  Proved here: what Of of package hooks gives. Conditions: none.
-/
import Derived.Test.YtcdpmggjdmibjaaAll
namespace Go.Proofs.Ytcdpmggjdmibjaa
open Go.RowKit

theorem index_hook (b : Nat) (w : World) (k : Nat) (h1 : 1 ≤ k) (h2 : k ≤ 16) : (Instr.index 73 (.agg (hookCells b).toArray) (.int .i64 k)).run Try.prog w = .ok (.agg #[.string (nameB k), .slice (some ⟨b + k, 0, none⟩) (kindL k).length (kindL k).length, .int .u64 (mostI k)]) w := match k, h1, h2 with
  | 1, _, _ => by kernel_rfl
  | 2, _, _ => by kernel_rfl
  | 3, _, _ => by kernel_rfl
  | 4, _, _ => by kernel_rfl
  | 5, _, _ => by kernel_rfl
  | 6, _, _ => by kernel_rfl
  | 7, _, _ => by kernel_rfl
  | 8, _, _ => by kernel_rfl
  | 9, _, _ => by kernel_rfl
  | 10, _, _ => by kernel_rfl
  | 11, _, _ => by kernel_rfl
  | 12, _, _ => by kernel_rfl
  | 13, _, _ => by kernel_rfl
  | 14, _, _ => by kernel_rfl
  | 15, _, _ => by kernel_rfl
  | 16, _, _ => by kernel_rfl
  | n + 17, _, h => absurd h (by omega)
/-- What Of gives of a hook that there is. -/
def GaveHook (k : Nat) (w : World) (e : Ending) (w' : World) : Prop := ∃ p : Nat, e = .returned (.tuple #[.agg #[.string (nameB k), .slice (some ⟨p, 0, none⟩) (kindL k).length (kindL k).length, .int .u64 (mostI k)], .bool true]) ∧
  w.heap.size ≤ p ∧ w'.heap[p]? = some (.cells (u8s (kindL k)).toArray 5 (0, 0)) ∧ Below w.heap.size w w'
def Tells (v : Value) (W : World) (e : Ending) (w : World) : Prop := e = .returned v ∧ Below W.heap.size W w
/-- A box that was made ahead of what followed. -/
theorem boxed {w w' : World} {cs : Array Value} {T : TypeId} (hb : Below (w.alloc (.cells cs T)).heap.size (w.alloc (.cells cs T)) w') : (∀ j, w'.cell? ⟨w.heap.size, j, none⟩ = cs[j]?) ∧ (∀ j, w'.frozen? ⟨w.heap.size, j, none⟩ = false) := by
  have hh : w'.heap[w.heap.size]? = some (.cells cs T (0, 0)) := (hb.block w.heap.size (by simp)).trans (heap_alloc_new w _)
  exact ⟨fun j => by simp [World.cell?, hh], fun j => by simp [World.frozen?, hh]⟩
theorem below_box {w w' : World} {o : Obj} (hb : Below (w.alloc o).heap.size (w.alloc o) w') : Below w.heap.size w w' := ((Below.refl _ _).alloc (Nat.le_refl _) _).trans (hb.mono (by simp))
theorem of_yes (k : Nat) (w : World) (h1 : 1 ≤ k) (h2 : k ≤ 16) : Calls Try.prog 21 #[.int .i64 k] w (GaveHook k w) := by
  have hix := fun b w => index_hook b w k h1 h2
  go_enter Try.func21, Try.ntmps21
  go_wp2_with (go_at_call 37; refine (all_call _).mono ?_; rintro e w' ⟨rfl, hb⟩; obtain ⟨hc, hf⟩ := boxed hb.below; have HB := Lib.hid hb; clear hb)
  have hb := HB.out
  have hr := hb.row (k - 1) (by omega)
  rw [show k - 1 + 1 = k by omega] at hr
  clear hix
  refine bodyPost_ret (v := .tuple #[.agg #[.string (nameB k), .slice (some ⟨w.heap.size + 1 + k, 0, none⟩) (kindL k).length (kindL k).length, .int .u64 (mostI k)], .bool true]) (by simp [results, Try.results21, go_sem, hc]) rfl ⟨_, rfl, by omega, ?_, ?_⟩
  · rw [Below.heap_setCell _ _ _ _ (by simp; omega), Below.heap_setCell _ _ _ _ (by simp; omega), Below.heap_setCell _ _ _ _ (by simp; omega)]
    simpa using hr
  · exact (((below_box hb.below).setCell (by simp) _).setCell (by simp) _).setCell (by simp) _
theorem of_no (k : Int) (w : World) (h : ¬ (1 ≤ k ∧ k ≤ 16)) : Calls Try.prog 21 #[.int .i64 k] w (Tells (.tuple #[.agg #[.string { data := #[] }, .slice none 0 0, .int .u64 0], .bool false]) w) := by
  by_cases h1 : k < 1
  · go_enter Try.func21, Try.ntmps21
    go_wp2
    exact bodyPost_ret (v := .tuple #[.agg #[.string { data := #[] }, .slice none 0 0, .int .u64 0], .bool false]) (by simp [results, Try.results21, go_sem]) rfl ⟨rfl, (Below.refl _ _).alloc (Nat.le_refl _) _⟩
  · have h2 : 16 < k := by omega
    go_enter Try.func21, Try.ntmps21
    go_wp2
    exact bodyPost_ret (v := .tuple #[.agg #[.string { data := #[] }, .slice none 0 0, .int .u64 0], .bool false]) (by simp [results, Try.results21, go_sem]) rfl ⟨rfl, (Below.refl _ _).alloc (Nat.le_refl _) _⟩
end Go.Proofs.Ytcdpmggjdmibjaa
