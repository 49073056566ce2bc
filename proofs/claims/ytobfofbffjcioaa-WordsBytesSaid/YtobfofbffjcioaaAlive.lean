/-
  Proved here: the document's examples hold ('alive' returns true and turns nothing that was there). Conditions: none.
-/
import Derived.Test.YtobfofbffjcioaaMem
import Derived.RowKit3
namespace Go.Proofs.Ytobfofbffjcioaa
open Go.RowKit
theorem store_258 (w : World) : Calls Try.prog 16 #[.slice (some ⟨w.heap.size, 0, none⟩) 2 2, .int .i64 0, .int .i64 2, .int .u64 258] (w.alloc (.cells #[.int .u8 0, .int .u8 0] 5))
    (Ret (.bool true) (w.alloc (.cells #[.int .u8 2, .int .u8 1] 5))) := by
  have h := store_yes w.heap.size 0 2 2 0 2 258 [0, 0] (w.alloc (.cells #[.int .u8 0, .int .u8 0] 5)) (by decide) (by decide)
    (fun j hj => by
      rcases (by omega : j = 0 ∨ j = 1) with rfl | rfl <;> simp [go_sem])
    (fun j hj => by simp [go_sem])
  have e : (w.alloc (.cells #[.int .u8 0, .int .u8 0] 5)).setCells w.heap.size (0 + 0) (u8s (bsL 258 2)) = w.alloc (.cells #[.int .u8 2, .int .u8 1] 5) := by
    simp [bsL, u8s, World.setCells, go_sem]
  rw [e] at h
  exact h
theorem alive (w : World) : Calls Try.prog 6 #[] w fun e w' => e = .returned (.bool true) ∧ Below w.heap.size w w' ∧ Grown w w' := by
  have hmk : ∀ w : World, (Instr.makeSlice 28 (.int .i64 2) (.int .i64 2)).run Try.prog w = .ok (.slice (some ⟨w.heap.size, 0, none⟩) 2 2) (w.alloc (.cells #[.int .u8 0, .int .u8 0] 5)) := fun _ => by kernel_rfl
  go_enter Try.func6, Try.ntmps6
  go_wp2_with (first
    | (go_at_call 16; refine (store_258 _).mono ?_; rintro e w' ⟨rfl, rfl⟩)
    | (go_at_call 9; refine (zext_words _ _ _ (by omega) (by omega)).mono ?_; rintro e w' ⟨rfl, rfl⟩)
    | (go_at_call 11; refine (sext_words _ _ _ (by omega) (by omega)).mono ?_; rintro e w' ⟨rfl, rfl⟩)
    | (go_at_call 13; refine (low_words _ _).mono ?_; rintro e w' ⟨rfl, rfl⟩))
  go_ret
  exact ⟨rfl, (Below.refl _ _).alloc (Nat.le_refl _) _, (Grown.refl _).alloc _ _⟩
end Go.Proofs.Ytobfofbffjcioaa
