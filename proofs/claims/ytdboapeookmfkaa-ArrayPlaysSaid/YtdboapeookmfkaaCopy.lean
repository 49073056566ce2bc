/-
  Proved here: what Copy of package array gives. Conditions: as each says.
-/
import Derived.Test.YtdboapeookmfkaaArr
import Derived.Deep.RegionHeld3
namespace Go.Proofs.Ytdboapeookmfkaa
open Go.RowKit

/-- What Copy gives: an array of its own, with the same bytes. -/
def GaveCopy (W : World) (s n L : Nat) (zs : List Int) (e : Ending) (w : World) : Prop :=
  ∃ A G C, e = .returned (.pointer (some ⟨A, 0, none⟩)) ∧ Below W.heap.size W w ∧ W.heap.size ≤ A ∧ W.heap.size ≤ G ∧ Arr w A G s n L C zs
theorem arr_copy (A G s n L C : Nat) (zs : List Int) (w : World) (h0 : 0 < L) (hl : L ≤ 1000) (h : Arr w A G s n L C zs) : Calls Try.prog 8 #[.pointer (some ⟨A, 0, none⟩)] w (GaveCopy w s n L zs) := by
  have hd : Arr w.drew A G s n L C zs := h.stay (Below.refl _ _).drew
  go_enter Try.func8, Try.ntmps8
  go_wp2
  go_region_held3 (fun W => W.cell? ⟨A, 0, none⟩ = some (.int .i64 s) ∧ W.cell? ⟨A, 1, none⟩ = some (.int .i64 n))
    (first | exact ⟨(hd1.stay ((Below.refl _ _).alloc (Nat.le_refl _) _)).c0, (hd1.stay ((Below.refl _ _).alloc (Nat.le_refl _) _)).c1⟩ | exact ⟨hd1.c0, hd1.c1⟩ | exact ⟨hd.c0, hd.c1⟩)
    ((go_at_call 9; refine (arr_bytes _ _ _ _ _ _ zs _ h0 hl hd).mono ?_; rintro e w1 ⟨g1, cap1, rfl, hf⟩; have hd1 := hd.stay hf.below))
  go_wp2
  have hg1 : g1 < w1.heap.size := cell_block_lt (hf.row 0 h0)
  have hb : Below w.heap.size w w1 := ((Below.refl _ _).drew).trans hf.below
  have hsz := hb.size
  go_ret
  refine ⟨_, _, cap1, rfl, hb.alloc hb.size _, hb.size, hf.at_, ?_, ?_, ?_, fun j hj => ?_, fun j => ?_, h.len, by omega, by simp; omega⟩
  · simp [go_sem]
  · simp [go_sem]
  · simp [go_sem]
  · rw [World.cell?_alloc_lt _ _ _ hg1]
    exact hf.row j hj
  · rw [frozen?_alloc_cells]
    exact hf.free j
end Go.Proofs.Ytdboapeookmfkaa
