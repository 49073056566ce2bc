/-
  Proved here: what New of the document's arrays gives. Conditions: as each says.
-/
import Derived.Test.YtijhoiheieighaaArr
import Derived.LoopTactic
import Derived.RegionTactic
import Derived.BigRegion
import Derived.Deep.RegionHeld3
namespace Go.Proofs.Ytijhoiheieighaa
open Go.RowKit

/-- The slices of the first k slots. -/
def rowsOf (gs : Nat → Nat) (s k : Nat) : List Value := (List.range k).map fun j => Value.slice (some ⟨gs j, 0, none⟩) s s
theorem rowsOf_length (gs : Nat → Nat) (s k : Nat) : (rowsOf gs s k).length = k := by simp [rowsOf]
theorem rowsOf_snoc {gs gs' : Nat → Nat} {s k : Nat} (h : ∀ j, j < k → gs' j = gs j) : rowsOf gs' s (k + 1) = rowsOf gs s k ++ [.slice (some ⟨gs' k, 0, none⟩) s s] := by
  unfold rowsOf
  rw [List.range_succ, List.map_append, List.map_singleton]
  congr 1
  exact List.map_congr_left fun j hj => by rw [h j (List.mem_range.1 hj)]
/-- The document's array under way: k slots have been laid. -/
structure NewAt (W wr : World) (R s k : Nat) (v : Value) (gs : Nat → Nat) : Prop where
  box : wr.heap[R]? = some (.cells #[.int .i64 s, v] 68 (0, 0))
  own : wr.ownsRow (R + 1) 36 1 v k (rowsOf gs s k)
  rows : ∀ j, j < k → wr.heap[gs j]? = some (.cells (u8s (zeros s)).toArray 5 (0, 0))
  lo : ∀ j, j < k → R < gs j
  inc : ∀ i j, i < j → j < k → gs i < gs j
  below : Below R W wr
  at_ : W.heap.size ≤ R
theorem NewAt.drew {W wr : World} {R s k : Nat} {v : Value} {gs : Nat → Nat} (h : NewAt W wr R s k v gs) : NewAt W wr.drew R s k v gs :=
  ⟨h.box, h.own, h.rows, h.lo, h.inc, h.below.drew, h.at_⟩
theorem lt_of_heap {w : World} {i : Nat} {o : Obj} (h : w.heap[i]? = some o) : i < w.heap.size := (Array.getElem?_eq_some_iff.1 h).1
theorem NewAt.ltR {W wr : World} {R s k : Nat} {v : Value} {gs : Nat → Nat} (h : NewAt W wr R s k v gs) : R < wr.heap.size := lt_of_heap h.box
theorem NewAt.c0 {W wr : World} {R s k : Nat} {v : Value} {gs : Nat → Nat} (h : NewAt W wr R s k v gs) : wr.cell? ⟨R, 0, none⟩ = some (.int .i64 s) := by simp [World.cell?, h.box]
theorem NewAt.c1 {W wr : World} {R s k : Nat} {v : Value} {gs : Nat → Nat} (h : NewAt W wr R s k v gs) : wr.cell? ⟨R, 1, none⟩ = some v := by simp [World.cell?, h.box]
theorem NewAt.free {W wr : World} {R s k : Nat} {v : Value} {gs : Nat → Nat} (h : NewAt W wr R s k v gs) : wr.frozen? ⟨R, 1, none⟩ = false := by simp [World.frozen?, h.box]

/-- The builtin append, veiled: the walk runs it by a fact of ours. -/
def appendV (ats : Array TypeId) (ty : TypeId) (args : Array Value) : Sem Value := Builtin.append_ ats ty args
theorem append_veil (ats : Array TypeId) (ty : TypeId) (args : Array Value) : Builtin.append_ ats ty args = appendV ats ty args := rfl

theorem own_other {w : World} {base e : Nat} {v : Value} {n : Nat} {xs : List Value} {i : Nat} {c : Array Value} {t : TypeId} (h : w.ownsRow base e 1 v n xs) (hi : w.heap[i]? = some (.cells c t (0, 0))) (hne : t ≠ e) : some i ≠ v.ownBlock := by
  rcases h.2 with ⟨rfl, _⟩ | ⟨g, cap, cur, rfl, hg, hh, -⟩
  · simp [Value.ownBlock]
  · intro he
    simp [Value.ownBlock] at he
    subst he
    rw [hh] at hi
    injection hi with hi
    injection hi with _ h2 _
    exact hne h2.symm

theorem own_shape {w : World} {base e size k : Nat} {v : Value} {xs : List Value} (h : w.ownsRow base e size v (k + 1) xs) : ∃ g cap, v = .slice (some ⟨g, 0, none⟩) (k + 1) cap := by
  rcases h.2 with ⟨_, h0⟩ | ⟨g, cap, cur, hv, -⟩
  · omega
  · exact ⟨g, cap, hv⟩
theorem new_step {W wr : World} {R s k : Nat} {v : Value} {gs : Nat → Nat} (h : NewAt W wr R s k v gs) (hk : k ≤ 15) :
    ∃ B cap W3, (appendV #[66, 66] 66 #[v, .slice (some ⟨wr.heap.size + 1, 0, none⟩) 1 1]).run Try.prog ((wr.alloc (.cells (u8s (zeros s)).toArray 5)).alloc (.cells #[.slice (some ⟨wr.heap.size, 0, none⟩) s s] 36)) = .ok (.slice (some ⟨B, 0, none⟩) (k + 1) cap) W3 ∧
      W3.cell? ⟨R, 1, none⟩ = some v ∧ W3.frozen? ⟨R, 1, none⟩ = false ∧
      NewAt W (W3.setCell ⟨R, 1, none⟩ (.slice (some ⟨B, 0, none⟩) (k + 1) cap)) R s (k + 1) (.slice (some ⟨B, 0, none⟩) (k + 1) cap) (fun j => if j = k then wr.heap.size else gs j) := by
  obtain ⟨i0, hi0, hz0, hz1, hz2⟩ := info_parts sl_info
  have hR := h.ltR
  obtain ⟨W2, hW2⟩ : ∃ W2, (wr.alloc (.cells (u8s (zeros s)).toArray 5)).alloc (.cells #[.slice (some ⟨wr.heap.size, 0, none⟩) s s] 36) = W2 := ⟨_, rfl⟩
  have hsz : W2.heap.size = wr.heap.size + 1 + 1 := by rw [← hW2]; simp
  have hold : ∀ i, i < wr.heap.size → W2.heap[i]? = wr.heap[i]? := fun i hi => by
    rw [← hW2, Below.heap_alloc _ _ _ (by simp; omega), Below.heap_alloc _ _ _ hi]
  have hnew : W2.heap[wr.heap.size]? = some (.cells (u8s (zeros s)).toArray 5 (0, 0)) := by
    rw [← hW2, Below.heap_alloc _ _ _ (by simp)]
    exact heap_alloc_new wr _
  have hbox : W2.heap[R]? = some (.cells #[.int .i64 s, v] 68 (0, 0)) := (hold R hR).trans h.box
  have hown2 : W2.ownsRow (R + 1) 36 1 v k (rowsOf gs s k) := by rw [← hW2]; exact (h.own.alloc _).alloc _
  have hb2 : Below R W W2 := by rw [← hW2]; exact (h.below.alloc (by omega) _).alloc (by simp; omega) _
  obtain ⟨v', W3, hrun, hown, hgr, -, -⟩ := run_append_own_at (P := Try.prog) W2 (R + 1) 66 66 36 i0 _ 1 24 Try.underlying66 hi0 hz0 hz1 hz2 rfl (by omega) v k (rowsOf gs s k) hown2
    ⟨wr.heap.size + 1, 0, none⟩ 1 1 [.slice (some ⟨wr.heap.size, 0, none⟩) s s] rfl
    (fun j u hu => by
      have e := cell_one_new (wr.alloc (.cells (u8s (zeros s)).toArray 5)) (.slice (some ⟨wr.heap.size, 0, none⟩) s s) 36 j u hu
      rw [hW2] at e
      simpa using e) (fun u hu => by simp at hu; subst hu; rfl) (by unfold maxLen; omega) (by omega) (by omega)
  obtain ⟨B, cap, rfl⟩ := own_shape hown
  have hb3 : W3.heap[R]? = some (.cells #[.int .i64 s, v] 68 (0, 0)) := (hgr.block R (by omega) (own_other hown2 hbox (by decide))).trans hbox
  have hrow3 : ∀ i, i < W2.heap.size → W2.heap[i]? = some (.cells (u8s (zeros s)).toArray 5 (0, 0)) → W3.heap[i]? = some (.cells (u8s (zeros s)).toArray 5 (0, 0)) := fun i hi he => (hgr.block i hi (own_other hown2 he (by decide))).trans he
  have hlo := h.lo
  have hlt : ∀ j, j < k → gs j < wr.heap.size := fun j hj => lt_of_heap (h.rows j hj)
  refine ⟨B, cap, W3, by rw [hW2]; exact hrun, by simp [World.cell?, hb3], by simp [World.frozen?, hb3], ?_, ?_, fun j hj => ?_, fun j hj => ?_, fun i j hij hj => ?_, ?_, h.at_⟩
  · simp [World.setCell, Array.getElem?_modify, hb3]
  · have e : rowsOf (fun j => if j = k then wr.heap.size else gs j) s (k + 1) = rowsOf gs s k ++ [.slice (some ⟨wr.heap.size, 0, none⟩) s s] := by
      rw [rowsOf_snoc (gs := gs) (fun j hj => by simp; omega)]
      simp
    rw [e]
    exact ownsRow_setCell_below hown (by simp) _
  · by_cases e : j = k
    · subst e
      rw [if_pos rfl, Below.heap_setCell _ _ _ _ (by simp; omega)]
      exact hrow3 _ (by omega) hnew
    · rw [if_neg e]
      have := hlo j (by omega)
      have := hlt j (by omega)
      rw [Below.heap_setCell _ _ _ _ (by simp; omega)]
      exact hrow3 _ (by omega) ((hold _ (by omega)).trans (h.rows j (by omega)))
  · by_cases e : j = k
    · simp only [if_pos e]; exact hR
    · simp only [if_neg e]; exact hlo j (by omega)
  · by_cases e : j = k
    · subst e
      rw [if_neg (by omega), if_pos rfl]
      exact hlt i hij
    · rw [if_neg (by omega), if_neg e]
      exact h.inc i j hij (by omega)
  · exact (hb2.grown hgr (by omega) (fun b hb => by
      have := (hown2.lt b hb).1; omega)).setCell (by simp) _
theorem new_drawn {W wr : World} {R s k : Nat} {v : Value} {gs : Nat → Nat} (h : NewAt W wr R s k v gs) (hk : k ≤ 15) :
    ∃ B cap W3, (appendV #[66, 66] 66 #[v, .slice (some ⟨wr.heap.size + 1, 0, none⟩) 1 1]).run Try.prog ((wr.alloc (.cells (u8s (zeros s)).toArray 5)).alloc (.cells #[.slice (some ⟨wr.heap.size, 0, none⟩) s s] 36)).drew = .ok (.slice (some ⟨B, 0, none⟩) (k + 1) cap) W3 ∧
      W3.cell? ⟨R, 1, none⟩ = some v ∧ W3.frozen? ⟨R, 1, none⟩ = false ∧
      NewAt W (W3.setCell ⟨R, 1, none⟩ (.slice (some ⟨B, 0, none⟩) (k + 1) cap)) R s (k + 1) (.slice (some ⟨B, 0, none⟩) (k + 1) cap) (fun j => if j = k then wr.heap.size else gs j) := new_step h.drew hk
theorem make_any (s : Nat) (h : s ≤ 1000) : ∀ w : World, (Instr.makeSlice 36 (.int .i64 s) (.int .i64 s)).run Try.prog w = .ok (.slice (some ⟨w.heap.size, 0, none⟩) s s) (w.alloc (.cells (u8s (zeros s)).toArray 5)) := fun w => make_u8 w s h
/-- What New of the document gives, ahead of the loop's end. -/
def GaveNew (W : World) (s n : Nat) (e : Ending) (w : World) : Prop := ∃ R v gs, e = .returned (.pointer (some ⟨R, 0, none⟩)) ∧ NewAt W w R s n v gs
attribute [local go_sem ↓] append_veil
set_option maxHeartbeats 400000 in
theorem ref_new (s n : Nat) (w : World) (hs : s ≤ 32) (hn : n ≤ 16) : Calls Try.prog 21 #[.int .i64 s, .int .i64 n] w (GaveNew w s n) := by
  have hmk := make_any s (by omega)
  have h0 : NewAt w (w.alloc (.cells #[.int .i64 s, .slice none 0 0] 68)) w.heap.size s 0 (.slice none 0 0) (fun _ => 0) :=
    ⟨heap_alloc_new w _, World.ownsRow_nil _ _ _ _, fun j hj => by omega, fun j hj => by omega, fun i j _ hj => by omega, (Below.refl _ _).alloc (Nat.le_refl _) _, Nat.le_refl _⟩
  go_enter Try.func21, Try.ntmps21
  go_wp2
  go_loopw [6] (fun i wr => ∃ k v gs, k ≤ n ∧ i = .int .i64 k ∧ NewAt w wr w.heap.size s k v gs) (fun i _ => n - (intOf i).toNat)
  case atStart => exact ⟨0, _, _, by omega, rfl, h0⟩
  case round =>
    obtain ⟨k, v, gs, hk, rfl, hN⟩ := hrel
    by_cases hlt : k < n
    · have hd := hN.drew
      have hc1 := hd.c1
      obtain ⟨B, cap, W3, hrun, hc3, hf3, hN3⟩ := new_drawn hN (by omega)
      have hR := hN.ltR
      have hc1 := hN.c1
      have hca : (wr.alloc (.cells (u8s (zeros s)).toArray 5)).cell? ⟨w.heap.size, 1, none⟩ = some v := by rw [World.cell?_alloc_lt _ _ _ hR]; exact hc1
      have hcb : ((wr.alloc (.cells (u8s (zeros s)).toArray 5)).alloc (.cells #[.slice (some ⟨wr.heap.size, 0, none⟩) s s] 36)).cell? ⟨w.heap.size, 1, none⟩ = some v := by rw [World.cell?_alloc_lt _ _ _ (by simp; omega)]; exact hca
      have H0 := Lib.hid h0
      have HN := Lib.hid hN3
      clear h0 hN hN3 hR
      go_wp2
      go_region
      go_wp2
      go_roundw
      case rel => exact ⟨k + 1, _, _, by omega, by go_num, HN.out⟩
      case measure => simp [intOf]; omega
    · obtain rfl : k = n := by omega
      have HN := Lib.hid hN
      clear h0 hN
      go_wp2
      go_ret
      exact ⟨_, _, _, rfl, HN.out⟩
end Go.Proofs.Ytijhoiheieighaa
