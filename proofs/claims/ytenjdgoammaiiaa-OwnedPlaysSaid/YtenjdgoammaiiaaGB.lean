/-
  Proved here: what New of the document's arrays gives. Conditions: as each says.
-/
import Derived.Test.YtenjdgoammaiiaaGA
import Derived.LoopTactic
import Derived.RegionTactic
import Derived.BigRegion
import Derived.Deep.RegionHeld3
namespace Go.Proofs.Ytenjdgoammaiiaa
open Go.RowKit
set_option maxRecDepth 100000

/-- The slices of the first k slots. -/
def rowsOf (gs : Nat → Nat) (s k : Nat) : List Value := (List.range k).map fun j => Value.slice (some ⟨gs j, 0, none⟩) s s
theorem rowsOf_length (gs : Nat → Nat) (s k : Nat) : (rowsOf gs s k).length = k := by simp [rowsOf]
theorem rowsOf_snoc {gs gs' : Nat → Nat} {s k : Nat} (h : ∀ j, j < k → gs' j = gs j) : rowsOf gs' s (k + 1) = rowsOf gs s k ++ [.slice (some ⟨gs' k, 0, none⟩) s s] := by
  unfold rowsOf
  rw [List.range_succ, List.map_append, List.map_singleton]
  congr 1
  exact List.map_congr_left fun j hj => by rw [h j (List.mem_range.1 hj)]
/-- The document's array under way: k slots have been laid. -/
structure NewAt (W wr : World) (R s k : Nat) (v : Value) (gs : Nat → Nat) : Prop where
  box : wr.heap[R]? = some (.cells #[.int .i64 s, v] 106 (0, 0))
  own : wr.ownsRow (R + 1) 32 1 v k (rowsOf gs s k)
  rows : ∀ j, j < k → wr.heap[gs j]? = some (.cells (u8s (zeros s)).toArray 5 (0, 0))
  lo : ∀ j, j < k → R < gs j
  inc : ∀ i j, i < j → j < k → gs i < gs j
  below : Below R W wr
  at_ : W.heap.size ≤ R
theorem NewAt.drew {W wr : World} {R s k : Nat} {v : Value} {gs : Nat → Nat} (h : NewAt W wr R s k v gs) : NewAt W wr.drew R s k v gs :=
  ⟨h.box, h.own, h.rows, h.lo, h.inc, h.below.drew, h.at_⟩
theorem lt_of_heap {w : World} {i : Nat} {o : Obj} (h : w.heap[i]? = some o) : i < w.heap.size := (Array.getElem?_eq_some_iff.1 h).1
theorem NewAt.ltR {W wr : World} {R s k : Nat} {v : Value} {gs : Nat → Nat} (h : NewAt W wr R s k v gs) : R < wr.heap.size := lt_of_heap h.box
theorem NewAt.c0 {W wr : World} {R s k : Nat} {v : Value} {gs : Nat → Nat} (h : NewAt W wr R s k v gs) : wr.cell? ⟨R, 0, none⟩ = some (.int .i64 s) := by simp [World.cell?, h.box]
theorem NewAt.c1 {W wr : World} {R s k : Nat} {v : Value} {gs : Nat → Nat} (h : NewAt W wr R s k v gs) : wr.cell? ⟨R, 1, none⟩ = some v := by simp [World.cell?, h.box]
theorem NewAt.free {W wr : World} {R s k : Nat} {v : Value} {gs : Nat → Nat} (h : NewAt W wr R s k v gs) : wr.frozen? ⟨R, 1, none⟩ = false := by simp [World.frozen?, h.box]

/-- The builtin append, veiled: the walk runs it by a fact of ours. -/
def appendV (ats : Array TypeId) (ty : TypeId) (args : Array Value) : Sem Value := Builtin.append_ ats ty args
theorem append_veil (ats : Array TypeId) (ty : TypeId) (args : Array Value) : Builtin.append_ ats ty args = appendV ats ty args := rfl

theorem own_other {w : World} {base e : Nat} {v : Value} {n : Nat} {xs : List Value} {i : Nat} {c : Array Value} {t : TypeId} (h : w.ownsRow base e 1 v n xs) (hi : w.heap[i]? = some (.cells c t (0, 0))) (hne : t ≠ e) : some i ≠ v.ownBlock := by
  rcases h.2 with ⟨rfl, _⟩ | ⟨g, cap, cur, rfl, hg, hh, -⟩
  · simp [Value.ownBlock]
  · intro he
    simp [Value.ownBlock] at he
    subst he
    rw [hh] at hi
    injection hi with hi
    injection hi with _ h2 _
    exact hne h2.symm

theorem own_shape {w : World} {base e size k : Nat} {v : Value} {xs : List Value} (h : w.ownsRow base e size v (k + 1) xs) : ∃ g cap, v = .slice (some ⟨g, 0, none⟩) (k + 1) cap := by
  rcases h.2 with ⟨_, h0⟩ | ⟨g, cap, cur, hv, -⟩
  · omega
  · exact ⟨g, cap, hv⟩
theorem new_step {W wr : World} {R s k : Nat} {v : Value} {gs : Nat → Nat} (h : NewAt W wr R s k v gs) (hk : k ≤ 15) :
    ∃ B cap W3, (appendV #[86, 86] 86 #[v, .slice (some ⟨wr.heap.size + 1, 0, none⟩) 1 1]).run Try.prog ((wr.alloc (.cells (u8s (zeros s)).toArray 5)).alloc (.cells #[.slice (some ⟨wr.heap.size, 0, none⟩) s s] 32)) = .ok (.slice (some ⟨B, 0, none⟩) (k + 1) cap) W3 ∧
      W3.cell? ⟨R, 1, none⟩ = some v ∧ W3.frozen? ⟨R, 1, none⟩ = false ∧
      NewAt W (W3.setCell ⟨R, 1, none⟩ (.slice (some ⟨B, 0, none⟩) (k + 1) cap)) R s (k + 1) (.slice (some ⟨B, 0, none⟩) (k + 1) cap) (fun j => if j = k then wr.heap.size else gs j) := by
  obtain ⟨i0, hi0, hz0, hz1, hz2⟩ := info_parts sl_info
  have hR := h.ltR
  obtain ⟨W2, hW2⟩ : ∃ W2, (wr.alloc (.cells (u8s (zeros s)).toArray 5)).alloc (.cells #[.slice (some ⟨wr.heap.size, 0, none⟩) s s] 32) = W2 := ⟨_, rfl⟩
  have hsz : W2.heap.size = wr.heap.size + 1 + 1 := by rw [← hW2]; simp
  have hold : ∀ i, i < wr.heap.size → W2.heap[i]? = wr.heap[i]? := fun i hi => by
    rw [← hW2, Below.heap_alloc _ _ _ (by simp; omega), Below.heap_alloc _ _ _ hi]
  have hnew : W2.heap[wr.heap.size]? = some (.cells (u8s (zeros s)).toArray 5 (0, 0)) := by
    rw [← hW2, Below.heap_alloc _ _ _ (by simp)]
    exact heap_alloc_new wr _
  have hbox : W2.heap[R]? = some (.cells #[.int .i64 s, v] 106 (0, 0)) := (hold R hR).trans h.box
  have hown2 : W2.ownsRow (R + 1) 32 1 v k (rowsOf gs s k) := by rw [← hW2]; exact (h.own.alloc _).alloc _
  have hb2 : Below R W W2 := by rw [← hW2]; exact (h.below.alloc (by omega) _).alloc (by simp; omega) _
  obtain ⟨v', W3, hrun, hown, hgr, -, -⟩ := run_append_own_at (P := Try.prog) W2 (R + 1) 86 86 32 i0 _ 1 24 Try.underlying86 hi0 hz0 hz1 hz2 rfl (by omega) v k (rowsOf gs s k) hown2
    ⟨wr.heap.size + 1, 0, none⟩ 1 1 [.slice (some ⟨wr.heap.size, 0, none⟩) s s] rfl
    (fun j u hu => by
      have e := cell_one_new (wr.alloc (.cells (u8s (zeros s)).toArray 5)) (.slice (some ⟨wr.heap.size, 0, none⟩) s s) 32 j u hu
      rw [hW2] at e
      simpa using e) (fun u hu => by simp at hu; subst hu; rfl) (by unfold maxLen; omega) (by omega) (by omega)
  obtain ⟨B, cap, rfl⟩ := own_shape hown
  have hb3 : W3.heap[R]? = some (.cells #[.int .i64 s, v] 106 (0, 0)) := (hgr.block R (by omega) (own_other hown2 hbox (by decide))).trans hbox
  have hrow3 : ∀ i, i < W2.heap.size → W2.heap[i]? = some (.cells (u8s (zeros s)).toArray 5 (0, 0)) → W3.heap[i]? = some (.cells (u8s (zeros s)).toArray 5 (0, 0)) := fun i hi he => (hgr.block i hi (own_other hown2 he (by decide))).trans he
  have hlo := h.lo
  have hlt : ∀ j, j < k → gs j < wr.heap.size := fun j hj => lt_of_heap (h.rows j hj)
  refine ⟨B, cap, W3, by rw [hW2]; exact hrun, by simp [World.cell?, hb3], by simp [World.frozen?, hb3], ?_, ?_, fun j hj => ?_, fun j hj => ?_, fun i j hij hj => ?_, ?_, h.at_⟩
  · simp [World.setCell, Array.getElem?_modify, hb3]
  · have e : rowsOf (fun j => if j = k then wr.heap.size else gs j) s (k + 1) = rowsOf gs s k ++ [.slice (some ⟨wr.heap.size, 0, none⟩) s s] := by
      rw [rowsOf_snoc (gs := gs) (fun j hj => by simp; omega)]
      simp
    rw [e]
    exact ownsRow_setCell_below hown (by simp) _
  · by_cases e : j = k
    · subst e
      rw [if_pos rfl, Below.heap_setCell _ _ _ _ (by simp; omega)]
      exact hrow3 _ (by omega) hnew
    · rw [if_neg e]
      have := hlo j (by omega)
      have := hlt j (by omega)
      rw [Below.heap_setCell _ _ _ _ (by simp; omega)]
      exact hrow3 _ (by omega) ((hold _ (by omega)).trans (h.rows j (by omega)))
  · by_cases e : j = k
    · simp only [if_pos e]; exact hR
    · simp only [if_neg e]; exact hlo j (by omega)
  · by_cases e : j = k
    · subst e
      rw [if_neg (by omega), if_pos rfl]
      exact hlt i hij
    · rw [if_neg (by omega), if_neg e]
      exact h.inc i j hij (by omega)
  · exact (hb2.grown hgr (by omega) (fun b hb => by
      have := (hown2.lt b hb).1; omega)).setCell (by simp) _
theorem new_drawn {W wr : World} {R s k : Nat} {v : Value} {gs : Nat → Nat} (h : NewAt W wr R s k v gs) (hk : k ≤ 15) :
    ∃ B cap W3, (appendV #[86, 86] 86 #[v, .slice (some ⟨wr.heap.size + 1, 0, none⟩) 1 1]).run Try.prog ((wr.alloc (.cells (u8s (zeros s)).toArray 5)).alloc (.cells #[.slice (some ⟨wr.heap.size, 0, none⟩) s s] 32)).drew = .ok (.slice (some ⟨B, 0, none⟩) (k + 1) cap) W3 ∧
      W3.cell? ⟨R, 1, none⟩ = some v ∧ W3.frozen? ⟨R, 1, none⟩ = false ∧
      NewAt W (W3.setCell ⟨R, 1, none⟩ (.slice (some ⟨B, 0, none⟩) (k + 1) cap)) R s (k + 1) (.slice (some ⟨B, 0, none⟩) (k + 1) cap) (fun j => if j = k then wr.heap.size else gs j) := new_step h.drew hk
theorem make_any (s : Nat) (h : s ≤ 1000) : ∀ w : World, (Instr.makeSlice 32 (.int .i64 s) (.int .i64 s)).run Try.prog w = .ok (.slice (some ⟨w.heap.size, 0, none⟩) s s) (w.alloc (.cells (u8s (zeros s)).toArray 5)) := fun w => make_u8 w s h
/-- What New of the document gives, ahead of the loop's end. -/
def GaveNew (W : World) (s n : Nat) (e : Ending) (w : World) : Prop := ∃ R v gs, e = .returned (.pointer (some ⟨R, 0, none⟩)) ∧ NewAt W w R s n v gs
attribute [local go_sem ↓] append_veil
set_option maxHeartbeats 400000 in
theorem ref_new (s n : Nat) (w : World) (hs : s ≤ 32) (hn : n ≤ 16) : Calls Try.prog 19 #[.int .i64 s, .int .i64 n] w (GaveNew w s n) := by
  have hmk := make_any s (by omega)
  have h0 : NewAt w (w.alloc (.cells #[.int .i64 s, .slice none 0 0] 106)) w.heap.size s 0 (.slice none 0 0) (fun _ => 0) :=
    ⟨heap_alloc_new w _, World.ownsRow_nil _ _ _ _, fun j hj => by omega, fun j hj => by omega, fun i j _ hj => by omega, (Below.refl _ _).alloc (Nat.le_refl _) _, Nat.le_refl _⟩
  go_enter Try.func19, Try.ntmps19
  go_wp2
  go_loopw [6] (fun i wr => ∃ k v gs, k ≤ n ∧ i = .int .i64 k ∧ NewAt w wr w.heap.size s k v gs) (fun i _ => n - (intOf i).toNat)
  case atStart => exact ⟨0, _, _, by omega, rfl, h0⟩
  case round =>
    obtain ⟨k, v, gs, hk, rfl, hN⟩ := hrel
    by_cases hlt : k < n
    · have hd := hN.drew
      have hc1 := hd.c1
      obtain ⟨B, cap, W3, hrun, hc3, hf3, hN3⟩ := new_drawn hN (by omega)
      have hR := hN.ltR
      have hc1 := hN.c1
      have hca : (wr.alloc (.cells (u8s (zeros s)).toArray 5)).cell? ⟨w.heap.size, 1, none⟩ = some v := by rw [World.cell?_alloc_lt _ _ _ hR]; exact hc1
      have hcb : ((wr.alloc (.cells (u8s (zeros s)).toArray 5)).alloc (.cells #[.slice (some ⟨wr.heap.size, 0, none⟩) s s] 32)).cell? ⟨w.heap.size, 1, none⟩ = some v := by rw [World.cell?_alloc_lt _ _ _ (by simp; omega)]; exact hca
      have H0 := Lib.hid h0
      have HN := Lib.hid hN3
      clear h0 hN hN3 hR
      go_wp2
      go_region
      go_wp2
      go_roundw
      case rel => exact ⟨k + 1, _, _, by omega, by go_num, HN.out⟩
      case measure => simp [intOf]; omega
    · obtain rfl : k = n := by omega
      have HN := Lib.hid hN
      clear h0 hN
      go_wp2
      go_ret
      exact ⟨_, _, _, rfl, HN.out⟩
end Go.Proofs.Ytenjdgoammaiiaa

/-
  Proved here: what Write and Bytes of the document's arrays do and give. Conditions: as each says.
-/
namespace Go.Proofs.Ytenjdgoammaiiaa
open Go.RowKit
set_option maxRecDepth 100000

/-- The document's array in memory: its box lies in block R, its list of slots in block B, the slots in the blocks gs k. -/
structure Rf (w : World) (R B cap s n L : Nat) (gs : Nat → Nat) (zs : List Int) : Prop where
  r0 : w.cell? ⟨R, 0, none⟩ = some (.int .i64 s)
  r1 : w.cell? ⟨R, 1, none⟩ = some (.slice (some ⟨B, 0, none⟩) n cap)
  rows : ∀ k, k < n → w.cell? ⟨B, k, none⟩ = some (.slice (some ⟨gs k, 0, none⟩) s s)
  row : ∀ k j, k < n → j < s → w.cell? ⟨gs k, j, none⟩ = some (.int .u8 (zs.getD (k * s + j) 0))
  free : ∀ k j, k < n → w.frozen? ⟨gs k, j, none⟩ = false
  len : zs.length = L
  inj : ∀ i j, i < n → j < n → gs i = gs j → i = j
  neR : ∀ k, k < n → gs k ≠ R
  neB : ∀ k, k < n → gs k ≠ B
theorem Rf.ltR {w : World} {R B cap s n L : Nat} {gs : Nat → Nat} {zs : List Int} (h : Rf w R B cap s n L gs zs) : R < w.heap.size := cell_block_lt h.r0
theorem Rf.ltB {w : World} {R B cap s n L : Nat} {gs : Nat → Nat} {zs : List Int} (h : Rf w R B cap s n L gs zs) (hn : 0 < n) : B < w.heap.size := cell_block_lt (h.rows 0 hn)
theorem Rf.ltG {w : World} {R B cap s n L k : Nat} {gs : Nat → Nat} {zs : List Int} (h : Rf w R B cap s n L gs zs) (hs : 0 < s) (hk : k < n) : gs k < w.heap.size := cell_block_lt (h.row k 0 hk hs)
/-- It stays where its blocks stay. -/
theorem Rf.kept {w w' : World} {R B cap s n L : Nat} {gs : Nat → Nat} {zs : List Int} (h : Rf w R B cap s n L gs zs) (hR : w'.heap[R]? = w.heap[R]?) (hB : w'.heap[B]? = w.heap[B]?) (hG : ∀ k, k < n → w'.heap[gs k]? = w.heap[gs k]?) :
    Rf w' R B cap s n L gs zs :=
  ⟨(World.cell?_of_block (w := w) hR).trans h.r0, (World.cell?_of_block (w := w) hR).trans h.r1, fun k hk => (World.cell?_of_block (w := w) hB).trans (h.rows k hk), fun k j hk hj => (World.cell?_of_block (w := w) (hG k hk)).trans (h.row k j hk hj),
    fun k j hk => (World.frozen?_of_block (w := w) (hG k hk)).trans (h.free k j hk), h.len, h.inj, h.neR, h.neB⟩
theorem Rf.stay {w w' : World} {R B cap s n L : Nat} {gs : Nat → Nat} {zs : List Int} (h : Rf w R B cap s n L gs zs) (hs : 0 < s) (hn : 0 < n) (hb : Below w.heap.size w w') : Rf w' R B cap s n L gs zs :=
  h.kept (hb.block _ h.ltR) (hb.block _ (h.ltB hn)) (fun _ hk => hb.block _ (h.ltG hs hk))
/-- A store into another block. -/
theorem Rf.far {w : World} {R B cap s n L : Nat} {gs : Nat → Nat} {zs : List Int} (h : Rf w R B cap s n L gs zs) (a : Addr) (v : Value) (hR : R ≠ a.block) (hB : B ≠ a.block) (hG : ∀ k, k < n → gs k ≠ a.block) : Rf (w.setCell a v) R B cap s n L gs zs :=
  h.kept (Below.heap_setCell _ _ _ _ hR) (Below.heap_setCell _ _ _ _ hB) (fun k hk => Below.heap_setCell _ _ _ _ (hG k hk))
theorem place_eq {s k j k' j' : Nat} (hj : j < s) (hj' : j' < s) (h : k * s + j = k' * s + j') : k = k' ∧ j = j' := by
  have h1 : (k * s + j) / s = k := by rw [Nat.mul_comm, Nat.mul_add_div (by omega), Nat.div_eq_of_lt hj, Nat.add_zero]
  have h2 : (k' * s + j') / s = k' := by rw [Nat.mul_comm, Nat.mul_add_div (by omega), Nat.div_eq_of_lt hj', Nat.add_zero]
  have : k = k' := by rw [← h1, h, h2]
  subst this
  exact ⟨rfl, by omega⟩
theorem set_get {zs : List Int} {i j : Nat} {c : Int} (hi : i < zs.length) : (zs.set i c).getD j 0 = if i = j then c else zs.getD j 0 := by
  rw [List.getD_eq_getElem?_getD, List.getD_eq_getElem?_getD, List.getElem?_set]
  by_cases e : i = j
  · subst e; simp [hi]
  · simp [e]
theorem cell_set {w : World} {g j at_ : Nat} {u v : Value} (h : w.cell? ⟨g, j, none⟩ = some v) : (w.setCell ⟨g, at_, none⟩ u).cell? ⟨g, j, none⟩ = some (if at_ = j then u else v) := by
  by_cases e : at_ = j
  · subst e
    rw [if_pos rfl, World.cell?_setCell_same _ _ _ h]
  · rw [if_neg e, World.cell?_setCell_other _ _ _ _ (by intro h2; injection h2 with _ h3; exact e h3)]
    exact h
theorem Rf.put {w : World} {R B cap s n L k at_ : Nat} {gs : Nat → Nat} {zs : List Int} {c : Int} (h : Rf w R B cap s n L gs zs) (hk : k < n) (ha : at_ < s) (hL : k * s + s ≤ L) :
    Rf (w.setCell ⟨gs k, at_, none⟩ (.int .u8 c)) R B cap s n L gs (zs.set (k * s + at_) c) := by
  have hl := h.len
  have hR := Below.heap_setCell w ⟨gs k, at_, none⟩ (.int .u8 c) R (fun e => h.neR k hk e.symm)
  have hB := Below.heap_setCell w ⟨gs k, at_, none⟩ (.int .u8 c) B (fun e => h.neB k hk e.symm)
  refine ⟨(World.cell?_of_block (w := w) hR).trans h.r0, (World.cell?_of_block (w := w) hR).trans h.r1, fun i hi => (World.cell?_of_block (w := w) hB).trans (h.rows i hi), fun i j hi hj => ?_, fun i j hi => ?_, by simp [hl], h.inj, h.neR, h.neB⟩
  · by_cases e : i = k
    · subst e
      rw [cell_set (h.row i j hi hj), set_get (by omega)]
      by_cases e2 : at_ = j
      · subst e2; simp
      · rw [if_neg e2, if_neg (by omega)]
    · rw [World.cell?_setCell_other _ _ _ _ (by intro h2; injection h2 with h2; exact e (h.inj _ _ hi hk h2.symm)), h.row i j hi hj, set_get (by omega), if_neg]
      intro e2
      exact e (place_eq ha hj e2).1.symm
  · rw [World.frozen?_setCell]
    exact h.free i j hi

/-! ### Write -/
def Wrote (W : World) (e : Ending) (w : World) : Prop := e = .returned (.tuple #[]) ∧ W = w
/-! ### Bytes -/
/-- The bytes of a slot. -/
def slotL (zs : List Int) (s k : Nat) : List Int := (zs.drop (k * s)).take s
theorem slotL_length {zs : List Int} {s k L : Nat} (hz : zs.length = L) (h : k * s + s ≤ L) : (slotL zs s k).length = s := by
  simp [slotL]; omega
theorem slotL_get {zs : List Int} {s k j : Nat} (hj : j < s) : (slotL zs s k).getD j 0 = zs.getD (k * s + j) 0 := by
  rw [List.getD_eq_getElem?_getD, List.getD_eq_getElem?_getD, slotL, List.getElem?_take_of_lt hj, List.getElem?_drop]
theorem slotL_snoc (zs : List Int) (s k : Nat) : u8s (zs.take (k * s)) ++ u8s (slotL zs s k) = u8s (zs.take (k * s + s)) := by
  rw [u8s, u8s, u8s, ← List.map_append, slotL, List.take_add]
/-- Under way: the first k slots' bytes have been taken. -/
structure Taken (W wr : World) (v : Value) (m : Nat) (zs : List Int) : Prop where
  own : wr.ownsRow W.heap.size 5 1 v m (u8s (zs.take m))
  below : Below W.heap.size W wr
set_option maxHeartbeats 400000 in
theorem ref_bytes (R B cap s n L : Nat) (gs : Nat → Nat) (zs : List Int) (w : World) (hd : Dim s n L) (h : Rf w R B cap s n L gs zs) : Calls Try.prog 106 #[.pointer (some ⟨R, 0, none⟩)] w (GaveRow w L zs) := by
  have hs := hd.s0
  have hs1 := hd.s1
  have hn := hd.n0
  have hn1 := hd.n1
  have hle := hd.le
  have hR := h.ltR
  have hB := h.ltB hn
  have h1 := h.r1
  obtain ⟨i0, hi0, hz0, hz1, hz2⟩ := info_parts u8_info
  have H := Lib.hid h
  have HD := Lib.hid hd
  clear h hd
  have hT : Taken w w (.slice none 0 0) 0 zs := ⟨World.ownsRow_nil _ _ _ _, Below.refl _ _⟩
  have HT := Lib.hid hT
  clear hT
  go_enter Try.func106, Try.ntmps106
  go_wp2
  go_loopw [3, 4] (fun v i wr => ∃ k : Nat, k ≤ n ∧ i = .int .i64 k ∧ Taken w wr v (k * s) zs) (fun _ i _ => n - (intOf i).toNat)
  case atStart => exact ⟨0, by omega, rfl, by rw [Nat.zero_mul]; exact HT.out⟩
  case round =>
    obtain ⟨k, hk, rfl, hT⟩ := hrel
    clear HT
    have hz := hT.below.size
    have h1' := (hT.below.cell (p := ⟨R, 1, none⟩) hR).trans h1
    by_cases hlt : k < n
    · have h2' := (hT.below.cell (p := ⟨B, k, none⟩) hB).trans (H.out.rows k hlt)
      have hg := H.out.ltG (k := k) hs hlt
      have hps := HD.out.at hlt
      have hrow : RowAt wr (gs k) 0 s (slotL zs s k) := fun j hj => by
        rw [slotL_get hj]
        exact (hT.below.cell (p := ⟨gs k, 0 + j, none⟩) hg).trans (by rw [Nat.zero_add]; exact H.out.row k j hlt hj)
      have hl := slotL_length (zs := zs) H.out.len hps
      obtain ⟨g, hge⟩ : ∃ g, gs k = g := ⟨_, rfl⟩
      obtain ⟨m, hm⟩ : ∃ m, k * s = m := ⟨_, rfl⟩
      rw [hge] at h2' hrow
      have HL := Lib.hid hl
      have HM := Lib.hid hm
      have HR := Lib.hid hrow
      rw [hm] at hT hps
      have hnx : (k + 1) * s = m + s := by rw [Nat.add_mul, Nat.one_mul, hm]
      have HN := Lib.hid hnx
      have HT := Lib.hid hT
      have HS := Lib.hid (slotL_snoc zs s k)
      clear hl hm hnx hrow hT hge h1 hg
      go_wp2_with (at_builtin; refine wpList_append_own_at _ rfl _ _ 32 rfl w.heap.size 5 i0 _ 1 1 Try.underlying32 hi0 hz0 hz1 hz2 rfl (by omega) _ m _ rfl HT.out.own ⟨g, 0, none⟩ s s (u8s (slotL zs s k)) rfl (by rw [u8s_length, HL.out]; omega) (fun j u hu => by rw [add_lit]; exact u8s_cells HL.out HR.out j u hu) u8s_one (by unfold maxLen; omega) (by omega) hz ?_; intro v1 w1 hown hgr _ _; have HO := Lib.hid hown; have HG := Lib.hid hgr; clear hown hgr)
      go_roundw
      case rel =>
        refine ⟨k + 1, by omega, by go_num, ?_⟩
        rw [HN.out]
        have e := HS.out
        rw [HM.out] at e
        refine ⟨by rw [← e]; exact HO.out, HT.out.below.grown HG.out hz (fun b hb => (HT.out.own.lt b hb).1)⟩
      case measure => simp [intOf]; omega
    · obtain rfl : k = n := by omega
      have hkl : k * s = L := by rw [Nat.mul_comm]; exact HD.out.hL
      rw [hkl] at hT
      have HT := Lib.hid hT
      clear hT hkl
      go_wp2
      go_ret
      have ho := HT.out.own
      rw [List.take_of_length_le (by rw [H.out.len]; omega)] at ho
      obtain ⟨g, cap, e, hf⟩ := fresh_of_own H.out.len HD.out.pos ho HT.out.below
      exact ⟨g, cap, by subst e; rfl, hf⟩
end Go.Proofs.Ytenjdgoammaiiaa
