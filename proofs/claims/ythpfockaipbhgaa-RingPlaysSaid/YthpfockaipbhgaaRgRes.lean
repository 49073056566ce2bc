/-
  Proved here: Reserve of the document's rings. Conditions: as each says.
-/
import Derived.Test.YthpfockaipbhgaaRgPut
import Derived.Test.YthpfockaipbhgaaArr
namespace Go.Proofs.Ythpfockaipbhgaa
open Go.RowKit

def newR (o : Int) (m : Nat) : Rc := ⟨o, 0, zeros m, false⟩
/-- The builtin append, veiled: the walk runs it by a fact of ours. -/
def appendV (ats : Array TypeId) (ty : TypeId) (args : Array Value) : Sem Value := Builtin.append_ ats ty args
theorem append_veil (ats : Array TypeId) (ty : TypeId) (args : Array Value) : Builtin.append_ ats ty args = appendV ats ty args := rfl
theorem rec_info : (Try.prog.info? 46).map (fun i => (i.zero, i.size, i.bytes)) = some (some (.agg #[.int .i64 0, .int .i64 0, .slice none 0 0, .bool false]), 4, 48) := by kernel_rfl
theorem rget_new {rs : List Rc} {r : Rc} : rget (rs ++ [r]) rs.length = r := by rw [rget_snoc, if_neg (by omega), if_pos rfl]
theorem rget_old {rs : List Rc} {r : Rc} {i : Nat} (h : i < rs.length) : rget (rs ++ [r]) i = rget rs i := by rw [rget_snoc, if_pos h]
theorem four_new (W : World) (a b c d : Value) (e : TypeId) : ∀ j u, [a, b, c, d][j]? = some u → (W.alloc (.cells #[a, b, c, d] e)).cell? ((⟨W.heap.size, 0, none⟩ : Addr).add j) = some u := by
  intro j u hu
  have hn : (W.alloc (.cells #[a, b, c, d] e)).heap[W.heap.size]? = some (.cells #[a, b, c, d] e) := heap_alloc_new W _
  rw [add_lit, Nat.zero_add]
  unfold World.cell?
  simp only [hn]
  simpa using hu
theorem cells_snoc {xs : List Value} {gs : Nat → Nat} {rs : List Rc} {o : Int} {m G : Nat} (h : RcCells xs gs rs) (hl : xs.length = rs.length * 4) :
    RcCells (xs ++ [.int .i64 o, .int .i64 0, .slice (some ⟨G, 0, none⟩) m m, .bool false]) (fun j => if j = rs.length then G else gs j) (rs ++ [newR o m]) := by
  intro i hi
  rw [List.length_append, List.length_singleton] at hi
  rw [rget_snoc]
  by_cases e : i < rs.length
  · rw [if_pos e]
    obtain ⟨a0, a1, a2, a3⟩ := h i e
    rw [List.getElem?_append_left (by omega), List.getElem?_append_left (by omega), List.getElem?_append_left (by omega), List.getElem?_append_left (by omega)]
    simp only [show i ≠ rs.length by omega, if_false]
    exact ⟨a0, a1, a2, a3⟩
  · have e2 : i = rs.length := by omega
    subst e2
    rw [if_neg e, if_pos rfl, List.getElem?_append_right (by omega), List.getElem?_append_right (by omega), List.getElem?_append_right (by omega), List.getElem?_append_right (by omega), hl]
    simp [newR, zeros]
theorem rg_push {w : World} {H : Nat} {room drops : Int} {kv : Value} {gs : Nat → Nat} {rs : List Rc} (h : Rg w H room drops kv gs rs) (o : Int) (m : Nat) (h1 : 1 ≤ m) (h2 : m ≤ 32) (hle : rs.length + 1 ≤ 1000) :
    ∃ a2 c2 W3, (appendV #[30, 30] 30 #[kv, .slice (some ⟨w.heap.size + 1, 0, none⟩) 1 1]).run Try.prog ((w.alloc (.cells (u8s (zeros m)).toArray 5)).alloc (.cells #[.int .i64 o, .int .i64 0, .slice (some ⟨w.heap.size, 0, none⟩) m m, .bool false] 46)).drew = .ok (.slice a2 (rs.length + 1) c2) W3 ∧
      W3.cell? ⟨H, 2, none⟩ = some kv ∧ W3.frozen? ⟨H, 2, none⟩ = false ∧ Rg (W3.setCell ⟨H, 2, none⟩ (.slice a2 (rs.length + 1) c2)) H room drops (.slice a2 (rs.length + 1) c2) (fun j => if j = rs.length then w.heap.size else gs j) (rs ++ [newR o m]) ∧
      Turned (RgS H kv gs rs.length) w (W3.setCell ⟨H, 2, none⟩ (.slice a2 (rs.length + 1) c2)) ∧ ∀ b, RgS H (.slice a2 (rs.length + 1) c2) (fun j => if j = rs.length then w.heap.size else gs j) (rs.length + 1) b → RgS H kv gs rs.length b ∨ w.heap.size ≤ b := by
  obtain ⟨i0, hi0, hz0, hz1, hz2⟩ := info_parts rec_info
  obtain ⟨xs, hx, hc⟩ := h.row
  have hlt := h.lt
  obtain ⟨W1, hW1⟩ : ∃ W1, w.alloc (.cells (u8s (zeros m)).toArray 5) = W1 := ⟨_, rfl⟩
  have hz1' : W1.heap.size = w.heap.size + 1 := by rw [← hW1]; simp
  obtain ⟨W2, hW2⟩ : ∃ W2, (W1.alloc (.cells #[.int .i64 o, .int .i64 0, .slice (some ⟨w.heap.size, 0, none⟩) m m, .bool false] 46)).drew = W2 := ⟨_, rfl⟩
  have hsz : W2.heap.size = w.heap.size + 1 + 1 := by rw [← hW2]; simp [World.drew, hz1']
  have b1 : Below w.heap.size w W1 := by rw [← hW1]; exact (Below.refl _ _).alloc (Nat.le_refl _) _
  have b2 : Below w.heap.size w W2 := by rw [← hW2]; exact (b1.alloc b1.size _).drew
  have hold : ∀ i, i < w.heap.size → W2.heap[i]? = w.heap[i]? := fun i hi => b2.block i hi
  have hnew : W2.heap[w.heap.size]? = some (.cells (u8s (zeros m)).toArray 5 (0, 0)) := by
    have e1 : W1.heap[w.heap.size]? = some (.cells (u8s (zeros m)).toArray 5 (0, 0)) := by rw [← hW1]; exact heap_alloc_new w _
    rw [← hW2]
    exact (Below.heap_alloc W1 _ _ (by omega)).trans e1
  have hown2 : W2.ownsRow 0 46 4 kv rs.length xs := by rw [← hW2, ← hW1]; exact ((hx.alloc _).alloc _).drew
  obtain ⟨v', W3, hrun, hown3, hgr, -, hat⟩ := run_append_own_at (P := Try.prog) W2 0 30 30 46 i0 _ 4 48 Try.underlying30 hi0 hz0 hz1 hz2 rfl (by omega) kv rs.length xs hown2
    ⟨w.heap.size + 1, 0, none⟩ 1 1 [.int .i64 o, .int .i64 0, .slice (some ⟨w.heap.size, 0, none⟩) m m, .bool false] rfl (fun j u hu => by
      have e := four_new W1 _ _ _ _ 46 j u hu
      rw [hz1'] at e
      rw [← hW2]
      exact e) (fun u hu => by simp at hu; rcases hu with rfl | rfl | rfl | rfl <;> rfl) (by unfold maxLen; omega) (by omega) (by omega)
  obtain ⟨a2, c2, rfl⟩ : ∃ a2 c2, v' = .slice a2 (rs.length + 1) c2 := by
    rcases hown3.2 with ⟨_, h0⟩ | ⟨g, cap, cur, hv, -⟩
    · omega
    · exact ⟨_, cap, hv⟩
  have hkvlt : ∀ b, some b = kv.ownBlock → b < w.heap.size := fun b hb => hlt b (.inr (.inl hb))
  have hnb : ∀ b, some b = (Value.slice a2 (rs.length + 1) c2).ownBlock → some b = kv.ownBlock ∨ b = w.heap.size + 1 + 1 := fun b hb => by
    rcases hat with h9 | h9
    · exact .inl (by rw [← h9]; exact hb)
    · rw [h9] at hb
      injection hb with hb
      exact .inr (by omega)
  have hHl := hlt H (.inl rfl)
  have hgl : ∀ i, i < rs.length → gs i < w.heap.size := fun i hi => hlt _ (.inr (.inr ⟨i, hi, rfl⟩))
  have hk3 : ∀ b, b < w.heap.size → some b ≠ kv.ownBlock → W3.heap[b]? = w.heap[b]? := fun b hb hn => (hgr.block b (by omega) hn).trans (hold b hb)
  have eH := hk3 H hHl h.hk
  have c23 : W3.cell? ⟨H, 2, none⟩ = some kv := (World.cell?_of_block (w := w) (a := ⟨H, 2, none⟩) eH).trans h.h2
  have f23 : W3.frozen? ⟨H, 2, none⟩ = false := (World.frozen?_of_block (w := w) (a := ⟨H, 2, none⟩) eH).trans (h.fH 2)
  have hs3 : ∀ b, b ≠ H → (W3.setCell ⟨H, 2, none⟩ (.slice a2 (rs.length + 1) c2)).heap[b]? = W3.heap[b]? := fun b hb => Below.heap_setCell W3 ⟨H, 2, none⟩ _ b hb
  have hHo : some H ≠ (Value.slice a2 (rs.length + 1) c2).ownBlock := fun e => by
    rcases hnb H e with e2 | e2
    · exact h.hk e2
    · omega
  have hZ3 : (W3.setCell ⟨H, 2, none⟩ (.slice a2 (rs.length + 1) c2)).heap[w.heap.size]? = some (.cells (u8s (zeros m)).toArray 5 (0, 0)) := by
    rw [hs3 _ (by omega), hgr.block _ (by omega) (fun e => by have := hkvlt _ e; omega)]
    exact hnew
  have hll : (rs ++ [newR o m]).length = rs.length + 1 := by simp
  have hzc : RowAt (W3.setCell ⟨H, 2, none⟩ (.slice a2 (rs.length + 1) c2)) w.heap.size 0 m (zeros m) := fun j hj => by
    rw [Nat.zero_add, zeros_get]
    unfold World.cell?
    simp only [hZ3]
    simp [u8s, zeros, hj]
  refine ⟨a2, c2, W3, by rw [hW1, hW2]; exact hrun, c23, f23, ⟨?_, ?_, World.cell?_setCell_same _ _ _ c23, fun j => ?_, ⟨_, ?_, cells_snoc hc hx.1⟩, hHo, fun i hi e => ?_, fun i hi e => ?_, fun i j hi hj e => ?_, fun i hi => ?_, fun i hi j => ?_, fun i hi => ?_, by rw [hll]; exact hle⟩, ⟨?_, ?_, ?_, ?_, fun b hb hn => ?_⟩, ?_⟩
  · rw [World.cell?_setCell_other _ _ _ _ (by simp)]
    exact (World.cell?_of_block (w := w) (a := ⟨H, 0, none⟩) eH).trans h.h0
  · rw [World.cell?_setCell_other _ _ _ _ (by simp)]
    exact (World.cell?_of_block (w := w) (a := ⟨H, 1, none⟩) eH).trans h.h1
  · rw [World.frozen?_setCell]
    exact (World.frozen?_of_block (w := w) (a := ⟨H, j, none⟩) eH).trans (h.fH j)
  · rw [hll]
    exact own_kept hown3 (fun b hb => hs3 b (fun e => hHo (by rw [← e]; exact hb)))
  · rw [hll] at hi
    split at e
    · rcases hnb _ e with e2 | e2
      · have := hkvlt _ e2; omega
      · omega
    · rcases hnb _ e with e2 | e2
      · exact h.kg i (by omega) e2
      · have := hgl i (by omega); omega
  · rw [hll] at hi
    split at e
    · omega
    · exact h.Hg i (by omega) e
  · rw [hll] at hi hj
    split at e <;> split at e
    · omega
    · have := hgl j (by omega); omega
    · have := hgl i (by omega); omega
    · exact h.gi i j (by omega) (by omega) e
  · rw [hll] at hi
    by_cases e : i = rs.length
    · subst e
      rw [rget_new, if_pos rfl]
      simp only [newR, zeros_length]
      exact hzc
    · rw [rget_old (by omega), if_neg e]
      have := hgl i (by omega)
      exact fun j hj => (World.cell?_of_block (w := w) (a := ⟨gs i, 0 + j, none⟩) ((hs3 _ (h.Hg i (by omega))).trans (hk3 _ this (h.kg i (by omega))))).trans (h.data i (by omega) j hj)
  · rw [hll] at hi
    by_cases e : i = rs.length
    · subst e
      simp only [if_true]
      unfold World.frozen?
      simp only [hZ3]
      simp
    · simp only [if_neg e]
      have := hgl i (by omega)
      exact (World.frozen?_of_block (w := w) (a := ⟨gs i, j, none⟩) ((hs3 _ (h.Hg i (by omega))).trans (hk3 _ this (h.kg i (by omega))))).trans (h.free i (by omega) j)
  · rw [hll] at hi
    by_cases e : i = rs.length
    · subst e
      rw [rget_new]
      simp only [newR, zeros_length]
      omega
    · rw [rget_old (by omega)]
      exact h.len i (by omega)
  · exact hgr.os.trans b2.os
  · exact hgr.tape.trans b2.tape
  · exact hgr.output.trans b2.output
  · have := hgr.size
    simp [World.setCell]
    omega
  · rw [hs3 b (fun e => hn (.inl e))]
    exact hk3 b hb (fun e => hn (.inr (.inl e)))
  · rintro b (rfl | hb | ⟨i, hi, rfl⟩)
    · exact .inl (.inl rfl)
    · rcases hnb b hb with e2 | e2
      · exact .inl (.inr (.inl e2))
      · exact .inr (by omega)
    · by_cases e : i = rs.length
      · subst e; simp
      · simp only [if_neg e]
        exact .inl (.inr (.inr ⟨i, by omega, rfl⟩))
end Go.Proofs.Ythpfockaipbhgaa
