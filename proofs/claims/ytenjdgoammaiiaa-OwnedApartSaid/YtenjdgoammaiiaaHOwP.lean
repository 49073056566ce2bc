/-
  Proved here: what New of the document's maps makes. Conditions: as each lemma says.
-/
import Derived.Test.YtenjdgoammaiiaaHOwN
namespace Go.Proofs.Ytenjdgoammaiiaa
open Go.RowKit
set_option maxRecDepth 100000

abbrev P3 := Value × Value × Value
/-- A map at its beginning. -/
def newM (d : Df) : MSt := if d.k = 1 then .arr d.v.toNat d.x.toNat (zeros (d.v.toNat * d.x.toNat)) else if d.k = 2 then .hash d.y.toNat d.v.toNat d.x.toNat (noKeys d.x.toNat) (zeros (d.v.toNat * d.x.toNat)) else if d.k = 3 ∨ d.k = 4 then .loc d.k.toNat d.v.toNat d.x.toNat [] (zeros (d.v.toNat * d.x.toNat)) else .ring
def dcells (d : Df) (p : P3) : List Value := [.int .i64 d.k, .int .i64 d.y, .int .i64 d.v, .int .i64 d.x, p.1, p.2.1, p.2.2]
def flatD (l : List (Df × P3)) : List Value := l.flatMap fun t => dcells t.1 t.2
def dpD : Df × P3 := (dfD, .pointer none, .pointer none, .pointer none)
theorem flatD_snoc (l : List (Df × P3)) (t : Df × P3) : flatD (l ++ [t]) = flatD l ++ dcells t.1 t.2 := by simp [flatD]
theorem flatD_length (l : List (Df × P3)) : (flatD l).length = l.length * 7 := by
  induction l with
  | nil => rfl
  | cons a r ih => rw [flatD, List.flatMap_cons, List.length_append, ← flatD, ih]; simp [dcells]; omega
theorem flatD_get {l : List (Df × P3)} : ∀ {m : Nat}, m < l.length → ∀ i, i < 7 → (flatD l)[m * 7 + i]? = (dcells (l.getD m dpD).1 (l.getD m dpD).2)[i]? := by
  induction l with
  | nil => intro m hm; simp at hm
  | cons a r ih =>
    intro m hm i hi
    cases m with
    | zero =>
      show (dcells a.1 a.2 ++ flatD r)[0 * 7 + i]? = _
      rw [List.getElem?_append_left (by simp [dcells]; omega), Nat.zero_mul, Nat.zero_add]
      rfl
    | succ m =>
      have h1 := ih (m := m) (by simpa using hm) i hi
      show (dcells a.1 a.2 ++ flatD r)[(m + 1) * 7 + i]? = _
      rw [List.getElem?_append_right (by simp [dcells]; omega), show (m + 1) * 7 + i - (dcells a.1 a.2).length = m * 7 + i by simp [dcells]; omega, h1]
      rfl
theorem map_info : (Try.prog.info? 65).map (fun i => (i.zero, i.size, i.bytes)) = some (some (.agg #[.int .i64 0, .int .i64 0, .int .i64 0, .int .i64 0, .pointer none, .pointer none, .pointer none]), 7, 56) := by kernel_rfl
/-- The document's maps under way. -/
structure Nw (W wr : World) (O : Nat) (v : Value) (l : List (Df × P3)) (Ss : Nat → Nat → Prop) : Prop where
  c0 : wr.cell? ⟨O, 0, none⟩ = some v
  f0 : wr.frozen? ⟨O, 0, none⟩ = false
  own : wr.ownsRow 0 65 7 v l.length (flatD l)
  vO : some O ≠ v.ownBlock
  dm : ∀ m, m < l.length → DM wr (Ss m) (l.getD m dpD).2.1 (l.getD m dpD).2.2.1 (l.getD m dpD).2.2.2 (newM (l.getD m dpD).1)
  OS : ∀ m, m < l.length → ¬ Ss m O
  gS : ∀ m b, m < l.length → some b = v.ownBlock → ¬ Ss m b
  dis : ∀ i j b, i < l.length → j < l.length → i ≠ j → Ss i b → ¬ Ss j b
  b : Below W.heap.size W wr
  nO : W.heap.size ≤ O
  nS : ∀ m b, m < l.length → Ss m b → W.heap.size ≤ b
  nv : ∀ b, some b = v.ownBlock → W.heap.size ≤ b
theorem own_ltM {w : World} {v : Value} {n : Nat} {xs : List Value} (h : w.ownsRow 0 65 7 v n xs) : ∀ b, some b = v.ownBlock → b < w.heap.size := by
  intro b hb
  rcases h.2 with ⟨rfl, -⟩ | ⟨g, cap, cur, rfl, hg, hh, r⟩
  · cases hb
  · injection hb with hb
    subst hb
    exact (Array.getElem?_eq_some_iff.1 hh).1
theorem own_keptM {w w' : World} {v : Value} {n : Nat} {xs : List Value} (h : w.ownsRow 0 65 7 v n xs) (e : ∀ b, some b = v.ownBlock → w'.heap[b]? = w.heap[b]?) : w'.ownsRow 0 65 7 v n xs := by
  refine ⟨h.1, ?_⟩
  rcases h.2 with h2 | ⟨g, cap, cur, rfl, hg, hh, r⟩
  · exact .inl h2
  · exact .inr ⟨g, cap, cur, rfl, hg, by rw [e g rfl]; exact hh, r⟩
theorem getD_snocP {l : List (Df × P3)} {t : Df × P3} {m : Nat} (hm : m < l.length + 1) : (l ++ [t]).getD m dpD = if m = l.length then t else l.getD m dpD := by
  rw [List.getD_eq_getElem?_getD, List.getD_eq_getElem?_getD]
  by_cases e : m = l.length
  · subst e; simp
  · rw [if_neg e, List.getElem?_append_left (by omega)]
/-- One map more. -/
theorem nw_push {W wr w5 : World} {O : Nat} {v : Value} {l : List (Df × P3)} {Ss : Nat → Nat → Prop} {S5 : Nat → Prop} {d : Df} {p : P3} (h : Nw W wr O v l Ss) (hl : l.length ≤ 15) (hb : Below wr.heap.size wr w5) (hd : DM w5 S5 p.1 p.2.1 p.2.2 (newM d)) (hS : ∀ b, S5 b → wr.heap.size ≤ b) (h1 : ∀ u ∈ dcells d p, u.oneCell' = true) :
    ∃ a2 c2 W3, (appendV #[58, 58] 58 #[v, .slice (some ⟨w5.heap.size, 0, none⟩) 1 1]).run Try.prog (w5.alloc (.cells (dcells d p).toArray 65)).drew = .ok (.slice a2 (l.length + 1) c2) W3 ∧
      W3.cell? ⟨O, 0, none⟩ = some v ∧ W3.frozen? ⟨O, 0, none⟩ = false ∧ Nw W (W3.setCell ⟨O, 0, none⟩ (.slice a2 (l.length + 1) c2)) O (.slice a2 (l.length + 1) c2) (l ++ [(d, p)]) (fun m => if m = l.length then S5 else Ss m) := by
  obtain ⟨i0, hi0, hz0, hz1, hz2⟩ := info_parts map_info
  have hOl : O < wr.heap.size := cell_block_lt h.c0
  have hvl := own_ltM h.own
  have h5 := hb.size
  have hown5 : w5.ownsRow 0 65 7 v l.length (flatD l) := own_keptM h.own fun b e => hb.block b (hvl b e)
  have hown : (w5.alloc (.cells (dcells d p).toArray 65)).drew.ownsRow 0 65 7 v l.length (flatD l) := World.ownsRow.alloc hown5 _
  have hn : (w5.alloc (.cells (dcells d p).toArray 65)).heap[w5.heap.size]? = some (.cells (dcells d p).toArray 65 (0, 0)) := heap_alloc_new w5 _
  obtain ⟨v', W3, hrun, hown3, hgr, -, hat⟩ := run_append_own_at (P := Try.prog) (w5.alloc (.cells (dcells d p).toArray 65)).drew 0 58 58 65 i0 _ 7 56 Try.underlying58 hi0 hz0 hz1 hz2 rfl (by omega) v l.length (flatD l) hown
    ⟨w5.heap.size, 0, none⟩ 1 1 (dcells d p) rfl (fun j u hu => by
      rw [add_lit, Nat.zero_add]
      show (w5.alloc (.cells (dcells d p).toArray 65)).cell? ⟨w5.heap.size, j, none⟩ = some u
      unfold World.cell?
      simp only [hn]
      simpa using hu) h1 (by unfold maxLen; omega) (by omega) (by show 0 ≤ _; omega)
  rw [show flatD l ++ dcells d p = flatD (l ++ [(d, p)]) from (flatD_snoc l (d, p)).symm] at hown3
  obtain ⟨a2, c2, rfl⟩ : ∃ a2 c2, v' = .slice a2 (l.length + 1) c2 := by
    rcases hown3.2 with ⟨_, h0⟩ | ⟨g, cap, cur, hv, -⟩
    · omega
    · exact ⟨_, cap, hv⟩
  have hold5 : ∀ b, b < w5.heap.size → some b ≠ v.ownBlock → W3.heap[b]? = w5.heap[b]? := fun b hb2 hn2 => by
    rw [hgr.block b (by simp; omega) hn2]
    exact Below.heap_alloc _ _ _ hb2
  have hold : ∀ b, b < wr.heap.size → some b ≠ v.ownBlock → W3.heap[b]? = wr.heap[b]? := fun b hb2 hn2 => (hold5 b (by omega) hn2).trans (hb.block b hb2)
  have hz : w5.heap.size + 1 ≤ W3.heap.size := by have := hgr.size; simpa using this
  have hnv : ∀ b, some b = (Value.slice a2 (l.length + 1) c2).ownBlock → some b = v.ownBlock ∨ w5.heap.size ≤ b := fun b hb2 => by
    rcases hat with h1 | h1
    · exact .inl (by rw [← h1]; exact hb2)
    · rw [h1] at hb2
      simp at hb2
      exact .inr (by omega)
  have eO := hold O hOl h.vO
  have eb : ∀ b, b ≠ O → (W3.setCell ⟨O, 0, none⟩ (.slice a2 (l.length + 1) c2)).heap[b]? = W3.heap[b]? := fun b hb2 => Below.heap_setCell _ _ _ _ hb2
  have hvO : some O ≠ (Value.slice a2 (l.length + 1) c2).ownBlock := fun e => by
    rcases hnv O e with h1 | h1
    · exact h.vO h1
    · omega
  have hbW := h.b
  have hWr := hbW.size
  have hd5 := hd.lt
  refine ⟨a2, c2, W3, hrun, (World.cell?_of_block (w := wr) (a := ⟨O, 0, none⟩) eO).trans h.c0, (World.frozen?_of_block (w := wr) (a := ⟨O, 0, none⟩) eO).trans h.f0, ⟨?_, ?_, ?_, hvO, fun m hm => ?_, fun m hm => ?_, fun m b hm e => ?_, fun i j b hi hj hne hbi => ?_, ?_, h.nO, fun m b hm hs => ?_, fun b e => ?_⟩⟩
  · exact World.cell?_setCell_same _ _ _ ((World.cell?_of_block (w := wr) (a := ⟨O, 0, none⟩) eO).trans h.c0)
  · rw [World.frozen?_setCell]
    exact (World.frozen?_of_block (w := wr) (a := ⟨O, 0, none⟩) eO).trans h.f0
  · rw [List.length_append]
    exact own_keptM hown3 fun b e => eb b (fun e2 => hvO (by rw [← e2]; exact e))
  · rw [List.length_append, List.length_singleton] at hm
    rw [getD_snocP hm]
    by_cases e : m = l.length
    · simp only [if_pos e]
      refine hd.kept fun b hb2 => ?_
      have h9 := hS b hb2
      rw [eb b (by omega)]
      exact hold5 b (hd5 b hb2) (fun e2 => by have := hvl b e2; omega)
    · simp only [if_neg e]
      refine (h.dm m (by omega)).kept fun b hb2 => ?_
      have h9 := (h.dm m (by omega)).lt b hb2
      rw [eb b (fun e2 => h.OS m (by omega) (by rw [← e2]; exact hb2))]
      exact hold b h9 (fun e2 => h.gS m b (by omega) e2 hb2)
  · rw [List.length_append, List.length_singleton] at hm
    by_cases e : m = l.length
    · simp only [if_pos e]
      intro hb2
      have := hS O hb2; omega
    · simp only [if_neg e]; exact h.OS m (by omega)
  · rw [List.length_append, List.length_singleton] at hm
    by_cases e2 : m = l.length
    · simp only [if_pos e2]
      intro hb2
      rcases hnv b e with h1 | h1
      · have := hS b hb2; have := hvl b h1; omega
      · have := hd5 b hb2; omega
    · simp only [if_neg e2]
      intro hb2
      rcases hnv b e with h1 | h1
      · exact h.gS m b (by omega) h1 hb2
      · have := (h.dm m (by omega)).lt b hb2; omega
  · rw [List.length_append, List.length_singleton] at hi hj
    by_cases e1 : i = l.length
    · by_cases e2 : j = l.length
      · omega
      · simp only [if_pos e1] at hbi
        simp only [if_neg e2]
        intro hb2
        have := hS b hbi; have := (h.dm j (by omega)).lt b hb2; omega
    · simp only [if_neg e1] at hbi
      by_cases e2 : j = l.length
      · simp only [if_pos e2]
        intro hb2
        have := hS b hb2; have := (h.dm i (by omega)).lt b hbi; omega
      · simp only [if_neg e2]
        exact h.dis i j b (by omega) (by omega) hne hbi
  · refine ⟨?_, ?_, ?_, by simp [World.setCell]; omega, fun b hb2 => ?_⟩
    · show W3.os = _
      exact hgr.os.trans (hb.os.trans hbW.os)
    · show W3.tape = _
      exact hgr.tape.trans (hb.tape.trans hbW.tape)
    · show W3.output = _
      exact hgr.output.trans (hb.output.trans hbW.output)
    · have h9 := h.nO
      rw [eb b (by omega), hold b (by omega) (fun e => by have := h.nv b e; omega)]
      exact hbW.block b hb2
  · rw [List.length_append, List.length_singleton] at hm
    by_cases e : m = l.length
    · simp only [if_pos e] at hs
      have := hS b hs; omega
    · simp only [if_neg e] at hs
      exact h.nS m b (by omega) hs
  · rcases hnv b e with h1 | h1
    · exact h.nv b h1
    · omega
end Go.Proofs.Ytenjdgoammaiiaa
