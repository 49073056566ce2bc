/-
  Proved here: a context that Make is building, in memory: one object more, one word more. No Go text is walked. Conditions: as each lemma says.
-/
import Derived.Test.YtcdpmggjdmibjaaZClone
namespace Go.Proofs.Ytcdpmggjdmibjaa
open Go.RowKit

def ctxCells (hook : Int) (ws : Nat → Int) (v : Value) (now : Int) : Array Value := #[.int .i64 hook, .int .u64 (ws 0), .int .u64 (ws 1), .int .u64 (ws 2), .int .u64 (ws 3), .int .u64 (ws 4), .int .u64 (ws 5), .int .u64 (ws 6), .int .u64 (ws 7), v, .int .u64 now]
def updW (ws : Nat → Int) (i : Nat) (x : Int) : Nat → Int := fun j => if j = i then x else ws j
theorem ctx_word (hook now x : Int) (ws : Nat → Int) (v : Value) (i : Nat) (hi : i < 8) : (ctxCells hook ws v now).setIfInBounds (1 + i) (.int .u64 x) = ctxCells hook (updW ws i x) v now := match i, hi with
  | 0, _ => rfl
  | 1, _ => rfl
  | 2, _ => rfl
  | 3, _ => rfl
  | 4, _ => rfl
  | 5, _ => rfl
  | 6, _ => rfl
  | 7, _ => rfl
  | n + 8, h => absurd h (by omega)
theorem ctx_objs (hook now : Int) (ws : Nat → Int) (v v' : Value) : (ctxCells hook ws v now).setIfInBounds 9 v' = ctxCells hook ws v' now := rfl
theorem ctx_cw (hook now : Int) (ws : Nat → Int) (v : Value) (i : Nat) (hi : i < 8) : (ctxCells hook ws v now)[1 + i]? = some (.int .u64 (ws i)) := match i, hi with
  | 0, _ => rfl
  | 1, _ => rfl
  | 2, _ => rfl
  | 3, _ => rfl
  | 4, _ => rfl
  | 5, _ => rfl
  | 6, _ => rfl
  | 7, _ => rfl
  | n + 8, h => absurd h (by omega)
/-- A row of objects of the call's own, whose lists lie in blocks of numbers. -/
def Objs (w : World) (B : Nat) (v : Value) (os : List Kob) : Prop := ∃ xs, w.ownsRow B 38 13 v os.length xs ∧ ∀ i, i < os.length → ∃ Y, ObC w Y (os.getD i default) ∧ ∀ j, j < 13 → xs[i * 13 + j]? = Y[j]?
/-- What stays beside the context and its objects. -/
def Beside (G : Nat) (w w' : World) : Prop := ∀ (b : Nat) (cs : Array Value) (T : TypeId) (fz : Nat × Nat), w.heap[b]? = some (Obj.cells cs T fz) → b ≠ G → T ≠ 38 → w'.heap[b]? = some (Obj.cells cs T fz)
theorem Beside.refl (G : Nat) (w : World) : Beside G w w := fun _ _ _ _ h _ _ => h
theorem Beside.trans {G : Nat} {a b c : World} (h : Beside G a b) (k : Beside G b c) : Beside G a c := fun i cs T fz hi h1 h2 => k i cs T fz (h i cs T fz hi h1 h2) h1 h2
theorem Beside.below {G : Nat} {w w' : World} (hb : Below w.heap.size w w') : Beside G w w' := fun i _ _ _ hi _ _ => (hb.block i (Array.getElem?_eq_some_iff.1 hi).1).trans hi
/-- A context that is being built, in block G. -/
structure Mk (W0 wr : World) (G : Nat) (hook now : Int) (ws : Nat → Int) (v : Value) (os : List Kob) : Prop where
  box : wr.heap[G]? = some (.cells (ctxCells hook ws v now) 26 (0, 0))
  objs : Objs wr W0.heap.size v os
  hG : W0.heap.size ≤ G
  b : Below W0.heap.size W0 wr
section
variable {W0 wr w1 : World} {G : Nat} {hook now : Int} {ws : Nat → Int} {v : Value} {os : List Kob}
theorem own_lt {w : World} {B e m n : Nat} {v : Value} {xs : List Value} (h : w.ownsRow B e m v n xs) : ∀ b, v.ownBlock = some b → B ≤ b ∧ ∃ cs, w.heap[b]? = some (.cells cs e (0, 0)) := by
  intro b hb
  rcases h.2 with ⟨rfl, -⟩ | ⟨g, cap, cur, rfl, hg, hh, -⟩
  · cases hb
  · injection hb with hb
    subst hb
    exact ⟨hg, cur, hh⟩
theorem Objs.keep {w w' : World} {B : Nat} (h : Objs w B v os) (h1 : ∀ b, v.ownBlock = some b → w'.heap[b]? = w.heap[b]?) (h2 : IntsStay w w') : Objs w' B v os := by
  obtain ⟨xs, ho, hc⟩ := h
  refine ⟨xs, ⟨ho.1, ?_⟩, fun i hi => ?_⟩
  · rcases ho.2 with h0 | ⟨g, cap, cur, rfl, hg, hh, r⟩
    · exact .inl h0
    · exact .inr ⟨g, cap, cur, rfl, hg, by rw [h1 g rfl]; exact hh, r⟩
  · obtain ⟨Y, hY, hj⟩ := hc i hi
    exact ⟨Y, hY.move h2, hj⟩
theorem ints_below {w w' : World} (hb : Below w.heap.size w w') : IntsStay w w' := fun g _ hg => (hb.block g (Array.getElem?_eq_some_iff.1 hg).1).trans hg
theorem Objs.stay {w w' : World} {B : Nat} (h : Objs w B v os) (hb : Below w.heap.size w w') : Objs w' B v os := by
  have hx := h
  obtain ⟨xs, ho, -⟩ := hx
  refine h.keep (fun b e => ?_) (ints_below hb)
  obtain ⟨-, cs, hh⟩ := own_lt ho b e
  exact hb.block b (Array.getElem?_eq_some_iff.1 hh).1
theorem Mk.stay (H : Mk W0 wr G hook now ws v os) (hb : Below wr.heap.size wr w1) : Mk W0 w1 G hook now ws v os :=
  ⟨(hb.block G (Array.getElem?_eq_some_iff.1 H.box).1).trans H.box, H.objs.stay hb, H.hG, H.b.trans (hb.mono H.b.size)⟩
theorem Objs.shape {w : World} {B : Nat} (h : Objs w B v os) : ∃ a c, v = .slice a os.length c := by
  obtain ⟨xs, ho, -⟩ := h
  rcases ho.2 with ⟨rfl, h0⟩ | ⟨g, cap, cur, rfl, -⟩
  · exact ⟨none, 0, by rw [h0]⟩
  · exact ⟨_, cap, rfl⟩
theorem Objs.row {w : World} {B : Nat} {a : Option Addr} {n c : Nat} (h : Objs w B (.slice a n c) os) : ObRow w a os := by
  intro hn
  obtain ⟨xs, ho, hc⟩ := h
  have hc1 := fun g (e : (Value.slice a n c).ownBlock = some g) => ho.cells e
  rcases ho.2 with ⟨e, h0⟩ | ⟨g, cap, cur, e, hg, hh, -⟩
  · omega
  · injection e with e1 e2 e3
    subst e1
    refine ⟨g, 0, rfl, (Array.getElem?_eq_some_iff.1 hh).1, fun i hi => ?_⟩
    obtain ⟨Y, hY, hj⟩ := hc i hi
    refine ⟨Y, hY.ob, fun j hjj => ?_⟩
    have h2 := hj j hjj
    have hs : j < Y.size := by rw [hY.ob.size]; exact hjj
    rw [Array.getElem?_eq_getElem hs] at h2 ⊢
    have h3 := hc1 g rfl (i * 13 + j) _ h2
    rwa [add_lit] at h3
theorem Mk.shape (H : Mk W0 wr G hook now ws v os) : ∃ a c, v = .slice a os.length c := H.objs.shape
theorem Mk.cx (H : Mk W0 wr G hook now ws v os) (hb : ∀ i, i < 8 → 0 ≤ ws i ∧ ws i ≤ 18446744073709551615) (hl : os.length ≤ 100) : CxX wr (ctxCells hook ws v now) ⟨hook, (List.range 8).map ws, os, now⟩ := by
  obtain ⟨a, c, rfl⟩ := H.shape
  have hw : ∀ i, i < 8 → ((List.range 8).map ws).getD i 0 = ws i := by
    intro i hi
    rw [List.getD_eq_getElem?_getD, List.getElem?_map, List.getElem?_range hi]
    rfl
  refine ⟨rfl, rfl, fun i hi => ?_, ⟨a, c, rfl, H.objs.row⟩, rfl, fun i => ?_, by unfold maxLen; show os.length ≤ _; omega⟩
  · show (ctxCells hook ws _ now)[1 + i]? = some (.int .u64 (((List.range 8).map ws).getD i 0))
    rw [hw i hi]
    exact ctx_cw _ _ _ _ i hi
  · show 0 ≤ ((List.range 8).map ws).getD i 0 ∧ _
    by_cases hi : i < 8
    · show 0 ≤ ((List.range 8).map ws).getD i 0 ∧ ((List.range 8).map ws).getD i 0 ≤ _
      rw [hw i hi]
      exact hb i hi
    · have e : ((List.range 8).map ws).getD i 0 = 0 := by
        rw [List.getD_eq_getElem?_getD, List.getElem?_eq_none (by simp; omega)]
        rfl
      show 0 ≤ ((List.range 8).map ws).getD i 0 ∧ ((List.range 8).map ws).getD i 0 ≤ _
      rw [e]
      omega
/-- The context's block is written. -/
theorem Mk.set (H : Mk W0 wr G hook now ws v os) (C : Array Value) (ws' : Nat → Int) (hC : C = ctxCells hook ws' v now) : Mk W0 (wr.setRow G C) G hook now ws' v os ∧ Beside G wr (wr.setRow G C) := by
  have hx := H.objs
  obtain ⟨xs, ho, -⟩ := hx
  refine ⟨⟨by rw [setRow_heap _ _ _ _ _ _ H.box, hC], H.objs.keep (fun b e => ?_) (ints_setRow H.box (by decide)), H.hG, below_setRow H.b H.hG _⟩, fun b cs T fz hb hne _ => (setRow_other _ _ _ _ hne).trans hb⟩
  obtain ⟨-, cs, hh⟩ := own_lt ho b e
  exact setRow_other _ _ _ _ (fun e2 => by rw [e2, H.box] at hh; injection hh with hh; injection hh with _ hh _; cases hh)
/-- A word is written. -/
theorem Mk.word (H : Mk W0 wr G hook now ws v os) (i : Nat) (hi : i < 8) (x : Int) : Mk W0 (wr.setCell ⟨G, 1 + i, none⟩ (.int .u64 x)) G hook now (updW ws i x) v os ∧ Beside G wr (wr.setCell ⟨G, 1 + i, none⟩ (.int .u64 x)) := by
  rw [setCell_eq_setRow wr G (1 + i) _ _ _ _ H.box]
  exact H.set _ _ (ctx_word _ _ _ _ _ i hi)
def appendV (ats : Array TypeId) (ty : TypeId) (args : Array Value) : Sem Value := Builtin.append_ ats ty args
theorem append_veil (ats : Array TypeId) (ty : TypeId) (args : Array Value) : Builtin.append_ ats ty args = appendV ats ty args := rfl
/-- One object more. -/
theorem Mk.push {Y : Array Value} {o : Kob} (H : Mk W0 wr G hook now ws v os) (hl : os.length ≤ 20) (hb : Below wr.heap.size wr w1) (hY : ObC w1 Y o) :
    ∃ a2 c2 W3, (appendV #[24, 24] 24 #[v, .slice (some ⟨w1.heap.size, 0, none⟩) 1 1]).run Try.prog (w1.alloc (.cells Y 38)) = .ok (.slice a2 (os.length + 1) c2) W3 ∧ W3.cell? ⟨G, 9, none⟩ = some v ∧ W3.frozen? ⟨G, 9, none⟩ = false ∧
      Mk W0 (W3.setCell ⟨G, 9, none⟩ (.slice a2 (os.length + 1) c2)) G hook now ws (.slice a2 (os.length + 1) c2) (os ++ [o]) ∧ Beside G wr (W3.setCell ⟨G, 9, none⟩ (.slice a2 (os.length + 1) c2)) := by
  obtain ⟨i0, hi0, hz0, hz1, hz2⟩ := info_parts ob_info
  have H1 := H.stay hb
  have H2 := H1.stay ((Below.refl w1.heap.size w1).alloc (Nat.le_refl _) (.cells Y 38))
  have hY2 := hY.stay ((Below.refl w1.heap.size w1).alloc (Nat.le_refl _) (.cells Y 38))
  have hszY := hY.ob.size
  obtain ⟨xs, hown, hc⟩ := H2.objs
  have hG2 := (Array.getElem?_eq_some_iff.1 H2.box).1
  have hB2 := H2.b.size
  obtain ⟨v', W3, hrun, hown3, hgr, -, hat⟩ := run_append_own_at (P := Try.prog) (w1.alloc (.cells Y 38)) W0.heap.size 24 24 38 i0 _ 13 128 Try.underlying24 hi0 hz0 hz1 hz2 rfl (by omega) v os.length xs hown
    ⟨w1.heap.size, 0, none⟩ 1 1 Y.toList (by rw [Array.length_toList, hszY]) (fun j u hu => by rw [add_lit, Nat.zero_add, box_cells]; simpa using hu) (fun u hu => by
      obtain ⟨j, hj, rfl⟩ := List.mem_iff_getElem.1 hu
      have hj13 : j < 13 := by rw [Array.length_toList, hszY] at hj; exact hj
      obtain ⟨v2, hv2, ho2⟩ := hY.ob.one j hj13
      rw [Array.getElem_toList]
      rw [Array.getElem?_eq_getElem (by rw [hszY]; exact hj13)] at hv2
      injection hv2 with hv2
      rw [hv2]
      exact ho2) (by unfold maxLen; omega) (by omega) (by simpa using hB2)
  obtain ⟨a2, c2, rfl⟩ : ∃ a2 c2, v' = .slice a2 (os.length + 1) c2 := by
    rcases hown3.2 with ⟨_, h0⟩ | ⟨g, cap, cur, hv, -⟩
    · omega
    · exact ⟨_, cap, hv⟩
  -- blocks of another type stay
  have hoth : ∀ (b : Nat) (cs : Array Value) (T : TypeId) (fz : Nat × Nat), (w1.alloc (.cells Y 38)).heap[b]? = some (Obj.cells cs T fz) → T ≠ 38 → W3.heap[b]? = some (Obj.cells cs T fz) := fun b cs T fz hb2 hT => by
    refine (hgr.block b (Array.getElem?_eq_some_iff.1 hb2).1 (fun e => ?_)).trans hb2
    obtain ⟨-, cs2, hh⟩ := own_lt hown b e.symm
    rw [hb2] at hh
    injection hh with hh
    injection hh with _ hh _
    exact hT hh
  have hbox3 := hoth _ _ _ _ H2.box (by decide)
  have hc9 : W3.cell? ⟨G, 9, none⟩ = some v := by rw [cell_of_row _ _ _ _ _ _ hbox3]; rfl
  have hf9 : W3.frozen? ⟨G, 9, none⟩ = false := by simp [World.frozen?, hbox3]
  have e4 := setCell_eq_setRow W3 G 9 _ _ _ (.slice a2 (os.length + 1) c2) hbox3
  have hb4 : Below W0.heap.size W0 (W3.setCell ⟨G, 9, none⟩ (.slice a2 (os.length + 1) c2)) := (H2.b.grown hgr hB2 (fun k hk => (own_lt hown k hk).1)).setCell (p := ⟨G, 9, none⟩) H.hG _
  refine ⟨a2, c2, W3, hrun, hc9, hf9, ⟨?_, ?_, H.hG, hb4⟩, ?_⟩
  · rw [e4, setRow_heap _ _ _ _ _ _ hbox3, ctx_objs]
  · have hi3 : IntsStay (w1.alloc (.cells Y 38)) (W3.setCell ⟨G, 9, none⟩ (.slice a2 (os.length + 1) c2)) := fun g cs hg => by
      rw [e4]
      exact ints_setRow hbox3 (by decide) g cs (hoth g cs 3 (0, 0) hg (by decide))
    refine ⟨xs ++ Y.toList, ⟨?_, ?_⟩, fun i hi => ?_⟩
    · have hYl : Y.toList.length = 13 := by rw [Array.length_toList, hszY]
      rw [List.length_append, List.length_append, hown.1, hYl, List.length_singleton]
      omega
    · rw [List.length_append, List.length_singleton]
      rcases hown3.2 with h0 | ⟨g, cap, cur, hv, hg, hh, r⟩
      · exact .inl h0
      · refine .inr ⟨g, cap, cur, hv, hg, ?_, r⟩
        rw [e4, setRow_other _ _ _ _ (fun e2 => by rw [e2, hbox3] at hh; injection hh with hh; injection hh with _ hh _; cases hh)]
        exact hh
    · rw [List.length_append, List.length_singleton] at hi
      by_cases e : i = os.length
      · subst e
        refine ⟨Y, ?_, fun j hj => ?_⟩
        · rw [List.getD_eq_getElem?_getD, List.getElem?_append_right (Nat.le_refl _), Nat.sub_self]
          exact hY2.move hi3
        · rw [List.getElem?_append_right (by rw [hown.1]; omega), hown.1, Nat.add_sub_cancel_left]
          simp
      · obtain ⟨Y', hY', hj'⟩ := hc i (by omega)
        refine ⟨Y', ?_, fun j hj => ?_⟩
        · rw [List.getD_eq_getElem?_getD, List.getElem?_append_left (by omega), ← List.getD_eq_getElem?_getD]
          exact hY'.move hi3
        · rw [List.getElem?_append_left (by rw [hown.1]; omega)]
          exact hj' j hj
  · intro b cs T fz hb2 hne hT
    rw [e4, setRow_other _ _ _ _ hne]
    have hw1 := (hb.block b (Array.getElem?_eq_some_iff.1 hb2).1).trans hb2
    exact hoth b cs T fz ((Below.heap_alloc _ _ _ (Array.getElem?_eq_some_iff.1 hw1).1).trans hw1) hT
end
end Go.Proofs.Ytcdpmggjdmibjaa
