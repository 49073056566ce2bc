/-
  Proved here: words for the law ObjsMakes: parts and objects moved as wholes, a row of objects that the law makes, what may be made of the first parts. Conditions: as each says.
-/
import Derived.Test.YtcdpmggjdmibjaaOSame
import Derived.Deep.MidRow
import Derived.Great.BuildSlice
namespace Go.Proofs.Ytcdpmggjdmibjaa
open Go.RowKit

/-! ### Whole parts and objects -/
def loadPtV (v : Value) : Sem Value := Instr.loadAt 49 v
theorem loadPt_veil (v : Value) : Instr.loadAt 49 v = loadPtV v := rfl
theorem run_loadPt {w : World} {p o : Nat} {X : Array Value} (hs : X.size = 16) (hc : ∀ j, j < 16 → w.cell? ⟨p, o + j, none⟩ = X[j]?) : (loadPtV (.pointer (some ⟨p, o, none⟩))).run Try.prog w = .ok (.agg X) w := by
  have h := run_loadAt_mid (P := Try.prog) w p o 49 X.toList _ (fun j v hv => (hc j (by have := (List.getElem?_eq_some_iff.1 hv).1; simp at this; omega)).trans (by simpa using hv)) Try.underlying49 rfl (by rw [Array.length_toList, hs]; kernel_rfl)
  unfold loadPtV
  simpa using h
theorem run_loadOb {w : World} {p o : Nat} {X : Array Value} (hs : X.size = 13) (hc : ∀ j, j < 13 → w.cell? ⟨p, o + j, none⟩ = X[j]?) : (loadObjV (.pointer (some ⟨p, o, none⟩))).run Try.prog w = .ok (.agg X) w := by
  have h := run_loadAt_mid (P := Try.prog) w p o 38 X.toList _ (fun j v hv => (hc j (by have := (List.getElem?_eq_some_iff.1 hv).1; simp at this; omega)).trans (by simpa using hv)) Try.underlying38 rfl (by rw [Array.length_toList, hs]; kernel_rfl)
  unfold loadObjV
  simpa using h
theorem ObX.one {w : World} {Y : Array Value} {o : Kob} (h : ObX w Y o) : ∀ i, i < 13 → ∃ v, Y[i]? = some v ∧ v.oneCell' = true := by
  intro i hi
  obtain ⟨a, k, h12, -⟩ := h.x12
  by_cases h0 : i = 0
  · subst h0; exact ⟨_, h.x0, rfl⟩
  · by_cases h1 : i = 1
    · subst h1; exact ⟨_, h.x1, rfl⟩
    · by_cases h2 : i = 2
      · subst h2; exact ⟨_, h.x2, rfl⟩
      · by_cases h8 : i < 11
        · obtain ⟨j, rfl⟩ : ∃ j, i = 3 + j := ⟨i - 3, by omega⟩
          exact ⟨_, h.xf j (by omega), rfl⟩
        · by_cases e11 : i = 11
          · subst e11; exact ⟨_, h.x11, rfl⟩
          · obtain rfl : i = 12 := by omega
            exact ⟨_, h12, rfl⟩
theorem PtX.one {w : World} {X : Array Value} {p : Pt} (h : PtX w X p) : X.all (·.oneCell') = true := by
  refine all_one fun i hi => ?_
  rw [h.size] at hi
  obtain ⟨Y, hY, hYX⟩ := h.xo
  by_cases h0 : i = 0
  · subst h0; exact ⟨_, h.x0, rfl⟩
  · by_cases h1 : i = 1
    · subst h1; exact ⟨_, h.x1, rfl⟩
    · by_cases e15 : i = 15
      · subst e15; exact ⟨_, h.x15, rfl⟩
      · obtain ⟨j, rfl⟩ : ∃ j, i = 2 + j := ⟨i - 2, by omega⟩
        rw [hYX j (by omega)]
        exact hY.one j (by omega)
theorem put_part {w : World} {X : Array Value} {p : Pt} (h : PtX w X p) (W : World) : (storeCells ⟨W.heap.size, 0, none⟩ X.toList).run Try.prog (W.alloc (.cells #[.bool false, .bool false, .int .i64 0, .int .i64 0, .int .i64 0, .int .u64 0, .int .u64 0, .int .u64 0, .int .u64 0, .int .u64 0, .int .u64 0, .int .u64 0, .int .u64 0, .string { data := #[] }, .slice none 0 0, .int .u64 0] 49)) = .ok () (W.alloc (.cells X 49)) :=
  run_storeCells_new W 49 _ X (by rw [h.size]; kernel_rfl) (by rw [h.size]; rfl) h.one
theorem arr13 (Y : Array Value) (h : Y.size = 13) : Y = #[Y[0]'(by omega), Y[1]'(by omega), Y[2]'(by omega), Y[3]'(by omega), Y[4]'(by omega), Y[5]'(by omega), Y[6]'(by omega), Y[7]'(by omega), Y[8]'(by omega), Y[9]'(by omega), Y[10]'(by omega), Y[11]'(by omega), Y[12]'(by omega)] := by
  refine Array.ext (by simp [h]) fun i h1 h2 => ?_
  have hi : i < 13 := by omega
  match i, hi with
  | 0, _ => rfl
  | 1, _ => rfl
  | 2, _ => rfl
  | 3, _ => rfl
  | 4, _ => rfl
  | 5, _ => rfl
  | 6, _ => rfl
  | 7, _ => rfl
  | 8, _ => rfl
  | 9, _ => rfl
  | 10, _ => rfl
  | 11, _ => rfl
  | 12, _ => rfl
  | n + 13, h => exact absurd h (by omega)
def buildObV (parts : Array (Nat × Value)) : Sem Value := Instr.buildSlice 24 1 parts
theorem buildOb_veil (parts : Array (Nat × Value)) : Instr.buildSlice 24 1 parts = buildObV parts := rfl
theorem ob_info : (Try.prog.info? 38).map (fun i => (i.zero, i.size, i.bytes)) = some (some (.agg #[.int .i64 0, .int .i64 0, .int .i64 0, .int .u64 0, .int .u64 0, .int .u64 0, .int .u64 0, .int .u64 0, .int .u64 0, .int .u64 0, .int .u64 0, .string { data := #[] }, .slice none 0 0]), 13, 128) := by kernel_rfl
theorem run_buildOb (W : World) (Y : Array Value) (h : Y.size = 13) : (buildObV #[(0, .agg Y)]).run Try.prog W = .ok (.slice (some ⟨W.heap.size, 0, none⟩) 1 1) (W.alloc (.cells Y 38)) := by
  obtain ⟨i0, hi0, hz0, hz1, hz2⟩ := info_parts ob_info
  unfold buildObV
  refine run_buildSlice W 24 38 1 _ Y i0 _ Try.underlying24 hi0 hz0 (by rw [hz1]; omega) (by rw [hz1]; omega) ?_
  rw [hz1, arr13 Y h]
  kernel_rfl
/-- A row of m objects that the law has made. -/
structure OwnO (w W : World) (v : Value) (m : Nat) : Prop where
  below : Below w.heap.size w W
  own : ∃ xs : List Value, W.ownsRow w.heap.size 38 13 v m xs
theorem owns_below {W W' : World} {base e size n : Nat} {v : Value} {xs : List Value} (h : W.ownsRow base e size v n xs) (hb : Below W.heap.size W W') : W'.ownsRow base e size v n xs := by
  refine ⟨h.1, ?_⟩
  rcases h.2 with h0 | ⟨g, cap, cur, hv, hg, hh, h'⟩
  · exact .inl h0
  · exact .inr ⟨g, cap, cur, hv, hg, (hb.block g (Array.getElem?_eq_some_iff.1 hh).1).trans hh, h'⟩
theorem OwnO.stay {w W W' : World} {v : Value} {m : Nat} (h : OwnO w W v m) (hb : Below W.heap.size W W') : OwnO w W' v m := by
  obtain ⟨xs, hx⟩ := h.own
  exact ⟨h.below.trans (hb.mono h.below.size), xs, owns_below hx hb⟩
theorem OwnO.shape {w W : World} {v : Value} {m : Nat} (h : OwnO w W v m) : ∃ a c, v = .slice a m c := by
  obtain ⟨xs, hx⟩ := h.own
  rcases hx.2 with ⟨rfl, rfl⟩ | ⟨g, cap, cur, rfl, -⟩
  · exact ⟨none, 0, rfl⟩
  · exact ⟨_, cap, rfl⟩
/-- 'append(objects, p.Obj)'. -/
theorem wpList_obj {w W : World} {ops : Array Oper} {rest : List Oper} {o : Oper} {a : Act} {Q : Exit → Act → World → Prop} (hgd : o.guard = none) (s x : Operand)
    (ho : o.op = .call { callee := .builtin .append, args := #[s, x], argTypes := #[24, 24] }) {v : Value} {m : Nat} {Y : Array Value} {ob : Kob} (h0 : OwnO w W v m) (hY : ObX W Y ob) (hs : a.eval s = v) (hx : a.eval x = .slice (some ⟨W.heap.size, 0, none⟩) 1 1)
    (hl : m ≤ 100) (h : ∀ v' w', OwnO w w' v' (m + 1) → (∀ b, b < W.heap.size → v.ownBlock ≠ some b → w'.heap[b]? = W.heap[b]?) → wpList Try.prog ops Q rest (a.put o.dst v') w') :
    wpList Try.prog ops Q (o :: rest) a (W.alloc (.cells Y 38)) := by
  obtain ⟨i0, hi0, hz0, hz1, hz2⟩ := info_parts ob_info
  obtain ⟨xs, hown0⟩ := h0.own
  have hb : Below w.heap.size w (W.alloc (.cells Y 38)) := h0.below.alloc h0.below.size _
  have hown := hown0.alloc (.cells Y 38)
  refine wpList_append_own_at _ hgd s x 24 ho w.heap.size 38 i0 _ 13 128 Try.underlying24 hi0 hz0 hz1 hz2 rfl (by omega) v m xs hs hown ⟨W.heap.size, 0, none⟩ 1 1 Y.toList hx (by rw [Array.length_toList, hY.size])
    (fun j u hu => ?_) (fun u hu => ?_) (by unfold maxLen; omega) (by omega) (by have := h0.below.size; simp; omega) fun v1 w1 hown1 hgr _ _ => ?_
  · rw [add_lit, Nat.zero_add, box_cells]
    simpa using hu
  · obtain ⟨j, hj, rfl⟩ := List.mem_iff_getElem.1 hu
    have hj13 : j < 13 := by rw [Array.length_toList, hY.size] at hj; exact hj
    obtain ⟨v', hv', ho'⟩ := hY.one j hj13
    rw [Array.getElem_toList]
    rw [Array.getElem?_eq_getElem (by rw [hY.size]; exact hj13)] at hv'
    injection hv' with hv'
    rw [hv']
    exact ho'
  · have hb1 := hb.grown hgr (by have := h0.below.size; simp; omega) (fun k hk => (hown0.lt k hk).1)
    exact h v1 w1 ⟨hb1, _, hown1⟩ fun b hbl hne => (hgr.block b (by simp; omega) (fun e => hne e.symm)).trans (Below.heap_alloc _ _ _ hbl)
end Go.Proofs.Ytcdpmggjdmibjaa
