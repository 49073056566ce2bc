/-
  Proved here: what clone of package objs gives, and slices.Clone of numbers. Conditions: an object that reads as one, of at most fifty it comes of.
-/
import Derived.Test.YtcdpmggjdmibjaaZWord
import Derived.Test.YtcdpmggjdmibjaaGrow
import Derived.Lib.SliceRun
import Derived.Laws.CopyRow
import Derived.Laws.CopyOwn
import Derived.WalkSpells
namespace Go.Proofs.Ytcdpmggjdmibjaa
open Go.RowKit

def i64s (zs : List Int) : List Value := zs.map (Value.int .i64)
theorem int_info : (Try.prog.info? 3).map (fun i => (i.zero, i.size, i.bytes)) = some (some (.int .i64 0), 1, 8) := by kernel_rfl
theorem own_emptyI (W : World) : (W.alloc (.cells #[] 3)).ownsRow W.heap.size 3 1 (.slice (some ⟨W.heap.size, 0, none⟩) 0 0) 0 [] :=
  ⟨rfl, .inr ⟨W.heap.size, 0, #[], rfl, Nat.le_refl _, heap_alloc_new W _, Nat.le_refl _, Nat.zero_le _, rfl, rfl⟩⟩
/-- A row of numbers that lies in a block of numbers. -/
def RowOwn (w : World) (a : Option Addr) (zs : List Int) : Prop := 0 < zs.length → ∃ g cs, a = some ⟨g, 0, none⟩ ∧ w.heap[g]? = some (.cells cs 3 (0, 0)) ∧ ∀ j, j < zs.length → cs[j]? = some (.int .i64 (zs.getD j 0))
theorem RowOwn.row {w : World} {a : Option Addr} {zs : List Int} (h : RowOwn w a zs) : RowI w .i64 a zs := by
  intro hn
  obtain ⟨g, cs, e, hh, hc⟩ := h hn
  exact ⟨g, 0, e, (Array.getElem?_eq_some_iff.1 hh).1, fun j hj => by rw [cell_of_row _ _ _ _ _ _ hh, Nat.zero_add]; exact hc j hj⟩
def ClonedI (zs : List Int) (W : World) (e : Ending) (w : World) : Prop := ∃ a c, e = .returned (.slice a zs.length c) ∧ Below W.heap.size W w ∧ RowOwn w a zs
theorem i64s_get {zs : List Int} {j : Nat} {u : Value} (hu : (i64s zs)[j]? = some u) : j < zs.length ∧ u = .int .i64 (zs.getD j 0) := by
  unfold i64s at hu
  rw [List.getElem?_map] at hu
  rcases Nat.lt_or_ge j zs.length with h | h
  · rw [List.getElem?_eq_getElem h] at hu
    injection hu with hu
    refine ⟨h, ?_⟩
    rw [← hu, List.getD_eq_getElem?_getD, List.getElem?_eq_getElem h]
    rfl
  · rw [List.getElem?_eq_none h] at hu
    cases hu
theorem clone_ints (w : World) (a : Option Addr) (c : Nat) (zs : List Int) (h : RowI w .i64 a zs) (hl : zs.length ≤ 50) : Calls Try.prog 45 #[.slice a zs.length c] w (ClonedI zs w) := by
  have q := fun (w : World) (a : Option Addr) (n c n' c' : Nat) => Lib.run_eql_slice_nil (P := Try.prog) w 36 3 a n c n' c' Try.underlying36
  obtain ⟨i0, hi0, hz0, hz1, hz2⟩ := info_parts int_info
  have HI := Lib.hid (And.intro hi0 (And.intro hz0 (And.intro hz1 hz2)))
  obtain ⟨n, hn⟩ : ∃ n, zs.length = n := ⟨_, rfl⟩
  have HN := Lib.hid hn
  have HH := Lib.hid h
  have hn50 : n ≤ 50 := by omega
  rw [hn]
  clear h hi0 hz0 hz1 hz2 hl hn
  cases a with
  | none =>
    have hn0 : n = 0 := by
      rcases Nat.eq_zero_or_pos n with h0 | h0
      · exact h0
      · obtain ⟨g, o, e, -⟩ := HH.out (by rw [HN.out]; exact h0)
        cases e
    subst hn0
    go_enter Try.func45, Try.ntmps45
    go_wp2
    go_ret
    exact ⟨none, 0, by rw [HN.out]; rfl, Below.refl _ _, fun h => by rw [HN.out] at h; exact absurd h (Nat.lt_irrefl _)⟩
  | some p =>
    rcases Nat.eq_zero_or_pos n with h0 | h0
    · subst h0
      go_enter Try.func45, Try.ntmps45
      go_wp2_with (at_builtin; refine wpList_append_own_at _ rfl _ _ 36 rfl w.heap.size 3 i0 _ 1 8 Try.underlying36 HI.out.1 HI.out.2.1 HI.out.2.2.1 HI.out.2.2.2 rfl (by omega) (.slice (some ⟨w.heap.size, 0, none⟩) 0 0) 0 [] rfl (own_emptyI w) p 0 c [] rfl rfl (fun j u hu => by simp at hu) (fun u hu => by simp at hu) (by unfold maxLen; omega) (by omega) (by simp) ?_; intro v1 w1 hown hgr _ _; rw [Nat.zero_add, List.nil_append] at hown; have hb : Below w.heap.size w w1 := ((Below.refl _ _).alloc (Nat.le_refl _) _).grown hgr (by simp) (fun k hk => by
        first | (have h9 : some w.heap.size = some k := hk; injection h9 with h9; omega) | (have h9 : some k = some w.heap.size := hk; injection h9 with h9; omega)); have HO := Lib.hid hown; have HB := Lib.hid hb; clear hown hgr hb)
      go_ret
      rcases HO.out.2 with ⟨e, -⟩ | ⟨g, cap, cur, e, -⟩
      · exact ⟨none, 0, by rw [HN.out, e]; rfl, HB.out, fun h => by rw [HN.out] at h; exact absurd h (Nat.lt_irrefl _)⟩
      · exact ⟨_, cap, by rw [HN.out, e]; rfl, HB.out, fun h => by rw [HN.out] at h; exact absurd h (Nat.lt_irrefl _)⟩
    · obtain ⟨b, o, ep, hbl, hcs⟩ := HH.out (by rw [HN.out]; exact h0)
      injection ep with ep
      subst ep
      have HC := Lib.hid hcs
      clear hcs
      go_enter Try.func45, Try.ntmps45
      go_wp2_with ((at_builtin; refine wpList_append_own_at _ rfl _ _ 36 rfl w.heap.size 3 i0 _ 1 8 Try.underlying36 HI.out.1 HI.out.2.1 HI.out.2.2.1 HI.out.2.2.2 rfl (by omega) (.slice (some ⟨w.heap.size, 0, none⟩) 0 0) 0 [] rfl (own_emptyI w) ⟨b, o, none⟩ n c (i64s zs) rfl (by rw [i64s, List.length_map, HN.out]; omega) (fun j u hu => by obtain ⟨h1, h2⟩ := i64s_get hu; rw [add_lit, World.cell?_alloc_lt _ _ _ hbl, h2]; exact HC.out j h1) (fun u hu => by obtain ⟨x, -, hx⟩ := List.mem_map.1 hu; rw [← hx]; rfl) (by unfold maxLen; omega) (by omega) (by simp) ?_; intro v1 w1 hown hgr _ _; rw [Nat.zero_add, List.nil_append] at hown; have hb : Below w.heap.size w w1 := ((Below.refl _ _).alloc (Nat.le_refl _) _).grown hgr (by simp) (fun k hk => by
        first | (have h9 : some w.heap.size = some k := hk; injection h9 with h9; omega) | (have h9 : some k = some w.heap.size := hk; injection h9 with h9; omega)); have HO := Lib.hid hown; have HB := Lib.hid hb; clear hown hgr hb))
      go_ret
      rcases HO.out.2 with ⟨_, hz⟩ | ⟨g, cap, cur, hv, hg, hh, -, -, -, ht⟩
      · omega
      · subst hv
        refine ⟨_, cap, by rw [HN.out]; rfl, HB.out, fun _ => ⟨g, cur, rfl, hh, fun j hj => ?_⟩⟩
        have h1 : (i64s zs)[j]? = some (.int .i64 (zs.getD j 0)) := by
          unfold i64s
          rw [List.getElem?_map, List.getElem?_eq_getElem hj, List.getD_eq_getElem?_getD, List.getElem?_eq_getElem hj]
          rfl
        rw [← ht, List.getElem?_take] at h1
        split at h1
        · simpa using h1
        · cases h1
/-- The thirteen cells of an object whose list lies in a block of numbers. -/
structure ObC (w : World) (X : Array Value) (o : Kob) : Prop where
  ob : ObX w X o
  up : ∃ a c, X[12]? = some (.slice a o.up.length c) ∧ RowOwn w a o.up
theorem ObX.set12 {w w' : World} {X : Array Value} {o : Kob} {a : Option Addr} {c : Nat} (h : ObX w X o) (hr : RowOwn w' a o.up) : ObC w' (X.setIfInBounds 12 (.slice a o.up.length c)) o := by
  have hs := h.size
  have hx : (X.setIfInBounds 12 (.slice a o.up.length c))[12]? = some (.slice a o.up.length c) := by simp [hs]
  have hne : ∀ j, j ≠ 12 → (X.setIfInBounds 12 (.slice a o.up.length c))[j]? = X[j]? := fun j hj => Array.getElem?_setIfInBounds_ne (Ne.symm hj)
  exact ⟨⟨by simp [hs], (hne 0 (by omega)).trans h.x0, (hne 1 (by omega)).trans h.x1, (hne 2 (by omega)).trans h.x2, fun i hi => (hne (3 + i) (by omega)).trans (h.xf i hi), (hne 11 (by omega)).trans h.x11, ⟨a, c, hx, hr.row⟩, h.bf, h.bp, h.bu, h.bz⟩, ⟨a, c, hx, hr⟩⟩
theorem RowOwn.stay {w w' : World} {a : Option Addr} {zs : List Int} (h : RowOwn w a zs) (hb : Below w.heap.size w w') : RowOwn w' a zs := by
  intro hn
  obtain ⟨g, cs, e, hh, hc⟩ := h hn
  exact ⟨g, cs, e, (hb.block g (Array.getElem?_eq_some_iff.1 hh).1).trans hh, hc⟩
theorem ObC.stay {w w' : World} {X : Array Value} {o : Kob} (h : ObC w X o) (hb : Below w.heap.size w w') : ObC w' X o := by
  obtain ⟨a, c, h1, h2⟩ := h.up
  exact ⟨h.ob.stay hb, ⟨a, c, h1, h2.stay hb⟩⟩
/-- Blocks of numbers that were stay. -/
def IntsStay (w w' : World) : Prop := ∀ (g : Nat) (cs : Array Value), w.heap[g]? = some (Obj.cells cs 3 (0, 0)) → w'.heap[g]? = some (Obj.cells cs 3 (0, 0))
theorem RowOwn.move {w w' : World} {a : Option Addr} {zs : List Int} (h : RowOwn w a zs) (hk : IntsStay w w') : RowOwn w' a zs := by
  intro hn
  obtain ⟨g, cs, e, hh, hc⟩ := h hn
  exact ⟨g, cs, e, hk g cs hh, hc⟩
theorem ObC.move {w w' : World} {X : Array Value} {o : Kob} (h : ObC w X o) (hk : IntsStay w w') : ObC w' X o := by
  obtain ⟨a, c, h1, h2⟩ := h.up
  have h3 := h2.move hk
  exact ⟨⟨h.ob.size, h.ob.x0, h.ob.x1, h.ob.x2, h.ob.xf, h.ob.x11, ⟨a, c, h1, h3.row⟩, h.ob.bf, h.ob.bp, h.ob.bu, h.ob.bz⟩, ⟨a, c, h1, h3⟩⟩
/-- A block of another type is written. -/
theorem ints_setRow {w : World} {g : Nat} {cur cs : Array Value} {T : TypeId} {fz : Nat × Nat} (hg : w.heap[g]? = some (.cells cur T fz)) (hT : T ≠ 3) : IntsStay w (w.setRow g cs) := by
  intro b cs' hb
  rw [setRow_other _ _ _ _ (fun e => by rw [e, hg] at hb; injection hb with hb; injection hb with _ hb _; exact hT hb)]
  exact hb
/-- A store of a whole object, veiled. -/
def stoObV (p v : Value) : Sem Unit := Instr.storeAt 38 p v
theorem stoOb_veil (p v : Value) : Instr.storeAt 38 p v = stoObV p v := rfl
theorem run_stoOb (w : World) (g : Nat) (cur Y : Array Value) (t : TypeId) (hg : w.heap[g]? = some (.cells cur t (0, 0))) (hs : cur.size = 13) (hY : Y.size = 13) (h1 : Y.all (·.oneCell') = true) : (stoObV (.pointer (some ⟨g, 0, none⟩)) (.agg Y)).run Try.prog w = .ok () (w.setRow g Y) := by
  unfold stoObV
  simp only [Instr.storeAt, Instr.sureAddr, Sem.run_bind, Sem.run_pure, Result.andThen]
  exact run_storeVar_row w g t 38 cur Y hg (by rw [hY]; kernel_rfl) (by rw [hs, hY]) h1
def GaveC (o : Kob) (W : World) (e : Ending) (w : World) : Prop := ∃ Y, e = .returned (.agg Y) ∧ ObC w Y o ∧ Below W.heap.size W w
def zeroOb : Array Value := #[.int .i64 0, .int .i64 0, .int .i64 0, .int .u64 0, .int .u64 0, .int .u64 0, .int .u64 0, .int .u64 0, .int .u64 0, .int .u64 0, .int .u64 0, .string { data := #[] }, .slice none 0 0]
attribute [local go_sem ↓] loadObj_veil stoOb_veil
theorem clone17 (X : Array Value) (o : Kob) (w : World) (hx : ObX w X o) (hu : o.up.length ≤ 50) : Calls Try.prog 43 #[.agg X] w (GaveC o w) := by
  obtain ⟨a, k, h12, hrow⟩ := hx.x12
  have hb0 : Below w.heap.size w ((w.alloc (.cells X 38)).alloc (.cells zeroOb 38)) := ((Below.refl _ _).alloc (Nat.le_refl _) _).alloc (by simp) _
  have hc12 : ((w.alloc (.cells X 38)).alloc (.cells zeroOb 38)).cell? ⟨w.heap.size, 12, none⟩ = some (.slice a o.up.length k) := by
    rw [World.cell?_alloc_lt _ _ _ (by simp), box_cells]
    exact h12
  have hX0 : ((w.alloc (.cells X 38)).alloc (.cells zeroOb 38)).heap[w.heap.size]? = some (.cells X 38 (0, 0)) := (Below.heap_alloc _ _ _ (by simp)).trans (heap_alloc_new _ _)
  have hZ0 : ((w.alloc (.cells X 38)).alloc (.cells zeroOb 38)).heap[w.heap.size + 1]? = some (.cells zeroOb 38 (0, 0)) := by
    have := heap_alloc_new (w.alloc (.cells X 38)) (.cells zeroOb 38)
    rwa [World.size_alloc] at this
  obtain ⟨W1, hW1⟩ : ∃ W1, (w.alloc (.cells X 38)).alloc (.cells zeroOb 38) = W1 := ⟨_, rfl⟩
  have hsz1 : W1.heap.size = w.heap.size + 2 := by rw [← hW1]; simp
  rw [hW1] at hb0 hc12 hX0 hZ0
  have hcl := clone_ints W1 a k o.up (hrow.stay hb0) hu
  obtain ⟨n, hn⟩ : ∃ n, o.up.length = n := ⟨_, rfl⟩
  rw [hn] at hcl hc12
  have HCL := Lib.hid hcl
  have HX := Lib.hid hx
  have HB0 := Lib.hid hb0
  have HW1 := Lib.hid hW1
  have HX0 := Lib.hid hX0
  have HZ0 := Lib.hid hZ0
  have HN := Lib.hid hn
  have HS1 := Lib.hid hsz1
  clear hx h12 hrow hb0 hX0 hZ0 hcl hn hu hW1 hsz1
  unfold zeroOb at HW1
  go_enter Try.func43, Try.ntmps43
  go_upto_region 1 with fail
  rw [HW1.out]
  go_upto_region 2 with (go_at_call 45; refine HCL.out.mono ?_; rintro e w2 ⟨a2, c2, rfl, hb2, hr2⟩; rw [HN.out]; have hX2 := (hb2.block w.heap.size (by rw [HS1.out]; omega)).trans HX0.out; have hZ2 := (hb2.block (w.heap.size + 1) (by rw [HS1.out]; omega)).trans HZ0.out; have hc2 : w2.cell? ⟨w.heap.size, 12, none⟩ = some (.slice a n k) := (hb2.cell (p := ⟨w.heap.size, 12, none⟩) (by rw [HS1.out]; show w.heap.size < _; omega)).trans hc12; have hf2 : w2.frozen? ⟨w.heap.size, 12, none⟩ = false := (by simp [World.frozen?, hX2]); have HB2 := Lib.hid hb2; have HR2 := Lib.hid hr2; have HX2 := Lib.hid hX2; have HZ2 := Lib.hid hZ2; clear hb2 hr2 hX2 hZ2)
  have hbw2 : Below w.heap.size w w2 := HB0.out.trans (HB2.out.mono HB0.out.size)
  have e3 := setCell_eq_setRow w2 w.heap.size 12 X 38 (0, 0) (.slice a2 n c2) HX2.out
  rw [e3]
  have hX3 := setRow_heap w2 w.heap.size X (X.setIfInBounds 12 (.slice a2 n c2)) 38 (0, 0) HX2.out
  have hZ3 := (setRow_other w2 w.heap.size (w.heap.size + 1) (X.setIfInBounds 12 (.slice a2 n c2)) (by omega)).trans HZ2.out
  have hb3 : Below w.heap.size w (w2.setRow w.heap.size (X.setIfInBounds 12 (.slice a2 n c2))) := below_setRow hbw2 (Nat.le_refl _) _
  have hr3 : RowOwn (w2.setRow w.heap.size (X.setIfInBounds 12 (.slice a2 n c2))) a2 o.up := HR2.out.move (ints_setRow HX2.out (by decide))
  have hY := HX.out.set12 (c := c2) hr3
  rw [HN.out] at hY
  obtain ⟨Y, hYY⟩ : ∃ Y, X.setIfInBounds 12 (.slice a2 n c2) = Y := ⟨_, rfl⟩
  rw [hYY] at hX3 hZ3 hb3 hY ⊢
  obtain ⟨W3, hW3⟩ : ∃ W3, w2.setRow w.heap.size Y = W3 := ⟨_, rfl⟩
  rw [hW3] at hX3 hZ3 hb3 hY ⊢
  have hld := run_loadObj W3 w.heap.size Y 38 (0, 0) hX3 hY.ob.size
  have hst := run_stoOb W3 (w.heap.size + 1) zeroOb Y 38 hZ3 rfl hY.ob.size (all_one fun i hi => hY.ob.one i (by rw [← hY.ob.size]; exact hi))
  have hZ4 := setRow_heap W3 (w.heap.size + 1) zeroOb Y 38 (0, 0) hZ3
  have HY := Lib.hid hY
  have HB3 := Lib.hid hb3
  have HX3 := Lib.hid hX3
  have HZ4 := Lib.hid hZ4
  have HI4 := Lib.hid (ints_setRow (cs := Y) hZ3 (by decide))
  clear hX3 hZ3 hb3 hr3 hY hYY hW3 e3 hbw2 hc2 hf2 hZ4
  go_wp2
  have hsz := HY.out.ob.size
  refine bodyPost_ret (results_cell_row (p := 2) Try.results43 _ _ (w.heap.size + 1) 38 Y (0, 0) _ (by kernel_rfl) HZ4.out Try.underlying38 rfl (by rw [hsz]; kernel_rfl)) rfl ⟨Y, rfl, HY.out.move HI4.out, below_setRow HB3.out (by omega) _⟩
end Go.Proofs.Ytcdpmggjdmibjaa
