/-
  Proved here: what a ring of the program is in memory, and what stores into it make of it. Conditions: as each lemma says.
-/
import Derived.Test.YthpfockaipbhgaaActs13
namespace Go.Proofs.Ythpfockaipbhgaa
open Go.RowKit

/-- The cells of the records that are there. -/
def LvCells (xs : List Value) (ds : Nat → Nat) (ls : List Rc) : Prop :=
  ∀ i, i < ls.length → xs[i * 3]? = some (.int .i64 (rget ls i).own) ∧ xs[i * 3 + 1]? = some (.int .u8 (rget ls i).st) ∧ xs[i * 3 + 2]? = some (.slice (some ⟨ds i, 0, none⟩) (rget ls i).b.length (rget ls i).b.length)
/-- The program's ring in memory: g records are gone, ls are there. -/
structure Pr (w : World) (h : Nat) (room drops : Int) (g : Nat) (kv : Value) (ds : Nat → Nat) (ls : List Rc) : Prop where
  h0 : w.cell? ⟨h, 0, none⟩ = some (.int .i64 room)
  h1 : w.cell? ⟨h, 1, none⟩ = some (.int .i64 drops)
  h2 : w.cell? ⟨h, 2, none⟩ = some (.int .i64 (g : Int))
  h3 : w.cell? ⟨h, 3, none⟩ = some kv
  fH : ∀ j, w.frozen? ⟨h, j, none⟩ = false
  row : ∃ xs, w.ownsRow 0 62 3 kv ls.length xs ∧ LvCells xs ds ls
  hk : some h ≠ kv.ownBlock
  kg : ∀ i, i < ls.length → some (ds i) ≠ kv.ownBlock
  Hg : ∀ i, i < ls.length → ds i ≠ h
  gi : ∀ i j, i < ls.length → j < ls.length → ds i = ds j → i = j
  data : ∀ i, i < ls.length → RowAt w (ds i) 0 (rget ls i).b.length (rget ls i).b
  free : ∀ i, i < ls.length → ∀ j, w.frozen? ⟨ds i, j, none⟩ = false
  len : ∀ i, i < ls.length → 1 ≤ (rget ls i).b.length ∧ (rget ls i).b.length ≤ 32
  st : ∀ i, i < ls.length → 0 ≤ (rget ls i).st ∧ (rget ls i).st ≤ 2
  le : g + ls.length ≤ 1000
/-- The records' row, to be looked at. -/
structure LvRow (w : World) (a : Option Addr) (ds : Nat → Nat) (ls : List Rc) : Prop where
  at_ : 0 < ls.length → ∃ g, a = some ⟨g, 0, none⟩ ∧ g < w.heap.size ∧ (∀ j, w.frozen? ⟨g, j, none⟩ = false) ∧ ∀ i, i < ls.length → w.cell? ⟨g, i * 3, none⟩ = some (.int .i64 (rget ls i).own) ∧ w.cell? ⟨g, i * 3 + 1, none⟩ = some (.int .u8 (rget ls i).st) ∧ w.cell? ⟨g, i * 3 + 2, none⟩ = some (.slice (some ⟨ds i, 0, none⟩) (rget ls i).b.length (rget ls i).b.length)
def PrS (h : Nat) (kv : Value) (ds : Nat → Nat) (n : Nat) : Nat → Prop := fun b => b = h ∨ some b = kv.ownBlock ∨ ∃ i, i < n ∧ b = ds i
section
variable {w w' : World} {h g : Nat} {room drops : Int} {kv : Value} {ds : Nat → Nat} {ls : List Rc}
theorem Pr.shape (H : Pr w h room drops g kv ds ls) : ∃ a c, kv = .slice a ls.length c ∧ LvRow w a ds ls ∧ ls.length ≤ c := by
  obtain ⟨xs, hx, hc⟩ := H.row
  rcases hx.2 with ⟨rfl, h0⟩ | ⟨b, cap, cur, hv, hg, hh, hnc, -⟩
  · exact ⟨none, 0, by rw [h0], ⟨fun hp => by omega⟩, by omega⟩
  · subst hv
    refine ⟨_, cap, rfl, ⟨fun _ => ⟨b, rfl, (Array.getElem?_eq_some_iff.1 hh).1, fun j => hx.frozenAt j, fun i hi => ?_⟩⟩, hnc⟩
    obtain ⟨h1, h2, h3⟩ := hc i hi
    exact ⟨(hx.cellAt _ (by omega)).trans h1, (hx.cellAt _ (by omega)).trans h2, (hx.cellAt _ (by omega)).trans h3⟩
theorem Pr.lv {a : Option Addr} {n c : Nat} (H : Pr w h room drops g (.slice a n c) ds ls) : LvRow w a ds ls := by
  obtain ⟨a', c', he, hr, -⟩ := H.shape
  injection he with he _ _
  rw [he]
  exact hr
theorem Pr.lt (H : Pr w h room drops g kv ds ls) : ∀ b, PrS h kv ds ls.length b → b < w.heap.size := by
  rintro b (rfl | hb | ⟨i, hi, rfl⟩)
  · exact cell_block_lt H.h0
  · obtain ⟨xs, hx, -⟩ := H.row
    exact own_lt hx b hb
  · exact cell_block_lt (H.data i hi 0 (by have := H.len i hi; omega))
theorem Pr.kept (H : Pr w h room drops g kv ds ls) (e : ∀ b, PrS h kv ds ls.length b → w'.heap[b]? = w.heap[b]?) : Pr w' h room drops g kv ds ls := by
  have eH := e h (.inl rfl)
  obtain ⟨xs, hx, hc⟩ := H.row
  exact ⟨(World.cell?_of_block (w := w) eH).trans H.h0, (World.cell?_of_block (w := w) eH).trans H.h1, (World.cell?_of_block (w := w) eH).trans H.h2, (World.cell?_of_block (w := w) eH).trans H.h3, fun j => (World.frozen?_of_block (w := w) (a := ⟨h, j, none⟩) eH).trans (H.fH j),
    ⟨xs, own_kept hx (fun b hb => e b (.inr (.inl hb))), hc⟩, H.hk, H.kg, H.Hg, H.gi, fun i hi j hj => (World.cell?_of_block (w := w) (a := ⟨ds i, 0 + j, none⟩) (e _ (.inr (.inr ⟨i, hi, rfl⟩)))).trans (H.data i hi j hj),
    fun i hi j => (World.frozen?_of_block (w := w) (a := ⟨ds i, j, none⟩) (e _ (.inr (.inr ⟨i, hi, rfl⟩)))).trans (H.free i hi j), H.len, H.st, H.le⟩
theorem Pr.stay (H : Pr w h room drops g kv ds ls) (hb : Below w.heap.size w w') : Pr w' h room drops g kv ds ls := H.kept fun b hS => hb.block b (H.lt b hS)
/-- A store into one of the ring's own cells that are numbers. -/
theorem Pr.drop1 {d : Int} (H : Pr w h room drops g kv ds ls) : Pr (w.setCell ⟨h, 1, none⟩ (.int .i64 d)) h room d g kv ds ls := by
  have eb : ∀ b, b ≠ h → (w.setCell ⟨h, 1, none⟩ (.int .i64 d)).heap[b]? = w.heap[b]? := fun b hb => Below.heap_setCell w ⟨h, 1, none⟩ _ b hb
  obtain ⟨xs, hx, hc⟩ := H.row
  refine ⟨?_, World.cell?_setCell_same _ _ _ H.h1, ?_, ?_, fun j => ?_, ⟨xs, own_kept hx (fun b hb => eb b (fun e => H.hk (by rw [← e]; exact hb))), hc⟩, H.hk, H.kg, H.Hg, H.gi, fun i hi j hj => ?_, fun i hi j => ?_, H.len, H.st, H.le⟩
  · rw [World.cell?_setCell_other _ _ _ _ (by simp)]; exact H.h0
  · rw [World.cell?_setCell_other _ _ _ _ (by simp)]; exact H.h2
  · rw [World.cell?_setCell_other _ _ _ _ (by simp)]; exact H.h3
  · rw [World.frozen?_setCell]; exact H.fH j
  · exact (World.cell?_of_block (w := w) (a := ⟨ds i, 0 + j, none⟩) (eb _ (H.Hg i hi))).trans (H.data i hi j hj)
  · exact (World.frozen?_of_block (w := w) (a := ⟨ds i, j, none⟩) (eb _ (H.Hg i hi))).trans (H.free i hi j)
theorem Pr.gone1 {g' : Nat} (H : Pr w h room drops g kv ds ls) (hg : g' + ls.length ≤ 1000) : Pr (w.setCell ⟨h, 2, none⟩ (.int .i64 (g' : Int))) h room drops g' kv ds ls := by
  have eb : ∀ b, b ≠ h → (w.setCell ⟨h, 2, none⟩ (.int .i64 (g' : Int))).heap[b]? = w.heap[b]? := fun b hb => Below.heap_setCell w ⟨h, 2, none⟩ _ b hb
  obtain ⟨xs, hx, hc⟩ := H.row
  refine ⟨?_, ?_, World.cell?_setCell_same _ _ _ H.h2, ?_, fun j => ?_, ⟨xs, own_kept hx (fun b hb => eb b (fun e => H.hk (by rw [← e]; exact hb))), hc⟩, H.hk, H.kg, H.Hg, H.gi, fun i hi j hj => ?_, fun i hi j => ?_, H.len, H.st, hg⟩
  · rw [World.cell?_setCell_other _ _ _ _ (by simp)]; exact H.h0
  · rw [World.cell?_setCell_other _ _ _ _ (by simp)]; exact H.h1
  · rw [World.cell?_setCell_other _ _ _ _ (by simp)]; exact H.h3
  · rw [World.frozen?_setCell]; exact H.fH j
  · exact (World.cell?_of_block (w := w) (a := ⟨ds i, 0 + j, none⟩) (eb _ (H.Hg i hi))).trans (H.data i hi j hj)
  · exact (World.frozen?_of_block (w := w) (a := ⟨ds i, j, none⟩) (eb _ (H.Hg i hi))).trans (H.free i hi j)
theorem lv_set1 {xs : List Value} {i : Nat} {s : Int} (hx : LvCells xs ds ls) (hl : xs.length = ls.length * 3) (hi : i < ls.length) : LvCells (xs.set (i * 3 + 1) (.int .u8 s)) ds (setSt ls i s) := by
  intro j hj
  rw [setSt, List.length_set] at hj
  obtain ⟨a0, a1, a2⟩ := hx j hj
  rw [setSt, rget_set hi, List.getElem?_set, List.getElem?_set, List.getElem?_set]
  by_cases e : i = j
  · subst e
    rw [if_pos rfl, if_neg (by omega), if_pos rfl, if_pos (by omega), if_neg (by omega)]
    exact ⟨a0, rfl, a2⟩
  · rw [if_neg e, if_neg (by omega), if_neg (by omega), if_neg (by omega)]
    exact ⟨a0, a1, a2⟩
/-- The state of a record is stored. -/
theorem Pr.state {b c i : Nat} {s : Int} (H : Pr w h room drops g (.slice (some ⟨b, 0, none⟩) ls.length c) ds ls) (hi : i < ls.length) (hs : 0 ≤ s ∧ s ≤ 2) :
    Pr (w.setCell ⟨b, i * 3 + 1, none⟩ (.int .u8 s)) h room drops g (.slice (some ⟨b, 0, none⟩) ls.length c) ds (setSt ls i s) := by
  obtain ⟨ys, hy, hc⟩ := H.row
  have hHb : h ≠ b := fun e => H.hk (by rw [e]; rfl)
  have eb : ∀ k, k ≠ b → (w.setCell ⟨b, i * 3 + 1, none⟩ (.int .u8 s)).heap[k]? = w.heap[k]? := fun k hk => Below.heap_setCell w ⟨b, i * 3 + 1, none⟩ _ k hk
  have eH := eb h hHb
  have eg : ∀ j, j < ls.length → ds j ≠ b := fun j hj e => H.kg j hj (by rw [e]; rfl)
  have hbb : ∀ j, j < ls.length → (rget (setSt ls i s) j).b = (rget ls j).b := fun j hj => by
    rw [setSt, rget_set hi]
    by_cases e : i = j
    · subst e; rw [if_pos rfl]
    · rw [if_neg e]
  have hlen : (setSt ls i s).length = ls.length := List.length_set
  refine ⟨(World.cell?_of_block (w := w) eH).trans H.h0, (World.cell?_of_block (w := w) eH).trans H.h1, (World.cell?_of_block (w := w) eH).trans H.h2, (World.cell?_of_block (w := w) eH).trans H.h3, fun j => (World.frozen?_of_block (w := w) (a := ⟨h, j, none⟩) eH).trans (H.fH j), ⟨_, ?_, lv_set1 hc hy.1 hi⟩, H.hk, ?_, ?_, ?_, ?_, ?_, ?_, ?_, ?_⟩
  · rw [hlen]; exact (hy.stored (i * 3 + 1) _).1
  · rw [hlen]; exact H.kg
  · rw [hlen]; exact H.Hg
  · rw [hlen]; exact H.gi
  · intro j hj
    rw [hlen] at hj
    rw [hbb j hj]
    exact fun l hl => (World.cell?_of_block (w := w) (a := ⟨ds j, 0 + l, none⟩) (eb _ (eg j hj))).trans (H.data j hj l hl)
  · intro j hj l
    rw [hlen] at hj
    exact (World.frozen?_of_block (w := w) (a := ⟨ds j, l, none⟩) (eb _ (eg j hj))).trans (H.free j hj l)
  · intro j hj
    rw [hlen] at hj
    rw [hbb j hj]
    exact H.len j hj
  · intro j hj
    rw [hlen] at hj
    rw [setSt, rget_set hi]
    by_cases e : i = j
    · subst e; rw [if_pos rfl]; exact hs
    · rw [if_neg e]; exact H.st j hj
  · rw [hlen]; exact H.le
theorem lv_set2 {xs : List Value} {i G : Nat} (hx : LvCells xs ds ls) (hl : xs.length = ls.length * 3) (hi : i < ls.length) : LvCells (xs.set (i * 3 + 2) (.slice (some ⟨G, 0, none⟩) (rget ls i).b.length (rget ls i).b.length)) (fun j => if j = i then G else ds j) ls := by
  intro j hj
  obtain ⟨a0, a1, a2⟩ := hx j hj
  rw [List.getElem?_set, List.getElem?_set, List.getElem?_set]
  by_cases e : i = j
  · subst e
    rw [if_neg (by omega), if_neg (by omega), if_pos rfl, if_pos (by omega)]
    exact ⟨a0, a1, by simp⟩
  · rw [if_neg (by omega), if_neg (by omega), if_neg (by omega)]
    simp only [show j ≠ i from fun q => e q.symm, if_false]
    exact ⟨a0, a1, a2⟩
/-- A record gets a row of bytes of its own, with the same bytes. -/
theorem Pr.bytes {b c i G : Nat} (H : Pr w h room drops g (.slice (some ⟨b, 0, none⟩) ls.length c) ds ls) (hi : i < ls.length) (hG : RowAt w G 0 (rget ls i).b.length (rget ls i).b) (hf : ∀ j, w.frozen? ⟨G, j, none⟩ = false) (hn : ¬ PrS h (.slice (some ⟨b, 0, none⟩) ls.length c) ds ls.length G) :
    Pr (w.setCell ⟨b, i * 3 + 2, none⟩ (.slice (some ⟨G, 0, none⟩) (rget ls i).b.length (rget ls i).b.length)) h room drops g (.slice (some ⟨b, 0, none⟩) ls.length c) (fun j => if j = i then G else ds j) ls := by
  obtain ⟨ys, hy, hc⟩ := H.row
  obtain ⟨v, hv⟩ : ∃ v, (Value.slice (some ⟨G, 0, none⟩) (rget ls i).b.length (rget ls i).b.length) = v := ⟨_, rfl⟩
  have hHb : h ≠ b := fun e => H.hk (by rw [e]; rfl)
  have eb : ∀ k, k ≠ b → (w.setCell ⟨b, i * 3 + 2, none⟩ v).heap[k]? = w.heap[k]? := fun k hk => Below.heap_setCell w ⟨b, i * 3 + 2, none⟩ _ k hk
  have eH := eb h hHb
  have eg : ∀ j, j < ls.length → ds j ≠ b := fun j hj e => H.kg j hj (by rw [e]; rfl)
  have hGb : G ≠ b := fun e => hn (.inr (.inl (by rw [e]; rfl)))
  have hGh : G ≠ h := fun e => hn (.inl e)
  have hGd : ∀ j, j < ls.length → ds j ≠ G := fun j hj e => hn (.inr (.inr ⟨j, hj, e.symm⟩))
  rw [hv]
  refine ⟨(World.cell?_of_block (w := w) eH).trans H.h0, (World.cell?_of_block (w := w) eH).trans H.h1, (World.cell?_of_block (w := w) eH).trans H.h2, (World.cell?_of_block (w := w) eH).trans H.h3, fun j => (World.frozen?_of_block (w := w) (a := ⟨h, j, none⟩) eH).trans (H.fH j), ⟨_, (hy.stored (i * 3 + 2) _).1, by rw [← hv]; exact lv_set2 hc hy.1 hi⟩, H.hk, ?_, ?_, ?_, ?_, ?_, H.len, H.st, H.le⟩
  · intro j hj
    split
    · exact fun e => hGb (by injection e)
    · exact H.kg j hj
  · intro j hj
    split
    · exact hGh
    · exact H.Hg j hj
  · intro j k hj hk e
    split at e <;> split at e
    · omega
    · exact absurd e.symm (hGd k hk)
    · exact absurd e (hGd j hj)
    · exact H.gi j k hj hk e
  · intro j hj
    split
    · rename_i e
      subst e
      exact fun l hl => (World.cell?_of_block (w := w) (a := ⟨G, 0 + l, none⟩) (eb _ hGb)).trans (hG l hl)
    · exact fun l hl => (World.cell?_of_block (w := w) (a := ⟨ds j, 0 + l, none⟩) (eb _ (eg j hj))).trans (H.data j hj l hl)
  · intro j hj l
    split
    · exact (World.frozen?_of_block (w := w) (a := ⟨G, l, none⟩) (eb _ hGb)).trans (hf l)
    · exact (World.frozen?_of_block (w := w) (a := ⟨ds j, l, none⟩) (eb _ (eg j hj))).trans (H.free j hj l)
/-- Bytes of a record are written. -/
theorem Pr.wrote {i : Nat} {zs : List Int} (H : Pr w h room drops g kv ds ls) (hi : i < ls.length) (hw : WroteAt (ds i) 0 (rget ls i).b.length zs w w') (hz : zs.length = (rget ls i).b.length) :
    Pr w' h room drops g kv ds (ls.set i { rget ls i with b := zs }) := by
  have hlen : ∀ r, (ls.set i r).length = ls.length := fun r => List.length_set
  have eH := hw.block h (fun e => H.Hg i hi e.symm)
  obtain ⟨ys, hy, hc⟩ := H.row
  have hbl : ∀ j, j < ls.length → (rget (ls.set i { rget ls i with b := zs }) j).b.length = (rget ls j).b.length := fun j hj => by
    rw [rget_set hi]
    by_cases e : i = j
    · subst e; rw [if_pos rfl]; exact hz
    · rw [if_neg e]
  refine ⟨(World.cell?_of_block (w := w) eH).trans H.h0, (World.cell?_of_block (w := w) eH).trans H.h1, (World.cell?_of_block (w := w) eH).trans H.h2, (World.cell?_of_block (w := w) eH).trans H.h3, fun j => (World.frozen?_of_block (w := w) (a := ⟨h, j, none⟩) eH).trans (H.fH j), ⟨ys, ?_, ?_⟩, H.hk, ?_, ?_, ?_, ?_, ?_, ?_, ?_, ?_⟩
  · rw [hlen]
    exact own_kept hy (fun b hb => hw.block b (fun e => H.kg i hi (by rw [← e]; exact hb)))
  · intro j hj
    rw [hlen] at hj
    rw [hbl j hj]
    obtain ⟨a0, a1, a2⟩ := hc j hj
    rw [rget_set hi]
    by_cases e : i = j
    · subst e; rw [if_pos rfl]; exact ⟨a0, a1, a2⟩
    · rw [if_neg e]; exact ⟨a0, a1, a2⟩
  · rw [hlen]; exact H.kg
  · rw [hlen]; exact H.Hg
  · rw [hlen]; exact H.gi
  · intro j hj
    rw [hlen] at hj
    rw [hbl j hj, rget_set hi]
    by_cases e : i = j
    · subst e
      rw [if_pos rfl]
      exact fun l hl => hw.cell l hl
    · rw [if_neg e]
      exact fun l hl => (World.cell?_of_block (w := w) (a := ⟨ds j, 0 + l, none⟩) (hw.block _ (fun e2 => e (H.gi _ _ hi hj e2.symm)))).trans (H.data j hj l hl)
  · intro j hj l
    rw [hlen] at hj
    by_cases e : i = j
    · subst e; rw [hw.froz]; exact H.free i hi l
    · exact (World.frozen?_of_block (w := w) (a := ⟨ds j, l, none⟩) (hw.block _ (fun e2 => e (H.gi _ _ hi hj e2.symm)))).trans (H.free j hj l)
  · intro j hj
    rw [hlen] at hj
    rw [hbl j hj]
    exact H.len j hj
  · intro j hj
    rw [hlen] at hj
    rw [rget_set hi]
    by_cases e : i = j
    · subst e; rw [if_pos rfl]; exact H.st i hi
    · rw [if_neg e]; exact H.st j hj
  · rw [hlen]; exact H.le
end
/-! ### All records that ever were, by those that are gone and those that are there -/
/-- The records: those of pre are gone, those of ls are there. -/
structure Split (rs pre ls : List Rc) : Prop where
  eq : rs = pre ++ ls
  gone : ∀ i, i < pre.length → (rget pre i).gone = true
  there : ∀ i, i < ls.length → (rget ls i).gone = false
theorem rget_pre {pre ls : List Rc} {i : Nat} (h : i < pre.length) : rget (pre ++ ls) i = rget pre i := by
  unfold rget
  rw [List.getD_eq_getElem?_getD, List.getD_eq_getElem?_getD, List.getElem?_append_left h]
theorem rget_post {pre ls : List Rc} {i : Nat} : rget (pre ++ ls) (pre.length + i) = rget ls i := by
  unfold rget
  rw [List.getD_eq_getElem?_getD, List.getD_eq_getElem?_getD, List.getElem?_append_right (by omega), show pre.length + i - pre.length = i by omega]
section
variable {rs pre ls : List Rc}
theorem Split.has (S : Split rs pre ls) {i : Nat} (hi : i < ls.length) : hasR rs ((pre.length + i : Nat) : Int) = decide ((rget ls i).st = 0) := by
  rw [S.eq, hasR_nat (by rw [List.length_append]; omega), rget_post, S.there i hi]
  rfl
theorem Split.low (S : Split rs pre ls) {i : Nat} (hi : i < pre.length) : hasR rs (i : Int) = false := by
  rw [S.eq, hasR_nat (by rw [List.length_append]; omega), rget_pre hi, S.gone i hi]
  rfl
theorem Split.hasIn (S : Split rs pre ls) {id : Int} (h : hasR rs id = true) : ∃ i, id = ((pre.length + i : Nat) : Int) ∧ i < ls.length ∧ (rget ls i).st = 0 := by
  obtain ⟨k, rfl, hk⟩ := hasR_in h
  have hl : rs.length = pre.length + ls.length := by rw [S.eq, List.length_append]
  by_cases hp : k < pre.length
  · rw [S.low hp] at h; cases h
  · obtain ⟨i, rfl⟩ : ∃ i, k = pre.length + i := ⟨k - pre.length, by omega⟩
    have hi : i < ls.length := by omega
    rw [S.has hi] at h
    exact ⟨i, rfl, hi, by simpa using h⟩
theorem Split.hasNo (S : Split rs pre ls) {id : Int} (h : hasR rs id = false) : id < pre.length ∨ (pre.length : Int) + ls.length ≤ id ∨ ∃ i, id = ((pre.length + i : Nat) : Int) ∧ i < ls.length ∧ (rget ls i).st ≠ 0 := by
  by_cases h1 : id < pre.length
  · exact .inl h1
  · by_cases h2 : (pre.length : Int) + ls.length ≤ id
    · exact .inr (.inl h2)
    · refine .inr (.inr ⟨(id - pre.length).toNat, by omega, by omega, fun e => ?_⟩)
      have h3 := S.has (i := (id - pre.length).toNat) (by omega)
      rw [show ((pre.length + (id - pre.length).toNat : Nat) : Int) = id by omega, h, e] at h3
      simp at h3
theorem setSt_post {i : Nat} {s : Int} : setSt (pre ++ ls) (pre.length + i) s = pre ++ setSt ls i s := by
  unfold setSt
  rw [rget_post, List.set_append_right _ _ (by omega), show pre.length + i - pre.length = i by omega]
theorem setB_post {i : Nat} {zs : List Int} : (pre ++ ls).set (pre.length + i) { rget (pre ++ ls) (pre.length + i) with b := zs } = pre ++ ls.set i { rget ls i with b := zs } := by
  rw [rget_post, List.set_append_right _ _ (by omega), show pre.length + i - pre.length = i by omega]
theorem Split.state (S : Split rs pre ls) {i : Nat} {s : Int} (hi : i < ls.length) : Split (setSt rs (pre.length + i) s) pre (setSt ls i s) := by
  refine ⟨by rw [S.eq, setSt_post], S.gone, fun j hj => ?_⟩
  rw [setSt, List.length_set] at hj
  rw [setSt, rget_set hi]
  by_cases e : i = j
  · rw [if_pos e]; exact S.there i hi
  · rw [if_neg e]; exact S.there j hj
theorem Split.bytes (S : Split rs pre ls) {i : Nat} {zs : List Int} (hi : i < ls.length) : Split (rs.set (pre.length + i) { rget rs (pre.length + i) with b := zs }) pre (ls.set i { rget ls i with b := zs }) := by
  refine ⟨by rw [S.eq, setB_post], S.gone, fun j hj => ?_⟩
  rw [List.length_set] at hj
  rw [rget_set hi]
  by_cases e : i = j
  · rw [if_pos e]; exact S.there i hi
  · rw [if_neg e]; exact S.there j hj
theorem Split.endIt (S : Split rs pre ls) {i : Nat} {s : Int} (hi : i < ls.length) (h0 : (rget ls i).st = 0) : Split (endR rs ((pre.length + i : Nat) : Int) s) pre (setSt ls i s) := by
  unfold endR
  rw [if_pos (by rw [S.has hi, h0]; rfl), Int.toNat_natCast]
  exact S.state hi
theorem usedT_pre (hg : ∀ i, i < pre.length → (rget pre i).gone = true) : ∀ k, k ≤ pre.length → usedT (pre ++ ls) k = 0
  | 0, _ => rfl
  | k + 1, hk => by
    show usedT (pre ++ ls) k + usedN (rget (pre ++ ls) k) = 0
    rw [usedT_pre hg k (by omega), rget_pre (by omega), usedN, if_pos (hg k (by omega))]
theorem Split.used (S : Split rs pre ls) : ∀ k, k ≤ ls.length → usedT rs (pre.length + k) = usedT ls k
  | 0, _ => by rw [S.eq]; exact usedT_pre S.gone _ (Nat.le_refl _)
  | k + 1, hk => by
    show usedT rs (pre.length + k) + usedN (rget rs (pre.length + k)) = usedT ls k + usedN (rget ls k)
    rw [S.used k (by omega), S.eq, rget_post]
theorem Split.usedR (S : Split rs pre ls) : usedR rs = usedT ls ls.length := by
  have e : rs.length = pre.length + ls.length := by rw [S.eq, List.length_append]
  unfold Ythpfockaipbhgaa.usedR
  rw [e, S.used _ (Nat.le_refl _)]
/-- The numbers of those that are held, of the first k that are there. -/
def heldL (g : Nat) (ls : List Rc) : Nat → List Int
  | 0 => []
  | k + 1 => heldL g ls k ++ if (rget ls k).st = 0 then [(g : Int) + k] else []
theorem heldL_len (g : Nat) (ls : List Rc) : ∀ k, (heldL g ls k).length ≤ k
  | 0 => Nat.le_refl _
  | k + 1 => by
    have := heldL_len g ls k
    show (heldL g ls k ++ _).length ≤ _
    rw [List.length_append]
    split <;> simp <;> omega
theorem Split.heldLow (S : Split rs pre ls) : ∀ k, k ≤ pre.length → heldT rs k = []
  | 0, _ => rfl
  | k + 1, hk => by
    show heldT rs k ++ _ = []
    rw [S.heldLow k (by omega), if_neg (by rw [S.low (by omega)]; decide)]
    rfl
theorem Split.held (S : Split rs pre ls) : ∀ k, k ≤ ls.length → heldT rs (pre.length + k) = heldL pre.length ls k
  | 0, _ => S.heldLow _ (Nat.le_refl _)
  | k + 1, hk => by
    show heldT rs (pre.length + k) ++ (if hasR rs ((pre.length + k : Nat) : Int) = true then [((pre.length + k : Nat) : Int)] else []) = heldL pre.length ls k ++ _
    rw [S.held k (by omega), S.has (by omega)]
    rw [Int.natCast_add]
    by_cases e : (rget ls k).st = 0 <;> simp [e]
theorem Split.heldR (S : Split rs pre ls) : heldR rs = heldL pre.length ls ls.length := by
  have e : rs.length = pre.length + ls.length := by rw [S.eq, List.length_append]
  unfold Ythpfockaipbhgaa.heldR
  rw [e, S.held _ (Nat.le_refl _)]
def bytesL (g : Nat) (ls : List Rc) : Nat → List Int
  | 0 => []
  | k + 1 => bytesL g ls k ++ ([((g : Int) + k) % 256, (rget ls k).own % 256, (rget ls k).st, ((rget ls k).b.length : Int)] ++ (rget ls k).b)
theorem bytesL_len {g : Nat} (h : ∀ i, i < ls.length → (rget ls i).b.length ≤ 32) : ∀ k, k ≤ ls.length → (bytesL g ls k).length ≤ k * 40
  | 0, _ => by simp [bytesL]
  | k + 1, hk => by
    have h1 := bytesL_len (g := g) h k (by omega)
    have h2 := h k (by omega)
    show (bytesL g ls k ++ _).length ≤ _
    rw [List.length_append]
    simp
    omega
theorem bytesT_pre (hg : ∀ i, i < pre.length → (rget pre i).gone = true) : ∀ k, k ≤ pre.length → bytesT (pre ++ ls) k = []
  | 0, _ => rfl
  | k + 1, hk => by
    show bytesT (pre ++ ls) k ++ bytesN k (rget (pre ++ ls) k) = []
    rw [bytesT_pre hg k (by omega), rget_pre (by omega), bytesN, if_pos (hg k (by omega))]
    rfl
theorem Split.bytesOf (S : Split rs pre ls) (hs : ∀ i, i < ls.length → 0 ≤ (rget ls i).st ∧ (rget ls i).st ≤ 2) : ∀ k, k ≤ ls.length → bytesT rs (pre.length + k) = bytesL pre.length ls k
  | 0, _ => by rw [S.eq]; exact bytesT_pre S.gone _ (Nat.le_refl _)
  | k + 1, hk => by
    show bytesT rs (pre.length + k) ++ bytesN (pre.length + k) (rget rs (pre.length + k)) = bytesL pre.length ls k ++ _
    have h1 := hs k (by omega)
    rw [S.bytesOf hs k (by omega), S.eq, rget_post, bytesN, if_neg (by rw [S.there k (by omega)]; decide), show (rget ls k).st % 256 = (rget ls k).st by omega, Int.natCast_add]
theorem Split.bytesR (S : Split rs pre ls) (hs : ∀ i, i < ls.length → 0 ≤ (rget ls i).st ∧ (rget ls i).st ≤ 2) : bytesR rs = bytesL pre.length ls ls.length := by
  have e : rs.length = pre.length + ls.length := by rw [S.eq, List.length_append]
  unfold Ythpfockaipbhgaa.bytesR
  rw [e, S.bytesOf hs _ (Nat.le_refl _)]
end
/-- The program's ring, its blocks D. -/
def PrM : RgMem := fun w D h room drops rs => ∃ pre ls kv ds, Split rs pre ls ∧ Pr w h room drops pre.length kv ds ls ∧ ∀ b, D b ↔ PrS h kv ds ls.length b
end Go.Proofs.Ythpfockaipbhgaa
