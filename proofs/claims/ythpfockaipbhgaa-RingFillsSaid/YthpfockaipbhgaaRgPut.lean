/-
  Proved here: what stores into a ring of the document make of it; End. Conditions: as each says.
-/
import Derived.Test.YthpfockaipbhgaaRgHeld
namespace Go.Proofs.Ythpfockaipbhgaa
open Go.RowKit

/-- All blocks stay but those that are told. -/
structure Turned (S : Nat → Prop) (W w : World) : Prop where
  os : w.os = W.os
  tape : w.tape = W.tape
  output : w.output = W.output
  size : W.heap.size ≤ w.heap.size
  block : ∀ k, k < W.heap.size → ¬ S k → w.heap[k]? = W.heap[k]?
theorem Turned.of {S : Nat → Prop} {W w : World} (h : Below W.heap.size W w) : Turned S W w := ⟨h.os, h.tape, h.output, h.size, fun k hk _ => h.block k hk⟩
theorem Turned.refl (S : Nat → Prop) (W : World) : Turned S W W := ⟨rfl, rfl, rfl, Nat.le_refl _, fun _ _ _ => rfl⟩
theorem Turned.trans {S : Nat → Prop} {a b c : World} (h : Turned S a b) (k : Turned S b c) : Turned S a c :=
  ⟨k.os.trans h.os, k.tape.trans h.tape, k.output.trans h.output, Nat.le_trans h.size k.size, fun i hi hn => (k.block i (Nat.lt_of_lt_of_le hi h.size) hn).trans (h.block i hi hn)⟩
theorem Turned.set {S : Nat → Prop} {W w : World} (h : Turned S W w) {a : Addr} (ha : S a.block ∨ W.heap.size ≤ a.block) (v : Value) : Turned S W (w.setCell a v) :=
  ⟨h.os, h.tape, h.output, by simp [World.setCell]; exact h.size, fun k hk hn => by
    rw [Below.heap_setCell _ _ _ _ (fun e => by
      rcases ha with ha | ha
      · exact hn (by rw [e]; exact ha)
      · omega)]
    exact h.block k hk hn⟩
theorem Turned.drew {S : Nat → Prop} {W w : World} (h : Turned S W w) : Turned S W w.drew := ⟨h.os, h.tape, h.output, h.size, h.block⟩
theorem Turned.more {S T : Nat → Prop} {W w : World} (h : Turned S W w) (hST : ∀ k, S k → T k) : Turned T W w := ⟨h.os, h.tape, h.output, h.size, fun k hk hn => h.block k hk (fun hs => hn (hST k hs))⟩
theorem Turned.below {S : Nat → Prop} {W wr wx : World} (h : Turned S wr wx) (hb : Below W.heap.size W wr) (hS : ∀ b, S b → W.heap.size ≤ b) : Below W.heap.size W wx :=
  ⟨h.os.trans hb.os, h.tape.trans hb.tape, h.output.trans hb.output, Nat.le_trans hb.size h.size, fun k hk => (h.block k (Nat.lt_of_lt_of_le hk hb.size) (fun hs => by have := hS k hs; omega)).trans (hb.block k hk)⟩

def setSt (rs : List Rc) (i : Nat) (s : Int) : List Rc := rs.set i { rget rs i with st := s }
def setGone (rs : List Rc) (i : Nat) : List Rc := rs.set i { rget rs i with gone := true }
def setB (rs : List Rc) (i j : Nat) (c : Int) : List Rc := rs.set i { rget rs i with b := (rget rs i).b.set j c }
theorem sub_ne {i j k l : Nat} (hk : k < 4) (hl : l < 4) (h : i ≠ j ∨ k ≠ l) : i * 4 + k ≠ j * 4 + l := by omega
section
variable {w : World} {H g c : Nat} {room drops : Int} {gs : Nat → Nat} {rs : List Rc} {xs : List Value}
theorem cells_set {i k : Nat} {u : Value} {r : Rc} (hx : RcCells xs gs rs) (hl : xs.length = rs.length * 4) (hi : i < rs.length) (hb : r.b = (rget rs i).b)
    (h0 : (.int .i64 r.own : Value) = if k = 0 then u else .int .i64 (rget rs i).own) (h1 : (.int .i64 r.st : Value) = if k = 1 then u else .int .i64 (rget rs i).st) (h2 : k ≠ 2) (h3 : (.bool r.gone : Value) = if k = 3 then u else .bool (rget rs i).gone) (hk : k < 4) :
    RcCells (xs.set (i * 4 + k) u) gs (rs.set i r) := by
  intro j hj
  rw [List.length_set] at hj
  obtain ⟨a0, a1, a2, a3⟩ := hx j hj
  rw [rget_set hi]
  by_cases e : i = j
  · subst e
    rw [if_pos rfl, hb]
    refine ⟨?_, ?_, ?_, ?_⟩
    · rw [List.getElem?_set, h0]
      by_cases e0 : k = 0
      · subst e0; rw [if_pos rfl, if_pos (by omega), if_pos (by omega)]
      · rw [if_neg (by omega), if_neg e0]; exact a0
    · rw [List.getElem?_set, h1]
      by_cases e0 : k = 1
      · subst e0; rw [if_pos rfl, if_pos (by omega), if_pos (by omega)]
      · rw [if_neg (by omega), if_neg e0]; exact a1
    · rw [List.getElem?_set, if_neg (by omega)]; exact a2
    · rw [List.getElem?_set, h3]
      by_cases e0 : k = 3
      · subst e0; rw [if_pos rfl, if_pos (by omega), if_pos (by omega)]
      · rw [if_neg (by omega), if_neg e0]; exact a3
  · rw [if_neg e, List.getElem?_set, List.getElem?_set, List.getElem?_set, List.getElem?_set, if_neg (by omega), if_neg (by omega), if_neg (by omega), if_neg (by omega)]
    exact ⟨a0, a1, a2, a3⟩
theorem Rg.store {i k : Nat} {u : Value} {r : Rc} (h : Rg w H room drops (.slice (some ⟨g, 0, none⟩) rs.length c) gs rs) (hi : i < rs.length) (hb : r.b = (rget rs i).b)
    (h0 : (.int .i64 r.own : Value) = if k = 0 then u else .int .i64 (rget rs i).own) (h1 : (.int .i64 r.st : Value) = if k = 1 then u else .int .i64 (rget rs i).st) (h2 : k ≠ 2) (h3 : (.bool r.gone : Value) = if k = 3 then u else .bool (rget rs i).gone) (hk : k < 4) :
    Rg (w.setCell ⟨g, i * 4 + k, none⟩ u) H room drops (.slice (some ⟨g, 0, none⟩) (rs.set i r).length c) gs (rs.set i r) := by
  obtain ⟨ys, hy, hc⟩ := h.row
  have hHg : H ≠ g := fun e => h.hk (by rw [e]; rfl)
  have eb : ∀ b, b ≠ g → (w.setCell ⟨g, i * 4 + k, none⟩ u).heap[b]? = w.heap[b]? := fun b hb => Below.heap_setCell w ⟨g, i * 4 + k, none⟩ _ b hb
  have eH := eb H hHg
  have eg : ∀ j, j < rs.length → gs j ≠ g := fun j hj e => h.kg j hj (by rw [e]; rfl)
  have hbb : ∀ j, j < rs.length → (rget (rs.set i r) j).b = (rget rs j).b := fun j hj => by
    rw [rget_set hi]
    by_cases e : i = j
    · subst e; rw [if_pos rfl, hb]
    · rw [if_neg e]
  have hlen : (rs.set i r).length = rs.length := List.length_set
  refine ⟨(World.cell?_of_block (w := w) eH).trans h.h0, (World.cell?_of_block (w := w) eH).trans h.h1, ?_, fun j => (World.frozen?_of_block (w := w) (a := ⟨H, j, none⟩) eH).trans (h.fH j), ⟨_, ?_, cells_set hc hy.1 hi hb h0 h1 h2 h3 hk⟩, h.hk, ?_, ?_, ?_, ?_, ?_, ?_, ?_⟩
  · rw [hlen]; exact (World.cell?_of_block (w := w) eH).trans h.h2
  · rw [hlen]; exact (hy.stored (i * 4 + k) u).1
  · rw [hlen]; exact h.kg
  · rw [hlen]; exact h.Hg
  · rw [hlen]; exact h.gi
  · intro j hj
    rw [hlen] at hj
    rw [hbb j hj]
    exact fun l hl => (World.cell?_of_block (w := w) (a := ⟨gs j, 0 + l, none⟩) (eb _ (eg j hj))).trans (h.data j hj l hl)
  · intro j hj l
    rw [hlen] at hj
    exact (World.frozen?_of_block (w := w) (a := ⟨gs j, l, none⟩) (eb _ (eg j hj))).trans (h.free j hj l)
  · intro j hj
    rw [hlen] at hj
    rw [hbb j hj]
    exact h.len j hj
  · rw [hlen]; exact h.le
theorem Rg.setSt {i : Nat} {s : Int} (h : Rg w H room drops (.slice (some ⟨g, 0, none⟩) rs.length c) gs rs) (hi : i < rs.length) :
    Rg (w.setCell ⟨g, i * 4 + 1, none⟩ (.int .i64 s)) H room drops (.slice (some ⟨g, 0, none⟩) (setSt rs i s).length c) gs (setSt rs i s) :=
  h.store hi rfl (by simp) (by simp) (by omega) (by simp) (by omega)
theorem Rg.setGone {i : Nat} (h : Rg w H room drops (.slice (some ⟨g, 0, none⟩) rs.length c) gs rs) (hi : i < rs.length) :
    Rg (w.setCell ⟨g, i * 4 + 3, none⟩ (.bool true)) H room drops (.slice (some ⟨g, 0, none⟩) (setGone rs i).length c) gs (setGone rs i) :=
  h.store hi rfl (by simp) (by simp) (by omega) (by simp) (by omega)
/-- A write of bytes into a record. -/
structure WroteAt (g p len : Nat) (zs : List Int) (w w' : World) : Prop where
  os : w'.os = w.os
  tape : w'.tape = w.tape
  output : w'.output = w.output
  size : w.heap.size = w'.heap.size
  block : ∀ b, b ≠ g → w'.heap[b]? = w.heap[b]?
  cell : ∀ j, j < len → w'.cell? ⟨g, p + j, none⟩ = some (.int .u8 (zs.getD j 0))
  far : ∀ j, (∀ i, i < len → j ≠ p + i) → w'.cell? ⟨g, j, none⟩ = w.cell? ⟨g, j, none⟩
  froz : ∀ j, w'.frozen? ⟨g, j, none⟩ = w.frozen? ⟨g, j, none⟩
theorem wrote_one {G p len j : Nat} {zs : List Int} {x : Int} (hr : RowAt w G p len zs) (hz : zs.length = len) (hj : j < len) : WroteAt G p len (zs.set j x) w (w.setCell ⟨G, p + j, none⟩ (.int .u8 x)) := by
  refine ⟨rfl, rfl, rfl, by simp [World.setCell], fun b hb => Below.heap_setCell w ⟨G, p + j, none⟩ _ b hb, fun i hi => ?_, fun i hi => ?_, fun i => ?_⟩
  · by_cases e : i = j
    · subst e
      rw [World.cell?_setCell_same _ _ _ (hr i hj), List.getD_eq_getElem?_getD, List.getElem?_set_self (by omega)]
      rfl
    · rw [World.cell?_setCell_other _ _ _ _ (by intro e3; injection e3 with _ e4 _; omega), hr i hi, List.getD_eq_getElem?_getD, List.getD_eq_getElem?_getD, List.getElem?_set_ne (by omega)]
  · rw [World.cell?_setCell_other _ _ _ _ (by simp; exact fun e => hi j hj e.symm)]
  · exact World.frozen?_setCell _ _ _ _
theorem Rg.wrote {w' : World} {i : Nat} {kv : Value} {zs : List Int} (h : Rg w H room drops kv gs rs) (hi : i < rs.length) (hw : WroteAt (gs i) 0 (rget rs i).b.length zs w w') (hz : zs.length = (rget rs i).b.length) :
    Rg w' H room drops kv gs (rs.set i { rget rs i with b := zs }) := by
  have hlen : ∀ r, (rs.set i r).length = rs.length := fun r => List.length_set
  have eH := hw.block H (fun e => h.Hg i hi e.symm)
  obtain ⟨ys, hy, hc⟩ := h.row
  have hbl : ∀ j, j < rs.length → (rget (rs.set i { rget rs i with b := zs }) j).b.length = (rget rs j).b.length := fun j hj => by
    rw [rget_set hi]
    by_cases e : i = j
    · subst e; rw [if_pos rfl]; exact hz
    · rw [if_neg e]
  refine ⟨(World.cell?_of_block (w := w) eH).trans h.h0, (World.cell?_of_block (w := w) eH).trans h.h1, (World.cell?_of_block (w := w) eH).trans h.h2, fun j => (World.frozen?_of_block (w := w) (a := ⟨H, j, none⟩) eH).trans (h.fH j), ⟨ys, ?_, ?_⟩, h.hk, ?_, ?_, ?_, ?_, ?_, ?_, ?_⟩
  · rw [hlen]
    exact own_kept hy (fun b hb => hw.block b (fun e => h.kg i hi (by rw [← e]; exact hb)))
  · intro j hj
    rw [hlen] at hj
    rw [hbl j hj]
    obtain ⟨a0, a1, a2, a3⟩ := hc j hj
    rw [rget_set hi]
    by_cases e : i = j
    · subst e; rw [if_pos rfl]; exact ⟨a0, a1, a2, a3⟩
    · rw [if_neg e]; exact ⟨a0, a1, a2, a3⟩
  · rw [hlen]; exact h.kg
  · rw [hlen]; exact h.Hg
  · rw [hlen]; exact h.gi
  · intro j hj
    rw [hlen] at hj
    rw [hbl j hj, rget_set hi]
    by_cases e : i = j
    · subst e
      rw [if_pos rfl]
      exact fun l hl => hw.cell l hl
    · rw [if_neg e]
      exact fun l hl => (World.cell?_of_block (w := w) (a := ⟨gs j, 0 + l, none⟩) (hw.block _ (fun e2 => e (h.gi _ _ hi hj e2.symm)))).trans (h.data j hj l hl)
  · intro j hj l
    rw [hlen] at hj
    by_cases e : i = j
    · subst e; rw [hw.froz]; exact h.free i hi l
    · exact (World.frozen?_of_block (w := w) (a := ⟨gs j, l, none⟩) (hw.block _ (fun e2 => e (h.gi _ _ hi hj e2.symm)))).trans (h.free j hj l)
  · intro j hj
    rw [hlen] at hj
    rw [hbl j hj]
    exact h.len j hj
  · rw [hlen]; exact h.le
end
/-! ### End -/
/-- The document's ring, its blocks S. -/
def DR (w : World) (S : Nat → Prop) (H : Nat) (room drops : Int) (rs : List Rc) : Prop := ∃ kv gs, Rg w H room drops kv gs rs ∧ ∀ b, S b ↔ RgS H kv gs rs.length b
def endR (rs : List Rc) (id s : Int) : List Rc := if hasR rs id = true then setSt rs id.toNat s else rs
theorem hasR_in {rs : List Rc} {id : Int} (h : hasR rs id = true) : ∃ i : Nat, id = i ∧ i < rs.length := by
  by_cases hin : 0 ≤ id ∧ id < rs.length
  · exact ⟨id.toNat, by omega, by omega⟩
  · rw [hasR_out hin] at h; cases h
set_option maxRecDepth 100000 in
theorem rg_end {w : World} {S : Nat → Prop} {H : Nat} {room drops : Int} {rs : List Rc} (h : DR w S H room drops rs) (id s : Int) :
    Calls Try.prog 12 #[.pointer (some ⟨H, 0, none⟩), .int .i64 id, .int .i64 s] w (fun e w' => e = .returned (.bool (hasR rs id)) ∧ DR w' S H room drops (endR rs id s) ∧ Turned S w w') := by
  obtain ⟨kv, gs, h, hS⟩ := h
  obtain ⟨a, c, rfl, hrow⟩ := h.shape
  have c2 := h.h2
  have hle := h.le
  have HG := Lib.hid h
  by_cases hb : hasR rs id = true
  · obtain ⟨i, rfl, hi⟩ := hasR_in hb
    obtain ⟨g, rfl, -, hfz, hcs⟩ := hrow.at_ (by omega)
    obtain ⟨-, d1, -, -⟩ := hcs i hi
    have f1 := hfz (i * 4 + 1)
    have hst := HG.out.setSt (s := s) hi
    have HST := Lib.hid hst
    obtain ⟨m, hm⟩ : ∃ m, rs.length = m := ⟨_, rfl⟩
    rw [hm] at c2 hi hle
    have HM := Lib.hid hm
    have HB := Lib.hid hb
    obtain ⟨old, hold⟩ : ∃ o, (rget rs i).st = o := ⟨_, rfl⟩
    rw [hold] at d1
    clear h hrow hcs hfz hst hm hb hold
    go_enter Try.func12, Try.ntmps12
    go_wp2_with (go_at_call 18; refine (rg_has HG.out _).mono ?_; rintro e w1 ⟨he, hw⟩; rw [HB.out] at he; subst he; subst hw)
    go_ret
    refine ⟨by rw [HB.out]; rfl, ⟨_, gs, by rw [endR, if_pos HB.out]; exact HST.out, fun b => ?_⟩, (Turned.refl S w).set (a := ⟨g, i * 4 + 1, none⟩) (.inl ((hS _).2 (.inr (.inl rfl)))) _⟩
    rw [hS b, endR, if_pos HB.out, show (setSt rs ((i : Int).toNat) s).length = rs.length from List.length_set]
    rfl
  · have hbf : hasR rs id = false := by simpa using hb
    have HB := Lib.hid hbf
    clear h hrow hb hbf
    go_enter Try.func12, Try.ntmps12
    go_wp2_with (go_at_call 18; refine (rg_has HG.out _).mono ?_; rintro e w1 ⟨he, hw⟩; rw [HB.out] at he; subst he; subst hw)
    go_ret
    refine ⟨by rw [HB.out]; rfl, ?_, Turned.refl S w⟩
    rw [endR, HB.out]
    exact ⟨_, gs, HG.out, hS⟩
end Go.Proofs.Ythpfockaipbhgaa
