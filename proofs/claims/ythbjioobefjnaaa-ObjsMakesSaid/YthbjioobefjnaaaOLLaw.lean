/-
  Proved here: the law ObjsLoads walked, over whatever package keeps the contracts. Conditions: Acts17, Acts17L.
-/
import Derived.Test.YthbjioobefjnaaaORLaw
import Derived.Deep.RegionWith
import Derived.Deep.RegionHeld
namespace Go.Proofs.Ythbjioobefjnaaa
open Go.RowKit

/-- A slice of bytes reads as a text, whatever is made behind it. -/
def Conv (w : World) (v : Value) (st : ByteArray) : Prop := ∀ W, Below w.heap.size w W → (convert 48 9 v).run Try.prog W = .ok (.string st) W
theorem Conv.stay {w w' : World} {v : Value} {st : ByteArray} (h : Conv w v st) (hb : Below w.heap.size w w') : Conv w' v st := fun W hW => h W (hb.trans (hW.mono hb.size))
theorem Conv.now {w : World} {v : Value} {st : ByteArray} (h : Conv w v st) : (convert 48 9 v).run Try.prog w = .ok (.string st) w := h w (Below.refl _ _)
theorem conv_nil (w : World) : Conv w (.slice none 0 0) ⟨#[]⟩ := fun W _ => by kernel_rfl
theorem conv_row {w : World} {g n c : Nat} {zs : List Int} (hz : zs.length = n) (hg : g < w.heap.size) (h : RowAt w g 0 n zs) : Conv w (.slice (some ⟨g, 0, none⟩) n c) (strOfNums zs) := fun W hW =>
  run_convert_bytes_arg W 48 5 Try.underlying48 Try.underlying5 g 0 n c zs hz (fun j hj => (hW.cell (p := ⟨g, 0 + j, none⟩) hg).trans (h j hj)) 9 Try.underlying9
def pathS (s : ByteArray) (n : Int) : ByteArray := if 1 ≤ n ∧ n ≤ 32 then strOfNums (pathL s n.toNat) else ⟨#[]⟩
def pathK (s : ByteArray) (n : Int) : Int := if 1 ≤ n ∧ n ≤ 32 then ((min n.toNat s.size : Nat) : Int) else 0
def GavePS (s : ByteArray) (n : Int) (W : World) (e : Ending) (w : World) : Prop := ∃ a k c, e = .returned (.tuple #[.slice a k c, .int .i64 (pathK s n)]) ∧ Below W.heap.size W w ∧ Conv w (.slice a k c) (pathS s n)
theorem gavePS_no {s : ByteArray} {n : Int} {W : World} (h : ¬ (1 ≤ n ∧ n ≤ 32)) {e : Ending} {w : World} (ht : Tells (.tuple #[.slice none 0 0, .int .i64 0]) W e w) : GavePS s n W e w := by
  obtain ⟨rfl, hb⟩ := ht
  refine ⟨none, 0, 0, ?_, hb, ?_⟩
  · unfold pathK; rw [if_neg h]
  · unfold pathS; rw [if_neg h]; exact conv_nil _
theorem gavePS_yes {s : ByteArray} {n : Nat} {W : World} (h1 : 1 ≤ n) (h2 : n ≤ 32) {e : Ending} {w : World} (ht : GaveP s n W e w) : GavePS s n W e w := by
  obtain ⟨a, c, rfl, hb, g, rfl, -, hg, hr⟩ := ht
  have h : (1 : Int) ≤ n ∧ (n : Int) ≤ 32 := by omega
  refine ⟨some ⟨g, 0, none⟩, n, c, ?_, hb, ?_⟩
  · unfold pathK; rw [if_pos h, Int.toNat_natCast]
  · unfold pathS; rw [if_pos h, Int.toNat_natCast]; exact conv_row (pathL_len s n) hg hr
theorem loadO_is (o : Kob) (at_ n : Int) : ∃ u b, loadO o at_ n = .tuple #[.int .u64 u, .bool b] := by
  unfold loadO
  split
  · exact ⟨_, _, rfl⟩
  · exact ⟨_, _, rfl⟩
/-- An object's box, and what it leads to. -/
structure HeldO (w W : World) (X : Array Value) (o : Kob) : Prop where
  below : Below w.heap.size w W
  box : W.heap[w.heap.size]? = some (.cells X 39 (0, 0))
  ob : ObX W X o
theorem HeldO.stay {w W W' : World} {X : Array Value} {o : Kob} (h : HeldO w W X o) (hb : Below W.heap.size W W') : HeldO w W' X o :=
  ⟨h.below.trans (hb.mono h.below.size), (hb.block _ (Array.getElem?_eq_some_iff.1 h.box).1).trans h.box, h.ob.stay hb⟩
theorem HeldO.ld {w W : World} {X : Array Value} {o : Kob} (h : HeldO w W X o) : (loadObjV (.pointer (some ⟨w.heap.size, 0, none⟩))).run Try.prog W = .ok (.agg X) W := run_loadObj W w.heap.size X 39 (0, 0) h.box h.ob.size
theorem HeldO.new {w : World} {X : Array Value} {o : Kob} (h : ObX w X o) : HeldO w (w.alloc (.cells X 39)) X o :=
  ⟨(Below.refl _ _).alloc (Nat.le_refl _) _, heap_alloc_new _ _, h.stay ((Below.refl _ _).alloc (Nat.le_refl _) _)⟩
theorem HeldO.cell {w W : World} {X : Array Value} {o : Kob} (h : HeldO w W X o) (j : Nat) : W.cell? ⟨w.heap.size, j, none⟩ = X[j]? := cell_of_row _ _ _ _ _ _ h.box
/-- All that the comparison reads. -/
structure All9 (w W : World) (X : Array Value) (o : Kob) (v4 v5 : Value) (st : ByteArray) : Prop where
  held : HeldO w W X o
  c4 : Conv W v4 st
  c5 : Conv W v5 st
theorem all9_step {w W W' : World} {X : Array Value} {o : Kob} {v4 v5 : Value} {st : ByteArray} (h : Hid (All9 w W X o v4 v5 st)) (hb : Below W.heap.size W W') : Hid (All9 w W' X o v4 v5 st) :=
  Lib.hid ⟨h.out.held.stay hb, h.out.c4.stay hb, h.out.c5.stay hb⟩
theorem all9_six {w W : World} {X : Array Value} {o : Kob} {v4 v5 : Value} {st : ByteArray} {d1 d2 : Int} (h : Hid (All9 w W X o v4 v5 st)) (h1 : X[1]? = some (.int .i64 d1)) (h2 : X[2]? = some (.int .i64 d2)) :
    (convert 48 9 v4).run Try.prog W = .ok (.string st) W ∧ (convert 48 9 v5).run Try.prog W = .ok (.string st) W ∧ (loadObjV (.pointer (some ⟨w.heap.size, 0, none⟩))).run Try.prog W = .ok (.agg X) W ∧ W.cell? ⟨w.heap.size, 1, none⟩ = some (.int .i64 d1) ∧ W.cell? ⟨w.heap.size, 2, none⟩ = some (.int .i64 d2) ∧ Hid (All9 w W X o v4 v5 st) :=
  ⟨h.out.c4.now, h.out.c5.now, h.out.held.ld, (h.out.held.cell 1).trans h1, (h.out.held.cell 2).trans h2, h⟩
attribute [local go_sem ↓] loadObj_veil
end Go.Proofs.Ythbjioobefjnaaa
