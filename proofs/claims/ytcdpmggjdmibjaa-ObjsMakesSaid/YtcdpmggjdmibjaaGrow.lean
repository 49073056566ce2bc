/-
  Proved here: a region that draws its order, whose operations only read and whose callees at most add memory, is walked once, in the order of its text. Conditions: none.
-/
import Derived.BigQuiet
import Derived.Below
namespace Go.Proofs.Ytcdpmggjdmibjaa
open Go.RowKit

/-- A world that is another one with memory added. -/
structure Wd (w0 : World) where
  at_ : World
  below : Below w0.heap.size w0 at_
instance wd_some (w0 : World) : Nonempty (Wd w0) := ⟨⟨w0, Below.refl _ _⟩⟩
theorem wp_region_grow {P : Program} {id : Nat} {Q : Exit → Act → World → Prop} {a : Act} {w : World} {l : List Oper} (w0 : World) (h0 : Below w0.heap.size w0 w) (hm : P.follows .mixedOrders = true) (hB : Region.lexB .any l.toArray = true)
    (h : wpQuiet P l.toArray (fun w' => ∃ x : Wd w0, w' = x.at_) (fun a' => ∀ w', (∃ x : Wd w0, w' = x.at_) → Q .normal a' w') l a) : (Code.region id l.toArray true).wp P Q a w :=
  wp_region_quiet (C := fun w' => ∃ x : Wd w0, w' = x.at_) hm hB ⟨⟨{ w with drawn := w.drawn + 1 }, ⟨h0.os, h0.tape, h0.output, h0.size, h0.block⟩⟩, rfl⟩ (by simpa using h)
theorem Wd.call {P : Program} {w0 : World} {f : FuncId} {args : Array Value} {v : Value} (x : Wd w0) (h : Calls P f args x.at_ fun e w' => e = .returned v ∧ Below x.at_.heap.size x.at_ w') : Calls P f args x.at_ fun e w'' => e = .returned v ∧ ∃ y : Wd w0, w'' = y.at_ :=
  h.mono fun _ w' h' => ⟨h'.1, ⟨w', x.below.trans (h'.2.mono x.below.size)⟩, rfl⟩
theorem Wd.cell {w0 : World} {p : Addr} {v : Value} (h : w0.cell? p = some v) (x : Wd w0) : x.at_.cell? p = some v := (x.below.cell (World.block_lt_of_cell? w0 _ h)).trans h
end Go.Proofs.Ytcdpmggjdmibjaa
