/-
  Stated here: what a map by keys, and a storage, of the program tells. No Go text is walked. Conditions: as each definition says.
-/
import Derived.Test.YtenjdgoammaiiaaHRefHA
import Derived.Test.YtenjdgoammaiiaaGC
import Derived.Test.YtenjdgoammaiiaaGE
namespace Go.Proofs.Ytenjdgoammaiiaa
open Go.RowKit
set_option maxRecDepth 100000

/-- What Keys tells: lists of bytes, whose strings are the keys. -/
def numsOf (y : ByteArray) : List Int := y.data.toList.map fun b => (b.toNat : Int)
def KeysAt (w : World) (a : Option Addr) (l : List ByteArray) : Prop := l.length = 0 ∨ ∃ B, a = some ⟨B, 0, none⟩ ∧ B < w.heap.size ∧ ∀ j, j < l.length → ∃ g off c kz, w.cell? ⟨B, j, none⟩ = some (.slice (some ⟨g, off, none⟩) kz.length c) ∧ g < w.heap.size ∧ RowAt w g off kz.length kz ∧ kz = numsOf (l.getD j .empty)
theorem KeysAt.stay {w w' : World} {a : Option Addr} {l : List ByteArray} (h : KeysAt w a l) (hb : Below w.heap.size w w') : KeysAt w' a l := by
  rcases h with h | ⟨B, e, hB, h⟩
  · exact .inl h
  · refine .inr ⟨B, e, Nat.lt_of_lt_of_le hB hb.size, fun j hj => ?_⟩
    obtain ⟨g, off, c, kz, h1, h2, h3, h4⟩ := h j hj
    exact ⟨g, off, c, kz, (hb.cell (p := ⟨B, j, none⟩) hB).trans h1, Nat.lt_of_lt_of_le h2 hb.size, rowAt_below h3 h2 hb, h4⟩
/-- What Find tells. -/
def FoundP (ks : List ByteArray) (key : Nat) (kz : List Int) (W : World) (e : Ending) (w : World) : Prop :=
  e = .returned (if kz.length = key then (match ks.findIdx? (· = strOfNums kz) with
    | some i => .tuple #[.int .i64 (i : Int), .bool true]
    | none => .tuple #[.int .i64 0, .bool false]) else .tuple #[.int .i64 0, .bool false]) ∧ Below W.heap.size W w
/-- A program's map in memory: the blocks D are its own. -/
abbrev MapMem := World → (Nat → Prop) → Nat → List ByteArray → List Int → Prop
def DropP (PS : MapMem) (D : Nat → Prop) (h key : Nat) (ks : List ByteArray) (zs : List Int) (kz : List Int) (W : World) (e : Ending) (w : World) : Prop :=
  ∃ D', e = .returned (.int .i64 (dropE ks key kz)) ∧ PS w D' h (dropK ks key kz) zs ∧ Turned D W w ∧ ∀ b, D' b → D b ∨ W.heap.size ≤ b
def PutP (PS : MapMem) (D : Nat → Prop) (h : Nat) (r : Int × Int × List ByteArray × List Int) (W : World) (e : Ending) (w : World) : Prop :=
  ∃ D', e = .returned (.tuple #[.int .i64 r.1, .int .i64 r.2.1]) ∧ PS w D' h r.2.2.1 r.2.2.2 ∧ Turned D W w ∧ ∀ b, D' b → D b ∨ W.heap.size ≤ b
def CopyP (PS : MapMem) (ks : List ByteArray) (zs : List Int) (W : World) (e : Ending) (w : World) : Prop :=
  ∃ h2 D2, e = .returned (.pointer (some ⟨h2, 0, none⟩)) ∧ PS w D2 h2 ks zs ∧ Below W.heap.size W w ∧ ∀ b, D2 b → W.heap.size ≤ b
def NewP (PS : MapMem) (n L : Nat) (W : World) (e : Ending) (w : World) : Prop :=
  ∃ h D, e = .returned (.tuple #[.pointer (some ⟨h, 0, none⟩), .int .i64 0]) ∧ PS w D h (noKeys n) (zeros L) ∧ Below W.heap.size W w ∧ ∀ b, D b → W.heap.size ≤ b
def SlotP (PS : MapMem) (D : Nat → Prop) (h s q : Nat) (ks : List ByteArray) (zs : List Int) (W : World) (e : Ending) (w : World) : Prop :=
  ∃ G p, e = .returned (.tuple #[.slice (some ⟨G, p, none⟩) s s, .bool true]) ∧ Below W.heap.size W w ∧ D G ∧ ∀ t, t < s → w.frozen? ⟨G, p + t, none⟩ = false ∧ (∃ x, w.cell? ⟨G, p + t, none⟩ = some x) ∧ ∀ c, PS (w.setCell ⟨G, p + t, none⟩ (.int .u8 c)) D h ks (zs.set (q * s + t) c)
/-- No block of D holds these bytes. -/
def Off (D : Nat → Prop) (v : Value) : Prop := ∀ a len c, v = .slice (some a) len c → 0 < len → ¬ D a.block
/-- A program's storage in memory: the blocks D are its own, its bytes lie in block G. -/
abbrev StMem := World → (Nat → Prop) → Nat → Nat → List Ob → List Int → Prop
def GetQ (PS : StMem) (D : Nat → Prop) (h G : Nat) (r : Int × Int × List Ob × List Int) (W : World) (e : Ending) (w : World) : Prop :=
  ∃ D', e = .returned (.tuple #[.int .i64 r.1, .int .i64 r.2.1]) ∧ PS w D' h G r.2.2.1 r.2.2.2 ∧ Turned D W w ∧ ∀ b, D' b → D b ∨ W.heap.size ≤ b
def DropQ (PS : StMem) (D : Nat → Prop) (h : Nat) (r : Int × List Ob × List Int) (W : World) (e : Ending) (w : World) : Prop :=
  ∃ D' G', e = .returned (.int .i64 r.1) ∧ PS w D' h G' r.2.1 r.2.2 ∧ Turned D W w ∧ ∀ b, D' b → D b ∨ W.heap.size ≤ b
def CopyQ (PS : StMem) (os : List Ob) (zs : List Int) (W : World) (e : Ending) (w : World) : Prop :=
  ∃ h2 D2 G2, e = .returned (.pointer (some ⟨h2, 0, none⟩)) ∧ PS w D2 h2 G2 os zs ∧ Below W.heap.size W w ∧ ∀ b, D2 b → W.heap.size ≤ b
def NewQ (PS : StMem) (L : Nat) (W : World) (e : Ending) (w : World) : Prop :=
  ∃ h D G, e = .returned (.tuple #[.pointer (some ⟨h, 0, none⟩), .int .i64 0]) ∧ PS w D h G [] (zeros L) ∧ Below W.heap.size W w ∧ ∀ b, D b → W.heap.size ≤ b
end Go.Proofs.Ytenjdgoammaiiaa
