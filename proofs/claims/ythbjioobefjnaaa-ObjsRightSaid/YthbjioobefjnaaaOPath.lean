/-
  Proved here: what Path and Inside of the document's objects give. Conditions: an object that reads as one.
-/
import Derived.Test.YthbjioobefjnaaaOLoad
namespace Go.Proofs.Ythbjioobefjnaaa
open Go.RowKit

/-- The byte of a text at a place; 0 behind it. -/
def byteAt (s : ByteArray) (j : Nat) : Int := if h : j < s.size then (s[j].toNat : Int) else 0
/-- The first n bytes of a text, and zeros behind it. -/
def pathL (s : ByteArray) (n : Nat) : List Int := (List.range n).map (byteAt s)
theorem pathL_succ (s : ByteArray) (n : Nat) : pathL s (n + 1) = pathL s n ++ [byteAt s n] := by
  unfold pathL
  rw [List.range_succ, List.map_append]
  rfl
theorem pathL_len (s : ByteArray) (n : Nat) : (pathL s n).length = n := by simp [pathL]
/-- What Path gives: a new row of n bytes, how many of them are the path's. -/
def GaveP (s : ByteArray) (n : Nat) (W : World) (e : Ending) (w : World) : Prop := ∃ a c, e = .returned (.tuple #[.slice a n c, .int .i64 ((min n s.size : Nat) : Int)]) ∧ Below W.heap.size W w ∧ ∃ g, a = some ⟨g, 0, none⟩ ∧ W.heap.size ≤ g ∧ g < w.heap.size ∧ RowAt w g 0 n (pathL s n)
/-- Is a pid among those? -/
def insideB (up : List Int) (pid : Int) : Bool := up.any fun p => decide (0 ≤ p) && p == pid
theorem inside_step (up : List Int) (pid : Int) (i : Nat) (hi : i < up.length) : (up.take (i + 1)).any (fun p => decide (0 ≤ p) && p == pid) = ((up.take i).any (fun p => decide (0 ≤ p) && p == pid) || (decide (0 ≤ up.getD i 0) && up.getD i 0 == pid)) := by
  rw [List.take_succ_eq_append_getElem hi, List.any_append, List.getD_eq_getElem?_getD, List.getElem?_eq_getElem hi]
  simp
end Go.Proofs.Ythbjioobefjnaaa
