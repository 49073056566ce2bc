/-
  Proved here: what Do of package alu tells of a number that is no operation's. Conditions: numbers are uint8, uint64.
-/
import Derived.Test.YtogadmlnmcojpaaMap
import Derived.Below
namespace Go.Proofs.Ytogadmlnmcojpaa
open Go.RowKit
theorem zx_bd {x n : Int} (h0 : 0 ≤ x) (h1 : x ≤ 18446744073709551615) : 0 ≤ zx x n ∧ zx x n ≤ 18446744073709551615 := by
  unfold zx
  split
  · omega
  split
  · omega
  split <;> omega
def DoPost (w : World) (r : Int) (ok : Bool) (e : Ending) (w' : World) : Prop := e = .returned (.tuple #[.int .u64 r, .bool ok]) ∧ Below w.heap.size w w'

theorem do_none (op : Int) (wide : Bool) (a b : Int) (w : World) (h0 : 0 ≤ op) (h1 : op ≤ 255) (h : isOp op = false) :
    Calls Try.prog 32 #[.int .u8 op, .bool wide, .int .u64 a, .int .u64 b] w (DoPost w 0 false) := by
  unfold DoPost
  have hk := op_look0 (w.alloc (.map (opEnts 13) 13)) w.heap.size op (by unfold OpMap; exact (MapKept.heap_alloc w _).1) (op_none h0 h1 h)
  have hbel : Below w.heap.size w (w.alloc (.map (opEnts 13) 13)) := (Below.refl _ _).alloc (Nat.le_refl _) _
  have HB := Lib.hid hbel
  clear hbel
  generalize hW : w.alloc (.map (opEnts 13) 13) = W at hk HB
  have HW := Lib.hid hW
  clear hW
  go_enter Try.func32, Try.ntmps32
  go_wp2_with (first
    | (go_at_call 64; refine (ops_map _).mono ?_; rintro e w' ⟨rfl, rfl⟩; rw [HW.out]))
  go_ret2
  exact ⟨rfl, HB.out⟩
end Go.Proofs.Ytogadmlnmcojpaa
