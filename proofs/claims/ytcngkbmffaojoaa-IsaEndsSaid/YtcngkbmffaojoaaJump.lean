/-
  Proved here: what IsJump of package isa and Jump of the document's answers return; by all 256 opcodes that they, and the sizes, are the same. Conditions: the opcode is a byte.
-/
import Derived.Test.YtcngkbmffaojoaaShape
namespace Go.Proofs.Ytcngkbmffaojoaa
open Go.RowKit

/-- A jump, by its shape. -/
def jmpI (op : Int) : Bool := shp op == 6 || shp op == 4 || shp op == 5
theorem jump_isa (o d s f m : Int) (w : World) : Calls Try.prog 11 #[insV o d s f m] w fun e w' => e = .returned (.bool (jmpI o)) ∧ Below w.heap.size w w' := by
  unfold insV
  obtain ⟨t, ht⟩ : ∃ t, shp o = t := ⟨_, rfl⟩
  have HT := Lib.hid ht
  go_enter Try.func11, Try.ntmps11
  go_wp2_with (go_at_call 21; refine (shape_of _ _).mono ?_; rintro e w' ⟨rfl, rfl⟩)
  all_goals
    go_ret
    exact ⟨ret_bool (by simp_all [jmpI]), (Below.refl _ _).alloc (Nat.le_refl _) _⟩
/-- .. by the document's answers. -/
def jmpR (op : Int) : Bool := op == 5 || condB op
theorem jump_ref (o d s f m : Int) (w : World) (h0 : 0 ≤ o) (h1 : o ≤ 255) : Calls Try.prog 12 #[insV o d s f m] w fun e w' => e = .returned (.bool (jmpR o)) ∧ Below w.heap.size w w' := by
  unfold insV
  by_cases h5 : o = 5
  · subst h5
    go_enter Try.func12, Try.ntmps12
    go_wp2
    go_ret
    exact ⟨rfl, (Below.refl _ _).alloc (Nat.le_refl _) _⟩
  · have hb : (o == 5) = false := by simpa using h5
    go_enter Try.func12, Try.ntmps12
    go_wp2_with (go_at_call 17; refine (cond_ref _ _ h0 h1).mono ?_; rintro e w' ⟨rfl, rfl⟩)
    go_ret
    exact ⟨ret_bool (by simp_all [jmpR]), (Below.refl _ _).alloc (Nat.le_refl _) _⟩

theorem jmp_table : ∀ n : Fin 256, jmpI (n.val : Int) = jmpR (n.val : Int) := by decide +kernel
theorem sz_table : ∀ n : Fin 256, szI (n.val : Int) = szR (n.val : Int) := by decide +kernel
theorem of_table {β : Type} {f g : Int → β} (h : ∀ n : Fin 256, f (n.val : Int) = g (n.val : Int)) {op : Int} (h0 : 0 ≤ op) (h1 : op ≤ 255) : f op = g op := by
  have := h ⟨op.toNat, by omega⟩
  have e : ((op.toNat : Nat) : Int) = op := by omega
  simpa only [e] using this
theorem jmp_same {op : Int} (h0 : 0 ≤ op) (h1 : op ≤ 255) : jmpI op = jmpR op := of_table jmp_table h0 h1
theorem sz_same {op : Int} (h0 : 0 ≤ op) (h1 : op ≤ 255) : szI op = szR op := of_table sz_table h0 h1
end Go.Proofs.Ytcngkbmffaojoaa
