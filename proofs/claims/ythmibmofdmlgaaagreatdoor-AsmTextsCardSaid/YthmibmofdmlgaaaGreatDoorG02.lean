import Derived.Test.YthmibmofdmlgaaaGreatDoorHWide
import Derived.WalkLawsBesides
/-
  Proved here: must of package asm returns where it holds, and panics with EINVAL where it does not. Conditions: none.
-/
namespace Go.Proofs.YthmibmofdmlgaaaGreatDoor
open Go.RowKit

/-- What is panicked with. -/
def given : List PanicEntry := [{ v := .iface 24 (.int .i64 22), recovered := false }]
theorem must_yes (w : World) : Calls Tryz.prog 43 #[.bool true] w (Ret (.tuple #[]) w) := by
  unfold Ret
  go_enter Tryz.func43, Tryz.ntmps43
  go_wp2
  go_end0
  exact ⟨rfl, rfl⟩
theorem must_no (w : World) : Calls Tryz.prog 43 #[.bool false] w fun e w' => e = .panicked given ∧ w' = w := by
  go_enter Tryz.func43, Tryz.ntmps43
  go_wp2
  exact ⟨rfl, rfl, rfl⟩
end Go.Proofs.YthmibmofdmlgaaaGreatDoor

/-
  Proved here: what shapeOf and its parts, Size and IsJump of package isa, and Size, Conditional and Jump of the document's answers return. Conditions: none.
-/
namespace Go.Proofs.YthmibmofdmlgaaaGreatDoor
open Go.RowKit

theorem ret_u8 {a b : Int} (h : a = b) : Ending.returned (.int .u8 a) = .returned (.int .u8 b) := by rw [h]
theorem ret_i64 {a b : Int} (h : a = b) : Ending.returned (.int .i64 a) = .returned (.int .i64 b) := by rw [h]

/-- By operand. -/
def byO (op a b : Int) : Int := if bits .and .u8 op 8 = 0 then a else b
theorem by_operand (op a b : Int) (w : World) : Calls Tryz.prog 111 #[.int .u8 op, .int .u8 a, .int .u8 b] w (Ret (.int .u8 (byO op a b)) w) := by
  unfold Ret
  obtain ⟨m, hm⟩ : ∃ m, bits .and .u8 op 8 = m := ⟨_, rfl⟩
  go_enter Tryz.func111, Tryz.ntmps111
  go_wp2
  all_goals
    go_ret
    exact ⟨ret_u8 (by simp_all [byO]), rfl⟩

/-- The shape of a memory opcode. -/
def shpMem (op : Int) : Int := if bits .andNot .u8 op 24 = 97 then 9 else if bits .andNot .u8 op 24 = 98 then 10 else if bits .andNot .u8 op 24 = 99 then 11 else 0
theorem shape_mem (op : Int) (w : World) : Calls Tryz.prog 71 #[.int .u8 op] w (Ret (.int .u8 (shpMem op)) w) := by
  unfold Ret
  obtain ⟨m, hm⟩ : ∃ m, bits .andNot .u8 op 24 = m := ⟨_, rfl⟩
  go_enter Tryz.func71, Tryz.ntmps71
  go_wp2
  all_goals
    go_ret
    exact ⟨ret_u8 (by simp_all [shpMem]), rfl⟩

/-- .. of an operation. -/
def shpOp (op : Int) : Int := if 192 < bits .and .u8 op 240 then 0 else if bits .and .u8 op 240 = 128 then byO op 3 0 else byO op 1 2
theorem shape_op (op : Int) (w : World) : Calls Tryz.prog 93 #[.int .u8 op] w (Ret (.int .u8 (shpOp op)) w) := by
  unfold Ret
  obtain ⟨m, hm⟩ : ∃ m, bits .and .u8 op 240 = m := ⟨_, rfl⟩
  go_enter Tryz.func93, Tryz.ntmps93
  go_wp2_with (go_at_call 111; refine (by_operand _ _ _ _).mono ?_; rintro e w' ⟨rfl, rfl⟩)
  all_goals
    go_ret
    exact ⟨ret_u8 (by simp_all [shpOp] <;> omega), rfl⟩

/-- .. of a jump. -/
def shpJump (op : Int) : Int := if op = 5 then 6 else if op = 133 then 7 else if op = 149 then 8 else
  if 16 ≤ bits .and .u8 op 240 ∧ bits .and .u8 op 240 ≤ 112 ∨ 160 ≤ bits .and .u8 op 240 ∧ bits .and .u8 op 240 ≤ 208 then byO op 4 5 else 0
theorem shape_jump (op : Int) (w : World) : Calls Tryz.prog 94 #[.int .u8 op] w (Ret (.int .u8 (shpJump op)) w) := by
  unfold Ret
  obtain ⟨m, hm⟩ : ∃ m, bits .and .u8 op 240 = m := ⟨_, rfl⟩
  go_enter Tryz.func94, Tryz.ntmps94
  go_wp2_with (go_at_call 111; refine (by_operand _ _ _ _).mono ?_; rintro e w' ⟨rfl, rfl⟩)
  all_goals
    go_ret
    exact ⟨ret_u8 (by simp_all [shpJump] <;> omega), rfl⟩

/-- The shape of an opcode. -/
def shp (op : Int) : Int := if bits .and .u8 op 7 = 0 then (if op = 24 then 12 else 0) else if bits .and .u8 op 7 = 1 ∨ bits .and .u8 op 7 = 2 ∨ bits .and .u8 op 7 = 3 then shpMem op
  else if bits .and .u8 op 7 = 4 ∨ bits .and .u8 op 7 = 7 then shpOp op else if bits .and .u8 op 7 = 5 ∨ bits .and .u8 op 7 = 6 then shpJump op else 0
theorem shape_of (op : Int) (w : World) : Calls Tryz.prog 73 #[.int .u8 op] w (Ret (.int .u8 (shp op)) w) := by
  unfold Ret
  obtain ⟨m, hm⟩ : ∃ m, bits .and .u8 op 7 = m := ⟨_, rfl⟩
  go_enter Tryz.func73, Tryz.ntmps73
  go_wp2_with (first | (go_at_call 71; refine (shape_mem _ _).mono ?_; rintro e w' ⟨rfl, rfl⟩) | (go_at_call 93; refine (shape_op _ _).mono ?_; rintro e w' ⟨rfl, rfl⟩) | (go_at_call 94; refine (shape_jump _ _).mono ?_; rintro e w' ⟨rfl, rfl⟩))
  all_goals
    go_ret
    exact ⟨ret_u8 (by simp_all [shp]), rfl⟩

/-- A memory opcode's bytes. -/
def szI (op : Int) : Int := if shpMem op = 0 then 0 else if bits .and .u8 op 24 = 0 then 4 else if bits .and .u8 op 24 = 8 then 2 else if bits .and .u8 op 24 = 16 then 1 else 8
theorem size_isa (op : Int) (w : World) : Calls Tryz.prog 55 #[.int .u8 op] w (Ret (.int .i64 (szI op)) w) := by
  unfold Ret
  obtain ⟨m, hm⟩ : ∃ m, bits .and .u8 op 24 = m := ⟨_, rfl⟩
  go_enter Tryz.func55, Tryz.ntmps55
  go_wp2_with (first | (go_at_call 71; refine (shape_mem _ _).mono ?_; rintro e w' ⟨rfl, rfl⟩))
  all_goals
    go_ret
    exact ⟨ret_i64 (by simp_all [szI]), rfl⟩
/-- .. by the document's answers. -/
def szR (op : Int) : Int := if op = 97 ∨ op = 98 ∨ op = 99 then 4 else if op = 105 ∨ op = 106 ∨ op = 107 then 2 else if op = 113 ∨ op = 114 ∨ op = 115 then 1 else if op = 121 ∨ op = 122 ∨ op = 123 then 8 else 0
theorem size_ref3 (op : Int) (w : World) : Calls Tryz.prog 25 #[.int .u8 op] w (Ret (.int .i64 (szR op)) w) := by
  unfold Ret
  go_enter Tryz.func25, Tryz.ntmps25
  go_wp2
  all_goals
    go_ret
    exact ⟨ret_i64 (by simp_all [szR]), rfl⟩

/-- A jump with a condition. -/
def condB (op : Int) : Bool := decide ((op % 8 = 5 ∨ op % 8 = 6) ∧ (1 ≤ op / 16 ∧ op / 16 ≤ 7 ∨ 10 ≤ op / 16 ∧ op / 16 ≤ 13))
theorem cond_ref (op : Int) (w : World) (h0 : 0 ≤ op) (h1 : op ≤ 255) : Calls Tryz.prog 24 #[.int .u8 op] w (Ret (.bool (condB op)) w) := by
  unfold Ret
  go_enter Tryz.func24, Tryz.ntmps24
  go_wp2
  all_goals
    go_ret
    refine ⟨ret_bool ?_, rfl⟩
    simp_all [condB] <;> omega
end Go.Proofs.YthmibmofdmlgaaaGreatDoor

/-
  Proved here: what IsJump of package isa and Jump of the document's answers return; by all 256 opcodes that they, and the sizes, are the same. Conditions: the opcode is a byte.
-/
namespace Go.Proofs.YthmibmofdmlgaaaGreatDoor
open Go.RowKit

/-- A jump, by its shape. -/
def jmpI (op : Int) : Bool := shp op == 6 || shp op == 4 || shp op == 5
/-- .. by the document's answers. -/
def jmpR (op : Int) : Bool := op == 5 || condB op
theorem jmp_table : ∀ n : Fin 256, jmpI (n.val : Int) = jmpR (n.val : Int) := by decide +kernel
theorem sz_table : ∀ n : Fin 256, szI (n.val : Int) = szR (n.val : Int) := by decide +kernel
theorem of_table {β : Type} {f g : Int → β} (h : ∀ n : Fin 256, f (n.val : Int) = g (n.val : Int)) {op : Int} (h0 : 0 ≤ op) (h1 : op ≤ 255) : f op = g op := by
  have := h ⟨op.toNat, by omega⟩
  have e : ((op.toNat : Nat) : Int) = op := by omega
  simpa only [e] using this
theorem jmp_same {op : Int} (h0 : 0 ≤ op) (h1 : op ≤ 255) : jmpI op = jmpR op := of_table jmp_table h0 h1
theorem sz_same {op : Int} (h0 : 0 ≤ op) (h1 : op ≤ 255) : szI op = szR op := of_table sz_table h0 h1
end Go.Proofs.YthmibmofdmlgaaaGreatDoor
