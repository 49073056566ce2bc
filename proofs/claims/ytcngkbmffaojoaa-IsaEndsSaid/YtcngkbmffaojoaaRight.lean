/-
  Proved here: Right of package isa and Right of the document's answers return the same for every instruction. Conditions: the opcode is a byte, the registers are not below 0.
-/
import Derived.Test.YtcngkbmffaojoaaFields
import Derived.Deep.RegionWith
namespace Go.Proofs.Ytcngkbmffaojoaa
open Go.RowKit

theorem map_made (w : World) : FieldMap (w.alloc (.map (ents 12) 12)) w.heap.size := (MapKept.heap_alloc w _).1
theorem map_made2 (w : World) (o : Obj) : FieldMap ((w.alloc o).alloc (.map (ents 12) 12)).drew (w.heap.size + 1) := by
  have h := map_made (w.alloc o)
  have e : (w.alloc o).heap.size = w.heap.size + 1 := by simp
  rw [e] at h
  exact h
theorem right_isa (o d s f m : Int) (w : World) (h0 : 0 ≤ o) (h1 : o ≤ 255) :
    Calls Try.prog 7 #[insV o d s f m] w fun e w' => e = .returned (.bool (rightI ⟨o, d, s, f, m⟩)) ∧ Below w.heap.size w w' := by
  obtain ⟨r, hr⟩ : ∃ r, rightI ⟨o, d, s, f, m⟩ = r := ⟨_, rfl⟩
  rw [hr]
  have HR := Lib.hid hr
  clear hr
  unfold insV
  go_enter Try.func7, Try.ntmps7
  go_wp2
  go_region_with (first
    | (go_at_call 19; refine (fields_map _).mono ?_; rintro e w1 ⟨rfl, rfl⟩)
    | (go_at_call 18; refine (fits_isa _ _ o d s f m (by exact map_made2 _ _) h0 h1).mono ?_; rintro e w2 ⟨rfl, hb2⟩; have HB2 := Lib.hid hb2; clear hb2))
  all_goals
    go_wp2
    go_ret
    exact ⟨ret_bool HR.out, ((((Below.refl _ _).alloc (Nat.le_refl _) _).alloc (by simp) _).drew.trans (HB2.out.mono (by simp; omega)))⟩

/-- Right by the document's answers. -/
def rightR (x : Ins) : Bool :=
  if x.op = 24 then decide (x.dst ≤ 9) && decide (x.off = 0) && decide (x.src ≤ 1)
  else if x.op % 8 = 4 ∨ x.op % 8 = 7 then
    if 12 < x.op / 16 ∨ 9 < x.dst ∨ x.off ≠ 0 then false
    else if x.op / 16 = 8 then !decide (x.op / 8 % 2 = 1) && decide (x.src = 0) && decide (x.imm = 0)
    else if x.op / 8 % 2 = 1 then decide (x.src ≤ 10) && decide (x.imm = 0) else decide (x.src = 0)
  else if condB x.op = true then
    if x.op / 8 % 2 = 1 then decide (x.dst ≤ 10) && decide (x.src ≤ 10) && decide (x.imm = 0) else decide (x.dst ≤ 10) && decide (x.src = 0)
  else if x.op = 5 then decide (x.dst = 0) && decide (x.src = 0) && decide (x.imm = 0)
  else if x.op = 133 then decide (x.dst = 0) && decide (x.src = 0) && decide (x.off = 0)
  else if x.op = 149 then decide (x.dst = 0) && decide (x.src = 0) && decide (x.off = 0) && decide (x.imm = 0)
  else if szR x.op = 0 then false
  else if x.op % 8 = 1 then decide (x.dst ≤ 9) && decide (x.src ≤ 10) && decide (x.imm = 0)
  else if x.op % 8 = 2 then decide (x.dst ≤ 10) && decide (x.src = 0)
  else decide (x.dst ≤ 10) && decide (x.src ≤ 10) && decide (x.imm = 0)
theorem below_box (w : World) (o : Obj) : Below w.heap.size w (w.alloc o) := (Below.refl _ _).alloc (Nat.le_refl _) _

set_option maxRecDepth 100000 in
theorem right_ref24 (d s f m : Int) (w : World) :
    Calls Try.prog 8 #[insV 24 d s f m] w fun e w' => e = .returned (.bool (rightR ⟨24, d, s, f, m⟩)) ∧ Below w.heap.size w w' := by
  unfold insV
  go_enter Try.func8, Try.ntmps8
  go_wp2
  all_goals
    go_ret
    exact ⟨ret_bool (by simp_all [rightR] <;> (intros; omega)), below_box _ _⟩
end Go.Proofs.Ytcngkbmffaojoaa
