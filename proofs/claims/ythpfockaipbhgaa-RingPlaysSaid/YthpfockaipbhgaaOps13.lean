/-
  Proved here: a slice of operations on rings that came in is a row of cells. Conditions: as each says.
-/
import Derived.Test.YthpfockaipbhgaaFit
import Derived.Test.YthpfockaipbhgaaRgAud
namespace Go.Proofs.Ythpfockaipbhgaa
open Go.RowKit

/-- The fields of a struct, their places. -/
noncomputable def fieldsOf (t : TypeId) : Array (TypeId × Nat) := (Try.prog.underlying t).elim #[] fun d => match d with
  | .struct fs => fs.map fun f => (f.type, f.offset)
  | _ => #[]
theorem fit_at {w : World} {n : Nat} {t : TypeId} {cs : List Value} (h : Fit Try.prog w (n + 1) t cs) (i : Nat) (u : TypeId) (o : Nat) (hf : (fieldsOf t)[i]? = some (u, o)) : cs.length = Try.prog.cellsOf t ∧ Fit Try.prog w n u ((cs.drop o).take (Try.prog.cellsOf u)) := by
  unfold fieldsOf at hf
  cases hu : Try.prog.underlying t with
  | none => rw [hu] at hf; simp at hf
  | some d =>
    rw [hu] at hf
    cases d with
    | struct fs =>
      simp only [Option.elim, Array.getElem?_map] at hf
      cases hq : fs[i]? with
      | none => rw [hq] at hf; simp at hf
      | some f =>
        rw [hq] at hf
        simp at hf
        obtain ⟨h1, h2⟩ := fit_struct hu h
        have h3 := h2 i f hq
        rw [hf.1, hf.2] at h3
        exact ⟨h1, h3⟩
    | _ => simp at hf
theorem take_one {cs : List Value} {o : Nat} {v : Value} (h : (cs.drop o).take 1 = [v]) : cs[o]? = some v := by
  have : ((cs.drop o).take 1)[0]? = some v := by rw [h]; rfl
  rwa [List.getElem?_take_of_lt (by omega), List.getElem?_drop, Nat.add_zero] at this
/-- The cells of an operation. -/
structure OpAt (w : World) (g o : Nat) (kd ow n id C : Int) : Prop where
  c0 : w.cell? ⟨g, o, none⟩ = some (.int .u8 kd)
  c1 : w.cell? ⟨g, o + 1, none⟩ = some (.int .i64 ow)
  c2 : w.cell? ⟨g, o + 2, none⟩ = some (.int .i64 n)
  c3 : w.cell? ⟨g, o + 3, none⟩ = some (.int .i64 id)
  c4 : w.cell? ⟨g, o + 4, none⟩ = some (.int .u8 C)
  bd : 0 ≤ kd ∧ kd ≤ 255
  bo : -9223372036854775808 ≤ ow ∧ ow ≤ 9223372036854775807
  bn : -9223372036854775808 ≤ n ∧ n ≤ 9223372036854775807
  bi : -9223372036854775808 ≤ id ∧ id ≤ 9223372036854775807
  bC : 0 ≤ C ∧ C ≤ 255
theorem op_fields : fieldsOf 34 = #[(5, 0), (3, 1), (3, 2), (3, 3), (5, 4)] := by kernel_rfl
/-- The operations' row. -/
def OpsIn (w : World) (A : Option Addr) (len : Nat) : Prop := len = 0 ∨ ∃ g off, A = some ⟨g, off, none⟩ ∧ g < w.heap.size ∧ ∀ j, j < len → ∃ kd ow n id C, OpAt w g (off + j * 5) kd ow n id C
theorem rows_ops {w : World} {v : Value} (h : FitV Try.prog w 4 22 v) : ∃ A len cap, v = .slice A len cap ∧ len ≤ maxLen ∧ OpsIn w A len := by
  have hc5 : Try.prog.cellsOf 34 = 5 := by kernel_rfl
  have hci : Try.prog.cellsOf 3 = 1 := by kernel_rfl
  have hcb : Try.prog.cellsOf 5 = 1 := by kernel_rfl
  rcases fitV_slice Try.underlying22 h with rfl | ⟨a, len, cap, rfl, hl, hm, hel⟩
  · exact ⟨none, 0, 0, rfl, Nat.zero_le _, .inl rfl⟩
  · refine ⟨some a, len, cap, rfl, by omega, ?_⟩
    rcases Nat.eq_zero_or_pos len with h0 | h0
    · exact .inl h0
    · obtain ⟨b, off, spot⟩ := a
      rw [hc5] at hel
      have hany : ∀ j, j < len → ∃ kd ow n id C, w.cell? ((⟨b, off, spot⟩ : Addr).add (j * 5 + 0)) = some (.int .u8 kd) ∧ w.cell? ((⟨b, off, spot⟩ : Addr).add (j * 5 + 1)) = some (.int .i64 ow) ∧ w.cell? ((⟨b, off, spot⟩ : Addr).add (j * 5 + 2)) = some (.int .i64 n) ∧
          w.cell? ((⟨b, off, spot⟩ : Addr).add (j * 5 + 3)) = some (.int .i64 id) ∧ w.cell? ((⟨b, off, spot⟩ : Addr).add (j * 5 + 4)) = some (.int .u8 C) ∧
          (0 ≤ kd ∧ kd ≤ 255) ∧ (-9223372036854775808 ≤ ow ∧ ow ≤ 9223372036854775807) ∧ (-9223372036854775808 ≤ n ∧ n ≤ 9223372036854775807) ∧ (-9223372036854775808 ≤ id ∧ id ≤ 9223372036854775807) ∧ (0 ≤ C ∧ C ≤ 255) := by
        intro j hj
        obtain ⟨cs, hcl, hat, hf⟩ := hel j hj
        obtain ⟨-, f0⟩ := fit_at hf 0 5 0 (by rw [op_fields]; rfl)
        obtain ⟨-, f1⟩ := fit_at hf 1 3 1 (by rw [op_fields]; rfl)
        obtain ⟨-, f2⟩ := fit_at hf 2 3 2 (by rw [op_fields]; rfl)
        obtain ⟨-, f3⟩ := fit_at hf 3 3 3 (by rw [op_fields]; rfl)
        obtain ⟨-, f4⟩ := fit_at hf 4 5 4 (by rw [op_fields]; rfl)
        rw [hcb] at f0 f4
        rw [hci] at f1 f2 f3
        obtain ⟨kd, e0, x0⟩ := fit_int Try.underlying5 f0
        obtain ⟨ow, e1, x1⟩ := fit_int Try.underlying3 f1
        obtain ⟨n, e2, x2⟩ := fit_int Try.underlying3 f2
        obtain ⟨id, e3, x3⟩ := fit_int Try.underlying3 f3
        obtain ⟨C, e4, x4⟩ := fit_int Try.underlying5 f4
        exact ⟨kd, ow, n, id, C, by rw [hat 0 (by omega)]; exact take_one e0, by rw [hat 1 (by omega)]; exact take_one e1, by rw [hat 2 (by omega)]; exact take_one e2, by rw [hat 3 (by omega)]; exact take_one e3, by rw [hat 4 (by omega)]; exact take_one e4, bounds_u8 x0, bounds_i64 x1, bounds_i64 x2, bounds_i64 x3, bounds_u8 x4⟩
      obtain ⟨_, _, _, _, _, h1, -⟩ := hany 0 h0
      have hspot : spot = none := by simpa [Addr.add] using World.cell?_spot h1
      subst hspot
      have hg : b < w.heap.size := by
        have := World.block_lt_of_cell? w _ h1
        simpa [Addr.add] using this
      refine .inr ⟨b, off, rfl, hg, fun j hj => ?_⟩
      obtain ⟨kd, ow, n, id, C, q0, q1, q2, q3, q4, r0, r1, r2, r3, r4⟩ := hany j hj
      rw [Go.WideShapes.add_plain] at q0 q1 q2 q3 q4
      exact ⟨kd, ow, n, id, C, q0, q1, q2, q3, q4, r0, r1, r2, r3, r4⟩
end Go.Proofs.Ythpfockaipbhgaa
