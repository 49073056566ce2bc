/-
  Proved here: operations on maps, and descriptions, that came in. Conditions: as each lemma says.
-/
import Derived.Test.YtenjdgoammaiiaaHActs14
import Derived.Test.YtenjdgoammaiiaaHAlive14
import Derived.Test.YtenjdgoammaiiaaFit
import Derived.Test.YtenjdgoammaiiaaOpen
namespace Go.Proofs.Ytenjdgoammaiiaa
open Go.RowKit
set_option maxRecDepth 100000

/-- Bytes that came in. -/
theorem key_in {w : World} {n : Nat} {v : Value} (h : Fit Try.prog w (n + 2) 32 [v]) : ∃ a len c kz, v = .slice a len c ∧ kz.length = len ∧ len ≤ maxLen ∧ KeyAt w v kz ∧ ∀ x, x ∈ kz → 0 ≤ x ∧ x ≤ 255 := by
  rcases fit_slice Try.underlying32 h with h0 | ⟨a, len, cap, h0, hl, hm, hel⟩
  · obtain rfl : v = .slice none 0 0 := by simpa using h0
    exact ⟨none, 0, 0, [], rfl, rfl, Nat.zero_le _, .empty _ _, by simp⟩
  · obtain rfl : v = .slice (some a) len cap := by simpa using h0
    have hx : ∀ j, j < len → ∃ z : Int, w.cell? (a.add j) = some (.int .u8 z) ∧ 0 ≤ z ∧ z ≤ 255 := by
      intro j hj
      obtain ⟨cs', hcl, hat, hf⟩ := hel j hj
      have hc1 : Try.prog.cellsOf 5 = 1 := by kernel_rfl
      rw [hc1] at hcl hat
      obtain ⟨z, hz, hw⟩ := fit_int Try.underlying5 hf
      have := hat 0 (by omega)
      rw [hz] at this
      exact ⟨z, by simpa using this, bounds_u8 hw⟩
    obtain ⟨f, hf⟩ := Go.Deep.choose_lt hx
    rcases Nat.eq_zero_or_pos len with e | e
    · subst e
      exact ⟨_, 0, cap, [], rfl, rfl, Nat.zero_le _, .empty _ _, by simp⟩
    · obtain ⟨b, off, spot⟩ := a
      have h1 := (hf 0 e).1
      have hspot : spot = none := by simpa [Addr.add] using World.cell?_spot h1
      subst hspot
      have hg : b < w.heap.size := by
        have := World.block_lt_of_cell? w _ h1
        simpa [Addr.add] using this
      refine ⟨_, len, cap, (List.range len).map f, rfl, by simp, by omega, .row b off len cap _ (by simp) (fun j hj => ?_) (fun _ => hg), fun x hx => ?_⟩
      · have h2 := (hf j hj).1
        rw [add_lit] at h2
        rw [h2, List.getD_eq_getElem?_getD, List.getElem?_map, List.getElem?_range hj]
        rfl
      · simp only [List.mem_map, List.mem_range] at hx
        obtain ⟨j, hj, rfl⟩ := hx
        exact (hf j hj).2
/-- The fields of a struct, their places. -/
noncomputable def fieldsOf (t : TypeId) : Array (TypeId × Nat) := (Try.prog.underlying t).elim #[] fun d => match d with
  | .struct fs => fs.map fun f => (f.type, f.offset)
  | _ => #[]
theorem fit_at {w : World} {n : Nat} {t : TypeId} {cs : List Value} (h : Fit Try.prog w (n + 1) t cs) (i : Nat) (u : TypeId) (o : Nat) (hf : (fieldsOf t)[i]? = some (u, o)) : cs.length = Try.prog.cellsOf t ∧ Fit Try.prog w n u ((cs.drop o).take (Try.prog.cellsOf u)) := by
  unfold fieldsOf at hf
  cases hu : Try.prog.underlying t with
  | none => rw [hu] at hf; simp at hf
  | some d =>
    rw [hu] at hf
    cases d with
    | struct fs =>
      simp only [Option.elim, Array.getElem?_map] at hf
      cases hq : fs[i]? with
      | none => rw [hq] at hf; simp at hf
      | some f =>
        rw [hq] at hf
        simp at hf
        obtain ⟨h1, h2⟩ := fit_struct hu h
        have h3 := h2 i f hq
        rw [hf.1, hf.2] at h3
        exact ⟨h1, h3⟩
    | _ => simp at hf
theorem take_one {cs : List Value} {o : Nat} {v : Value} (h : (cs.drop o).take 1 = [v]) : cs[o]? = some v := by
  have : ((cs.drop o).take 1)[0]? = some v := by rw [h]; rfl
  rwa [List.getElem?_take_of_lt (by omega), List.getElem?_drop, Nat.add_zero] at this
/-- An operation that came in. -/
structure OpV (w : World) (kd : Int) (a1 : Option Addr) (l1 c1 : Nat) (a2 : Option Addr) (l2 c2 : Nat) (kz vz : List Int) : Prop where
  z1 : kz.length = l1
  z2 : vz.length = l2
  m1 : l1 ≤ maxLen
  m2 : l2 ≤ maxLen
  k1 : KeyAt w (.slice a1 l1 c1) kz
  k2 : KeyAt w (.slice a2 l2 c2) vz
  y1 : IsBytes kz
  bd : 0 ≤ kd ∧ kd ≤ 255
def opCells (kd M : Int) (v1 v2 : Value) (id gn fl K T C : Int) : List Value := [.int .u8 kd, .int .i64 M, v1, v2, .int .i64 id, .int .i64 gn, .int .u64 fl, .int .i64 K, .int .i64 T, .int .u8 C]
theorem op_fields : fieldsOf 37 = #[(5, 0), (3, 1), (32, 2), (32, 3), (34, 4), (35, 6), (3, 7), (3, 8), (5, 9)] := by kernel_rfl
theorem key_fields : fieldsOf 34 = #[(3, 0), (3, 1)] := by kernel_rfl
theorem op_in {w : World} {n : Nat} {cs : List Value} (hf : Fit Try.prog w (n + 4) 37 cs) : ∃ kd M a1 l1 c1 a2 l2 c2 kz vz id gn fl K T C, cs = opCells kd M (.slice a1 l1 c1) (.slice a2 l2 c2) id gn fl K T C ∧ OpV w kd a1 l1 c1 a2 l2 c2 kz vz := by
  have hco : Try.prog.cellsOf 37 = 10 := by kernel_rfl
  have hc2 : Try.prog.cellsOf 34 = 2 := by kernel_rfl
  have hci : Try.prog.cellsOf 3 = 1 := by kernel_rfl
  have hcb : Try.prog.cellsOf 5 = 1 := by kernel_rfl
  have hcs : Try.prog.cellsOf 32 = 1 := by kernel_rfl
  have hcu : Try.prog.cellsOf 35 = 1 := by kernel_rfl
  obtain ⟨hl, f0⟩ := fit_at hf 0 5 0 (by rw [op_fields]; rfl)
  obtain ⟨-, f1⟩ := fit_at hf 1 3 1 (by rw [op_fields]; rfl)
  obtain ⟨-, f2⟩ := fit_at hf 2 32 2 (by rw [op_fields]; rfl)
  obtain ⟨-, f3⟩ := fit_at hf 3 32 3 (by rw [op_fields]; rfl)
  obtain ⟨-, f4⟩ := fit_at hf 4 34 4 (by rw [op_fields]; rfl)
  obtain ⟨-, f5⟩ := fit_at hf 5 35 6 (by rw [op_fields]; rfl)
  obtain ⟨-, f6⟩ := fit_at hf 6 3 7 (by rw [op_fields]; rfl)
  obtain ⟨-, f7⟩ := fit_at hf 7 3 8 (by rw [op_fields]; rfl)
  obtain ⟨-, f8⟩ := fit_at hf 8 5 9 (by rw [op_fields]; rfl)
  obtain ⟨-, g0⟩ := fit_at f4 0 3 0 (by rw [key_fields]; rfl)
  obtain ⟨-, g1⟩ := fit_at f4 1 3 1 (by rw [key_fields]; rfl)
  rw [hco] at hl
  rw [hcb] at f0 f8
  rw [hci] at f1 f6 f7 g0 g1
  rw [hcs] at f2 f3
  rw [hcu] at f5
  rw [hc2] at g0 g1
  match cs, hl with
  | [p0, p1, p2, p3, p4, p5, p6, p7, p8, p9], _ =>
    simp only [List.drop_succ_cons, List.drop_zero, List.take_succ_cons, List.take_zero] at f0 f1 f2 f3 f5 f6 f7 f8 g0 g1
    obtain ⟨kd, e0, x0⟩ := fit_int Try.underlying5 f0
    obtain ⟨M, e1, -⟩ := fit_int Try.underlying3 f1
    obtain ⟨a1, l1, c1, kz, e2, z1, m1, k1, y1⟩ := key_in (n := n + 1) f2
    obtain ⟨a2, l2, c2, vz, e3, z2, m2, k2, y2⟩ := key_in (n := n + 1) f3
    obtain ⟨id, e4, -⟩ := fit_int Try.underlying3 g0
    obtain ⟨gn, e5, -⟩ := fit_int Try.underlying3 g1
    obtain ⟨fl, e6, -⟩ := fit_int Try.underlying35 f5
    obtain ⟨K, e7, -⟩ := fit_int Try.underlying3 f6
    obtain ⟨T, e8, -⟩ := fit_int Try.underlying3 f7
    obtain ⟨C, e9, -⟩ := fit_int Try.underlying5 f8
    simp only [List.cons.injEq, and_true] at e0 e1 e4 e5 e6 e7 e8 e9
    subst e0 e1 e2 e3 e4 e5 e6 e7 e8 e9
    exact ⟨kd, M, a1, l1, c1, a2, l2, c2, kz, vz, id, gn, fl, K, T, C, rfl, z1, z2, m1, m2, k1, k2, bytes_lit y1, bounds_u8 x0⟩
/-- Operations that came in, as a row. -/
def OpsIn (w : World) (A : Option Addr) (len : Nat) : Prop := len = 0 ∨ ∃ g off, A = some ⟨g, off, none⟩ ∧ g < w.heap.size ∧ ∀ j, j < len → ∃ kd M a1 l1 c1 a2 l2 c2 kz vz id gn fl K T C, (∀ i, i < 10 → w.cell? ⟨g, off + j * 10 + i, none⟩ = (opCells kd M (.slice a1 l1 c1) (.slice a2 l2 c2) id gn fl K T C)[i]?) ∧ OpV w kd a1 l1 c1 a2 l2 c2 kz vz
theorem rows_ops {w : World} {v : Value} (h : FitV Try.prog w 5 23 v) : ∃ A len cap, v = .slice A len cap ∧ len ≤ maxLen ∧ OpsIn w A len := by
  have hc : Try.prog.cellsOf 37 = 10 := by kernel_rfl
  rcases fitV_slice Try.underlying23 h with rfl | ⟨a, len, cap, rfl, hl, hm, hel⟩
  · exact ⟨none, 0, 0, rfl, Nat.zero_le _, .inl rfl⟩
  · refine ⟨some a, len, cap, rfl, by omega, ?_⟩
    rcases Nat.eq_zero_or_pos len with h0 | h0
    · exact .inl h0
    · obtain ⟨b, off, spot⟩ := a
      rw [hc] at hel
      have hany : ∀ j, j < len → ∃ kd M a1 l1 c1 a2 l2 c2 kz vz id gn fl K T C, (∀ i, i < 10 → w.cell? ((⟨b, off, spot⟩ : Addr).add (j * 10 + i)) = (opCells kd M (.slice a1 l1 c1) (.slice a2 l2 c2) id gn fl K T C)[i]?) ∧ OpV w kd a1 l1 c1 a2 l2 c2 kz vz := by
        intro j hj
        obtain ⟨cs, hcl, hat, hf⟩ := hel j hj
        obtain ⟨kd, M, a1, l1, c1, a2, l2, c2, kz, vz, id, gn, fl, K, T, C, rfl, ho⟩ := op_in (n := 0) hf
        exact ⟨kd, M, a1, l1, c1, a2, l2, c2, kz, vz, id, gn, fl, K, T, C, hat, ho⟩
      obtain ⟨_, _, _, _, _, _, _, _, _, _, _, _, _, _, _, _, h1, -⟩ := hany 0 h0
      have h1 := h1 0 (by omega)
      have hspot : spot = none := by simpa [Addr.add] using World.cell?_spot h1
      subst hspot
      have hg : b < w.heap.size := by
        have := World.block_lt_of_cell? w _ h1
        simpa [Addr.add] using this
      refine .inr ⟨b, off, rfl, hg, fun j hj => ?_⟩
      obtain ⟨kd, M, a1, l1, c1, a2, l2, c2, kz, vz, id, gn, fl, K, T, C, q, r⟩ := hany j hj
      refine ⟨kd, M, a1, l1, c1, a2, l2, c2, kz, vz, id, gn, fl, K, T, C, fun i hi => ?_, r⟩
      have := q i hi
      rw [Go.WideShapes.add_plain] at this
      rw [Nat.add_assoc]
      exact this
instance : Inhabited Df := ⟨dfD⟩
/-- Descriptions that came in. -/
theorem dfs_in {w : World} {v : Value} (h : IsRows [.i64, .i64, .i64, .i64] w v) : ∃ a c ds, v = .slice a (List.length ds) c ∧ DfsIn w a ds ∧ ds.length ≤ maxLen := by
  rcases h with rfl | ⟨a, len, cap, rfl, hl, hm, hc⟩
  · exact ⟨none, 0, [], rfl, (fun j hj => by simp at hj), Nat.zero_le _⟩
  · obtain ⟨b, off, spot⟩ := a
    have hx : ∀ j, j < len → ∃ d : Df, (w.cell? ((⟨b, off, spot⟩ : Addr).add (j * 4 + 0)) = some (.int .i64 d.k) ∧ w.cell? ((⟨b, off, spot⟩ : Addr).add (j * 4 + 1)) = some (.int .i64 d.y)) ∧ w.cell? ((⟨b, off, spot⟩ : Addr).add (j * 4 + 2)) = some (.int .i64 d.v) ∧ w.cell? ((⟨b, off, spot⟩ : Addr).add (j * 4 + 3)) = some (.int .i64 d.x) := fun j hj => by
      obtain ⟨k, h0, -⟩ := hc j hj 0 .i64 rfl
      obtain ⟨y, h1, -⟩ := hc j hj 1 .i64 rfl
      obtain ⟨z, h2, -⟩ := hc j hj 2 .i64 rfl
      obtain ⟨x, h3, -⟩ := hc j hj 3 .i64 rfl
      exact ⟨⟨k, y, z, x⟩, ⟨h0, h1⟩, h2, h3⟩
    obtain ⟨f, hf⟩ := Go.Deep.choose_lt hx
    rcases Nat.eq_zero_or_pos len with h0 | h0
    · subst h0
      exact ⟨_, cap, [], rfl, (fun j hj => by simp at hj), Nat.zero_le _⟩
    · have h1 := (hf 0 h0).1.1
      have hspot : spot = none := by simpa [Addr.add] using World.cell?_spot h1
      subst hspot
      have hg : b < w.heap.size := by
        have := World.block_lt_of_cell? w _ h1
        simpa [Addr.add] using this
      refine ⟨some ⟨b, off, none⟩, cap, (List.range len).map f, by rw [List.length_map, List.length_range], fun j hj => ?_, by simp; omega⟩
      have hj2 : j < len := by simpa using hj
      have hd : ((List.range len).map f).getD j dfD = f j := by
        rw [List.getD_eq_getElem?_getD, List.getElem?_map, List.getElem?_range hj2]
        rfl
      obtain ⟨⟨q0, q1⟩, q2, q3⟩ := hf j hj2
      rw [add_lit] at q0 q1 q2 q3
      rw [hd]
      exact ⟨b, off, rfl, hg, by rw [Nat.add_zero] at q0; exact q0, by rw [Nat.add_assoc]; exact q1, by rw [Nat.add_assoc]; exact q2, by rw [Nat.add_assoc]; exact q3⟩
end Go.Proofs.Ytenjdgoammaiiaa
