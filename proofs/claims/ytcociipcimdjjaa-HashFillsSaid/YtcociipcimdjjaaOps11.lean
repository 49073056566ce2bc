/-
  Proved here: a slice of operations on maps by keys that came in is a row of cells; its keys and values are bytes in rows. Conditions: as each says.
-/
import Derived.Test.YtcociipcimdjjaaFit
import Derived.Test.YtcociipcimdjjaaRefH
namespace Go.Proofs.Ytcociipcimdjjaa
open Go.RowKit

/-- Bytes that came in. -/
theorem key_in {w : World} {n : Nat} {v : Value} (h : Fit Try.prog w (n + 2) 31 [v]) : ∃ a len c kz, v = .slice a len c ∧ kz.length = len ∧ len ≤ maxLen ∧ KeyAt w v kz ∧ ∀ x, x ∈ kz → 0 ≤ x ∧ x ≤ 255 := by
  rcases fit_slice Try.underlying31 h with h0 | ⟨a, len, cap, h0, hl, hm, hel⟩
  · obtain rfl : v = .slice none 0 0 := by simpa using h0
    exact ⟨none, 0, 0, [], rfl, rfl, Nat.zero_le _, .empty _ _, by simp⟩
  · obtain rfl : v = .slice (some a) len cap := by simpa using h0
    have hx : ∀ j, j < len → ∃ z : Int, w.cell? (a.add j) = some (.int .u8 z) ∧ 0 ≤ z ∧ z ≤ 255 := by
      intro j hj
      obtain ⟨cs', hcl, hat, hf⟩ := hel j hj
      have hc1 : Try.prog.cellsOf 5 = 1 := by kernel_rfl
      rw [hc1] at hcl hat
      obtain ⟨z, hz, hw⟩ := fit_int Try.underlying5 hf
      have := hat 0 (by omega)
      rw [hz] at this
      exact ⟨z, by simpa using this, bounds_u8 hw⟩
    obtain ⟨f, hf⟩ := Go.Deep.choose_lt hx
    rcases Nat.eq_zero_or_pos len with e | e
    · subst e
      exact ⟨_, 0, cap, [], rfl, rfl, Nat.zero_le _, .empty _ _, by simp⟩
    · obtain ⟨b, off, spot⟩ := a
      have h1 := (hf 0 e).1
      have hspot : spot = none := by simpa [Addr.add] using World.cell?_spot h1
      subst hspot
      have hg : b < w.heap.size := by
        have := World.block_lt_of_cell? w _ h1
        simpa [Addr.add] using this
      refine ⟨_, len, cap, (List.range len).map f, rfl, by simp, by omega, .row b off len cap _ (by simp) (fun j hj => ?_) (fun _ => hg), fun x hx => ?_⟩
      · have h2 := (hf j hj).1
        rw [add_lit] at h2
        rw [h2, List.getD_eq_getElem?_getD, List.getElem?_map, List.getElem?_range hj]
        rfl
      · simp only [List.mem_map, List.mem_range] at hx
        obtain ⟨j, hj, rfl⟩ := hx
        exact (hf j hj).2
/-- The cells of an operation. -/
structure OpAt (w : World) (g o : Nat) (kd : Int) (v1 v2 : Value) (l1 l2 : Nat) (kz vz : List Int) (fl K T C : Int) : Prop where
  c0 : w.cell? ⟨g, o, none⟩ = some (.int .u8 kd)
  c1 : w.cell? ⟨g, o + 1, none⟩ = some v1
  c2 : w.cell? ⟨g, o + 2, none⟩ = some v2
  c3 : w.cell? ⟨g, o + 3, none⟩ = some (.int .u64 fl)
  c4 : w.cell? ⟨g, o + 4, none⟩ = some (.int .i64 K)
  c5 : w.cell? ⟨g, o + 5, none⟩ = some (.int .i64 T)
  c6 : w.cell? ⟨g, o + 6, none⟩ = some (.int .u8 C)
  s1 : ∃ a c, v1 = .slice a l1 c
  s2 : ∃ a c, v2 = .slice a l2 c
  b1 : l1 ≤ maxLen
  b2 : l2 ≤ maxLen
  z1 : kz.length = l1
  z2 : vz.length = l2
  k1 : KeyAt w v1 kz
  k2 : KeyAt w v2 vz
  bd : 0 ≤ kd ∧ kd ≤ 255
  bf : 0 ≤ fl ∧ fl ≤ 18446744073709551615
  bK : -9223372036854775808 ≤ K ∧ K ≤ 9223372036854775807
  bT : -9223372036854775808 ≤ T ∧ T ≤ 9223372036854775807
  bC : 0 ≤ C ∧ C ≤ 255
  y1 : ∀ x, x ∈ kz → 0 ≤ x ∧ x ≤ 255
  y2 : ∀ x, x ∈ vz → 0 ≤ x ∧ x ≤ 255
theorem op_one : Go.Deep.oneCellFields Try.prog ((Try.prog.underlying 34).elim #[] fun d => match d with
  | .struct fs => fs
  | _ => #[]) = true := by kernel_rfl
theorem op_types : ((Try.prog.underlying 34).elim #[] fun d => match d with
  | .struct fs => fs.map (·.type)
  | _ => #[]) = #[5, 31, 31, 32, 3, 3, 5] := by kernel_rfl
/-- A field of an operation. -/
theorem op_field {w : World} {n : Nat} {cs : List Value} (h : Fit Try.prog w (n + 1) 34 cs) (hl : cs.length = 7) (i : Nat) (t : TypeId) (hi : i < 7) (ht : (#[5, 31, 31, 32, 3, 3, 5] : Array TypeId)[i]? = some t) : ∃ v, cs[i]? = some v ∧ Fit Try.prog w n t [v] := by
  cases hu : Try.prog.underlying 34 with
  | none => have := op_types; rw [hu] at this; simp at this
  | some d =>
    have h1 := op_one
    have h2 := op_types
    rw [hu] at h1 h2
    cases d with
    | struct fs =>
      simp only [Option.elim] at h1 h2
      rw [← h2, Array.getElem?_map] at ht
      cases hf : fs[i]? with
      | none => rw [hf] at ht; simp at ht
      | some f =>
        rw [hf] at ht
        simp at ht
        obtain ⟨ho, hc⟩ := Go.Deep.hone_of h1 i f hf
        have h3 := fit_field hu h hf ho hc (by omega)
        rw [ht] at h3
        exact ⟨cs[i]'(by omega), List.getElem?_eq_getElem (by omega), h3⟩
    | _ => simp at h2
theorem rows_ops {w : World} {v : Value} (h : FitV Try.prog w 4 22 v) : ∃ A len cap, v = .slice A len cap ∧ len ≤ maxLen ∧ (len = 0 ∨ ∃ g off, A = some ⟨g, off, none⟩ ∧ g < w.heap.size ∧
    ∀ j, j < len → ∃ kd v1 v2 l1 l2 kz vz fl K T C, OpAt w g (off + j * 7) kd v1 v2 l1 l2 kz vz fl K T C) := by
  have hc7 : Try.prog.cellsOf 34 = 7 := by kernel_rfl
  rcases fitV_slice Try.underlying22 h with rfl | ⟨a, len, cap, rfl, hl, hm, hel⟩
  · exact ⟨none, 0, 0, rfl, Nat.zero_le _, .inl rfl⟩
  · refine ⟨some a, len, cap, rfl, by omega, ?_⟩
    rcases Nat.eq_zero_or_pos len with h0 | h0
    · exact .inl h0
    · obtain ⟨b, off, spot⟩ := a
      rw [hc7] at hel
      have hany : ∀ j, j < len → ∃ kd v1 v2 l1 l2 kz vz fl K T C, w.cell? ((⟨b, off, spot⟩ : Addr).add (j * 7 + 0)) = some (.int .u8 kd) ∧ w.cell? ((⟨b, off, spot⟩ : Addr).add (j * 7 + 1)) = some v1 ∧ w.cell? ((⟨b, off, spot⟩ : Addr).add (j * 7 + 2)) = some v2 ∧
          w.cell? ((⟨b, off, spot⟩ : Addr).add (j * 7 + 3)) = some (.int .u64 fl) ∧ w.cell? ((⟨b, off, spot⟩ : Addr).add (j * 7 + 4)) = some (.int .i64 K) ∧ w.cell? ((⟨b, off, spot⟩ : Addr).add (j * 7 + 5)) = some (.int .i64 T) ∧ w.cell? ((⟨b, off, spot⟩ : Addr).add (j * 7 + 6)) = some (.int .u8 C) ∧
          (∃ a c, v1 = .slice a l1 c) ∧ (∃ a c, v2 = .slice a l2 c) ∧ l1 ≤ maxLen ∧ l2 ≤ maxLen ∧ kz.length = l1 ∧ vz.length = l2 ∧ KeyAt w v1 kz ∧ KeyAt w v2 vz ∧ (0 ≤ kd ∧ kd ≤ 255) ∧ (0 ≤ fl ∧ fl ≤ 18446744073709551615) ∧ (-9223372036854775808 ≤ K ∧ K ≤ 9223372036854775807) ∧
          (-9223372036854775808 ≤ T ∧ T ≤ 9223372036854775807) ∧ (0 ≤ C ∧ C ≤ 255) ∧ (∀ x, x ∈ kz → 0 ≤ x ∧ x ≤ 255) ∧ ∀ x, x ∈ vz → 0 ≤ x ∧ x ≤ 255 := by
        intro j hj
        obtain ⟨cs', hcl, hat, hf⟩ := hel j hj
        obtain ⟨w0, g0, f0⟩ := op_field hf hcl 0 5 (by omega) rfl
        obtain ⟨w1, g1, f1⟩ := op_field hf hcl 1 31 (by omega) rfl
        obtain ⟨w2, g2, f2⟩ := op_field hf hcl 2 31 (by omega) rfl
        obtain ⟨w3, g3, f3⟩ := op_field hf hcl 3 32 (by omega) rfl
        obtain ⟨w4, g4, f4⟩ := op_field hf hcl 4 3 (by omega) rfl
        obtain ⟨w5, g5, f5⟩ := op_field hf hcl 5 3 (by omega) rfl
        obtain ⟨w6, g6, f6⟩ := op_field hf hcl 6 5 (by omega) rfl
        obtain ⟨kd, e0, x0⟩ := fit_int Try.underlying5 f0
        obtain ⟨a1, l1, c1, kz, e1, z1, m1, k1, y1⟩ := key_in (n := 0) f1
        obtain ⟨a2, l2, c2, vz, e2, z2, m2, k2, y2⟩ := key_in (n := 0) f2
        obtain ⟨fl, e3, x3⟩ := fit_int Try.underlying32 f3
        obtain ⟨K, e4, x4⟩ := fit_int Try.underlying3 f4
        obtain ⟨T, e5, x5⟩ := fit_int Try.underlying3 f5
        obtain ⟨C, e6, x6⟩ := fit_int Try.underlying5 f6
        simp only [List.cons.injEq, and_true] at e0 e3 e4 e5 e6
        subst e0 e3 e4 e5 e6
        refine ⟨kd, w1, w2, l1, l2, kz, vz, fl, K, T, C, by rw [hat 0 (by omega), g0], by rw [hat 1 (by omega), g1], by rw [hat 2 (by omega), g2], by rw [hat 3 (by omega), g3], by rw [hat 4 (by omega), g4], by rw [hat 5 (by omega), g5], by rw [hat 6 (by omega), g6],
          ⟨_, _, e1⟩, ⟨_, _, e2⟩, m1, m2, z1, z2, k1, k2, bounds_u8 x0, bounds_u64 x3, bounds_i64 x4, bounds_i64 x5, bounds_u8 x6, y1, y2⟩
      obtain ⟨_, _, _, _, _, _, _, _, _, _, _, h1, -⟩ := hany 0 h0
      have hspot : spot = none := by simpa [Addr.add] using World.cell?_spot h1
      subst hspot
      have hg : b < w.heap.size := by
        have := World.block_lt_of_cell? w _ h1
        simpa [Addr.add] using this
      refine .inr ⟨b, off, rfl, hg, fun j hj => ?_⟩
      obtain ⟨kd, v1, v2, l1, l2, kz, vz, fl, K, T, C, q0, q1, q2, q3, q4, q5, q6, r⟩ := hany j hj
      rw [Go.WideShapes.add_plain] at q0 q1 q2 q3 q4 q5 q6
      obtain ⟨r1, r2, r3, r4, r5, r6, r7, r8, r9, r10, r11, r12, r13, r14, r15⟩ := r
      exact ⟨kd, v1, v2, l1, l2, kz, vz, fl, K, T, C, q0, q1, q2, q3, q4, q5, q6, r1, r2, r3, r4, r5, r6, r7, r8, r9, r10, r11, r12, r13, r14, r15⟩
end Go.Proofs.Ytcociipcimdjjaa
