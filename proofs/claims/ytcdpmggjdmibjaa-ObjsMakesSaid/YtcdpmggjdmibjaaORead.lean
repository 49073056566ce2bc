/-
  Proved here: objects, contexts and parts that came in are rows of cells. Conditions: as each says.
-/
import Derived.Test.YtcdpmggjdmibjaaFit
import Derived.Test.YtcdpmggjdmibjaaOActs
namespace Go.Proofs.Ytcdpmggjdmibjaa
open Go.RowKit

/-- The fields of a struct, their places. -/
noncomputable def fieldsOf (t : TypeId) : Array (TypeId × Nat) := (Try.prog.underlying t).elim #[] fun d => match d with
  | .struct fs => fs.map fun f => (f.type, f.offset)
  | _ => #[]
theorem fit_at {w : World} {n : Nat} {t : TypeId} {cs : List Value} (h : Fit Try.prog w (n + 1) t cs) (i : Nat) (u : TypeId) (o : Nat) (hf : (fieldsOf t)[i]? = some (u, o)) : cs.length = Try.prog.cellsOf t ∧ Fit Try.prog w n u ((cs.drop o).take (Try.prog.cellsOf u)) := by
  unfold fieldsOf at hf
  cases hu : Try.prog.underlying t with
  | none => rw [hu] at hf; simp at hf
  | some d =>
    rw [hu] at hf
    cases d with
    | struct fs =>
      simp only [Option.elim, Array.getElem?_map] at hf
      cases hq : fs[i]? with
      | none => rw [hq] at hf; simp at hf
      | some f =>
        rw [hq] at hf
        simp at hf
        obtain ⟨h1, h2⟩ := fit_struct hu h
        have h3 := h2 i f hq
        rw [hf.1, hf.2] at h3
        exact ⟨h1, h3⟩
    | _ => simp at hf
theorem take_one {cs : List Value} {o : Nat} {v : Value} (h : (cs.drop o).take 1 = [v]) : cs[o]? = some v := by
  have : ((cs.drop o).take 1)[0]? = some v := by rw [h]; rfl
  rwa [List.getElem?_take_of_lt (by omega), List.getElem?_drop, Nat.add_zero] at this
theorem part_at (cs : List Value) (o k i : Nat) (hi : i < k) : ((cs.drop o).take k)[i]? = cs[o + i]? := by rw [List.getElem?_take_of_lt hi, List.getElem?_drop]
theorem list_of {α : Type} (d : α) {p : Nat → α → Prop} : ∀ n : Nat, (∀ j, j < n → ∃ z, p j z) → ∃ zs : List α, zs.length = n ∧ ∀ j, j < n → p j (zs.getD j d)
  | 0, _ => ⟨[], rfl, fun j h => absurd h (by omega)⟩
  | n + 1, h => by
    obtain ⟨zs, hl, hp⟩ := list_of d n fun j hj => h j (by omega)
    obtain ⟨z, hz⟩ := h n (by omega)
    refine ⟨zs ++ [z], by simp [hl], fun j hj => ?_⟩
    by_cases e : j < n
    · rw [List.getD_eq_getElem?_getD, List.getElem?_append_left (by omega), ← List.getD_eq_getElem?_getD]
      exact hp j e
    · obtain rfl : j = n := by omega
      rw [List.getD_eq_getElem?_getD, List.getElem?_append_right (by omega), hl, Nat.sub_self]
      exact hz
theorem addr_of {w : World} {a : Addr} {v : Value} (h : w.cell? (a.add 0) = some v) : ∃ p off, a = ⟨p, off, none⟩ ∧ p < w.heap.size := by
  obtain ⟨b, off, spot⟩ := a
  have hspot : spot = none := by simpa [Addr.add] using World.cell?_spot h
  subst hspot
  refine ⟨b, off, rfl, ?_⟩
  have := World.block_lt_of_cell? w _ h
  simpa [Addr.add] using this
theorem getD_out {zs : List Int} {j : Nat} (h : zs.length ≤ j) : zs.getD j 0 = 0 := by
  rw [List.getD_eq_getElem?_getD, List.getElem?_eq_none h]
  rfl
/-- A row of integers that came in. -/
theorem row_of {w : World} {n : Nat} {cs : List Value} (h : Fit Try.prog w (n + 2) 36 cs) : ∃ a c zs, cs = [.slice a (List.length zs) c] ∧ RowI w .i64 a zs ∧ zs.length ≤ maxLen ∧ ∀ j, -9223372036854775808 ≤ zs.getD j 0 ∧ zs.getD j 0 ≤ 9223372036854775807 := by
  have hci : Try.prog.cellsOf 3 = 1 := by kernel_rfl
  rcases fit_slice Try.underlying36 h with rfl | ⟨a, len, cap, rfl, hl, hm, hel⟩
  · exact ⟨none, 0, [], rfl, fun h => absurd h (by simp), Nat.zero_le _, fun j => by simp⟩
  · rw [hci] at hel
    obtain ⟨zs, hz, hp⟩ := list_of (0 : Int) (p := fun j z => w.cell? (a.add j) = some (.int .i64 z) ∧ -9223372036854775808 ≤ z ∧ z ≤ 9223372036854775807) len (by
      intro j hj
      obtain ⟨cs, hcl, hat, hf⟩ := hel j hj
      obtain ⟨z, rfl, hw⟩ := fit_int Try.underlying3 hf
      have h0 := hat 0 (by omega)
      rw [Nat.mul_one, Nat.add_zero] at h0
      exact ⟨z, h0, bounds_i64 hw⟩)
    subst hz
    refine ⟨some a, cap, zs, rfl, fun h0 => ?_, by omega, fun j => ?_⟩
    · obtain ⟨p, off, rfl, hp0⟩ := addr_of (hp 0 h0).1
      refine ⟨p, off, rfl, hp0, fun j hj => ?_⟩
      have := (hp j hj).1
      rwa [Go.WideShapes.add_plain] at this
    · by_cases hj : j < zs.length
      · exact (hp j hj).2
      · rw [getD_out (by omega)]; omega
/-- Eight words that came in. -/
theorem words_of {w : World} {n : Nat} {cs : List Value} (h : Fit Try.prog w (n + 2) 23 cs) : ∃ zs : List Int, (∀ i, i < 8 → cs[i]? = some (.int .u64 (zs.getD i 0))) ∧ ∀ i, 0 ≤ zs.getD i 0 ∧ zs.getD i 0 ≤ 18446744073709551615 := by
  have hci : Try.prog.cellsOf 22 = 1 := by kernel_rfl
  obtain ⟨-, hf⟩ := fit_array Try.underlying23 h
  rw [hci] at hf
  obtain ⟨zs, hz, hp⟩ := list_of (0 : Int) (p := fun j z => cs[j]? = some (.int .u64 z) ∧ 0 ≤ z ∧ z ≤ 18446744073709551615) 8 (by
    intro j hj
    obtain ⟨z, e, hw⟩ := fit_int Try.underlying22 (hf j hj)
    rw [Nat.mul_one] at e
    exact ⟨z, take_one e, bounds_u64 hw⟩)
  refine ⟨zs, fun i hi => (hp i hi).1, fun i => ?_⟩
  by_cases hi : i < 8
  · exact (hp i hi).2
  · rw [getD_out (by omega)]; omega
theorem ob_fields : fieldsOf 38 = #[(3, 0), (35, 1), (23, 3), (9, 11), (36, 12)] := by kernel_rfl
theorem key_fields : fieldsOf 35 = #[(3, 0), (3, 1)] := by kernel_rfl
theorem cx_fields : fieldsOf 26 = #[(3, 0), (23, 1), (24, 9), (22, 10)] := by kernel_rfl
theorem pt_fields : fieldsOf 49 = #[(4, 0), (4, 1), (38, 2), (22, 15)] := by kernel_rfl
/-- An object that came in. -/
theorem ob_of {w : World} {n : Nat} {cs : List Value} (h : Fit Try.prog w (n + 3) 38 cs) : ∃ o, ObX w cs.toArray o := by
  have hco : Try.prog.cellsOf 38 = 13 := by kernel_rfl
  have hci : Try.prog.cellsOf 3 = 1 := by kernel_rfl
  have hc2 : Try.prog.cellsOf 35 = 2 := by kernel_rfl
  have hc8 : Try.prog.cellsOf 23 = 8 := by kernel_rfl
  have hcs : Try.prog.cellsOf 9 = 1 := by kernel_rfl
  have hcu : Try.prog.cellsOf 36 = 1 := by kernel_rfl
  obtain ⟨hlen, f0⟩ := fit_at h 0 3 0 (by rw [ob_fields]; rfl)
  obtain ⟨-, f1⟩ := fit_at h 1 35 1 (by rw [ob_fields]; rfl)
  obtain ⟨-, f2⟩ := fit_at h 2 23 3 (by rw [ob_fields]; rfl)
  obtain ⟨-, f3⟩ := fit_at h 3 9 11 (by rw [ob_fields]; rfl)
  obtain ⟨-, f4⟩ := fit_at h 4 36 12 (by rw [ob_fields]; rfl)
  obtain ⟨-, g0⟩ := fit_at f1 0 3 0 (by rw [key_fields]; rfl)
  obtain ⟨-, g1⟩ := fit_at f1 1 3 1 (by rw [key_fields]; rfl)
  rw [hco] at hlen
  rw [hci] at f0 g0 g1
  rw [hc2] at g0 g1
  rw [hc8] at f2
  rw [hcs] at f3
  rw [hcu] at f4
  obtain ⟨ty, e0, -⟩ := fit_int Try.underlying3 f0
  obtain ⟨id, e1, -⟩ := fit_int Try.underlying3 g0
  obtain ⟨gen, e2, -⟩ := fit_int Try.underlying3 g1
  obtain ⟨zs, hz, hzb⟩ := words_of f2
  obtain ⟨s, e3, hs⟩ := fit_string Try.underlying9 f3
  obtain ⟨a, c, us, e4, hr, hul, hub⟩ := row_of f4
  have e1 := take_one e1
  have e2 := take_one e2
  rw [part_at _ _ _ _ (by omega)] at e1 e2
  refine ⟨⟨ty, id, gen, zs, s, us⟩, by simp [hlen], ?_, ?_, ?_, fun i hi => ?_, ?_, ⟨a, c, ?_, hr⟩, hzb, hs, hul, hub⟩
  · rw [List.getElem?_toArray]; exact take_one e0
  · rw [List.getElem?_toArray]; exact e1
  · rw [List.getElem?_toArray]; exact e2
  · rw [List.getElem?_toArray, ← part_at cs 3 8 i hi]; exact hz i hi
  · rw [List.getElem?_toArray]; exact take_one e3
  · rw [List.getElem?_toArray]; exact take_one e4
/-- A row of objects that came in. -/
theorem obs_of {w : World} {n : Nat} {cs : List Value} (h : Fit Try.prog w (n + 4) 24 cs) : ∃ a c l, cs = [.slice a (List.length l) c] ∧ ObRow w a l ∧ l.length ≤ maxLen := by
  have hco : Try.prog.cellsOf 38 = 13 := by kernel_rfl
  rcases fit_slice Try.underlying24 h with rfl | ⟨a, len, cap, rfl, hl, hm, hel⟩
  · exact ⟨none, 0, [], rfl, fun h => absurd h (by simp), Nat.zero_le _⟩
  · rw [hco] at hel
    obtain ⟨l, hz, hp⟩ := list_of (default : Kob) (p := fun j o => ∃ X, ObX w X o ∧ ∀ i, i < 13 → w.cell? (a.add (j * 13 + i)) = X[i]?) len (by
      intro j hj
      obtain ⟨cs, hcl, hat, hf⟩ := hel j hj
      obtain ⟨o, ho⟩ := ob_of hf
      exact ⟨o, _, ho, fun i hi => by rw [hat i hi, List.getElem?_toArray]⟩)
    subst hz
    refine ⟨some a, cap, l, rfl, fun h0 => ?_, by omega⟩
    obtain ⟨X, hX, hc⟩ := hp 0 h0
    obtain ⟨p, off, rfl, hp0⟩ := addr_of ((hc 0 (by omega)).trans hX.x0)
    refine ⟨p, off, rfl, hp0, fun j hj => ?_⟩
    obtain ⟨X, hX, hc⟩ := hp j hj
    refine ⟨X, hX, fun i hi => ?_⟩
    have := hc i hi
    rwa [Go.WideShapes.add_plain] at this
/-- A context that came in. -/
theorem cx_of {w : World} {n : Nat} {cs : List Value} (h : Fit Try.prog w (n + 5) 26 cs) : ∃ c, CxX w cs.toArray c := by
  have hco : Try.prog.cellsOf 26 = 11 := by kernel_rfl
  have hci : Try.prog.cellsOf 3 = 1 := by kernel_rfl
  have hc8 : Try.prog.cellsOf 23 = 8 := by kernel_rfl
  have hcs : Try.prog.cellsOf 24 = 1 := by kernel_rfl
  have hcu : Try.prog.cellsOf 22 = 1 := by kernel_rfl
  obtain ⟨hlen, f0⟩ := fit_at h 0 3 0 (by rw [cx_fields]; rfl)
  obtain ⟨-, f1⟩ := fit_at h 1 23 1 (by rw [cx_fields]; rfl)
  obtain ⟨-, f2⟩ := fit_at h 2 24 9 (by rw [cx_fields]; rfl)
  obtain ⟨-, f3⟩ := fit_at h 3 22 10 (by rw [cx_fields]; rfl)
  rw [hco] at hlen
  rw [hci] at f0
  rw [hc8] at f1
  rw [hcs] at f2
  rw [hcu] at f3
  obtain ⟨hook, e0, -⟩ := fit_int Try.underlying3 f0
  obtain ⟨zs, hz, hzb⟩ := words_of f1
  obtain ⟨a, c, l, e2, hr, hll⟩ := obs_of f2
  obtain ⟨now, e3, -⟩ := fit_int Try.underlying22 f3
  refine ⟨⟨hook, zs, l, now⟩, by simp [hlen], ?_, fun i hi => ?_, ⟨a, c, ?_, hr⟩, ?_, hzb, hll⟩
  · rw [List.getElem?_toArray]; exact take_one e0
  · rw [List.getElem?_toArray, ← part_at cs 1 8 i hi]; exact hz i hi
  · rw [List.getElem?_toArray]; exact take_one e2
  · rw [List.getElem?_toArray]; exact take_one e3
/-- A part that came in. -/
theorem pt_of {w : World} {n : Nat} {cs : List Value} (h : Fit Try.prog w (n + 4) 49 cs) : ∃ p, PtX w cs.toArray p := by
  have hco : Try.prog.cellsOf 49 = 16 := by kernel_rfl
  have hcb : Try.prog.cellsOf 4 = 1 := by kernel_rfl
  have hcx : Try.prog.cellsOf 38 = 13 := by kernel_rfl
  have hcu : Try.prog.cellsOf 22 = 1 := by kernel_rfl
  obtain ⟨hlen, f0⟩ := fit_at h 0 4 0 (by rw [pt_fields]; rfl)
  obtain ⟨-, f1⟩ := fit_at h 1 4 1 (by rw [pt_fields]; rfl)
  obtain ⟨-, f2⟩ := fit_at h 2 38 2 (by rw [pt_fields]; rfl)
  obtain ⟨-, f3⟩ := fit_at h 3 22 15 (by rw [pt_fields]; rfl)
  rw [hco] at hlen
  rw [hcb] at f0 f1
  rw [hcx] at f2
  rw [hcu] at f3
  obtain ⟨nul, e0⟩ := fit_bool Try.underlying4 f0
  obtain ⟨hs, e1⟩ := fit_bool Try.underlying4 f1
  obtain ⟨o, ho⟩ := ob_of f2
  obtain ⟨z, e3, hw⟩ := fit_int Try.underlying22 f3
  refine ⟨⟨nul, hs, o, z⟩, by simp [hlen], ?_, ?_, ⟨_, ho, fun j hj => ?_⟩, ?_, bounds_u64 hw⟩
  · rw [List.getElem?_toArray]; exact take_one e0
  · rw [List.getElem?_toArray]; exact take_one e1
  · rw [List.getElem?_toArray, List.getElem?_toArray, part_at cs 2 13 j hj]
  · rw [List.getElem?_toArray]; exact take_one e3
/-- A row of parts that came in. -/
theorem pts_of {w : World} {n : Nat} {v : Value} (h : FitV Try.prog w (n + 5) 47 v) : ∃ a c l, v = .slice a (List.length l) c ∧ PtRow w a l ∧ l.length ≤ maxLen := by
  have hco : Try.prog.cellsOf 49 = 16 := by kernel_rfl
  rcases fitV_slice Try.underlying47 h with rfl | ⟨a, len, cap, rfl, hl, hm, hel⟩
  · exact ⟨none, 0, [], rfl, fun h => absurd h (by simp), Nat.zero_le _⟩
  · rw [hco] at hel
    obtain ⟨l, hz, hp⟩ := list_of (default : Pt) (p := fun j o => ∃ X, PtX w X o ∧ ∀ i, i < 16 → w.cell? (a.add (j * 16 + i)) = X[i]?) len (by
      intro j hj
      obtain ⟨cs, hcl, hat, hf⟩ := hel j hj
      obtain ⟨o, ho⟩ := pt_of hf
      exact ⟨o, _, ho, fun i hi => by rw [hat i hi, List.getElem?_toArray]⟩)
    subst hz
    refine ⟨some a, cap, l, rfl, fun h0 => ?_, by omega⟩
    obtain ⟨X, hX, hc⟩ := hp 0 h0
    obtain ⟨p, off, rfl, hp0⟩ := addr_of ((hc 0 (by omega)).trans hX.x0)
    refine ⟨p, off, rfl, hp0, fun j hj => ?_⟩
    obtain ⟨X, hX, hc⟩ := hp j hj
    refine ⟨X, hX, fun i hi => ?_⟩
    have := hc i hi
    rwa [Go.WideShapes.add_plain] at this
theorem agg_of {P : Program} {w : World} {n : Nat} {t : TypeId} {fs : Array Field} {v : Value} (ht : P.underlying t = some (.struct fs)) (h : FitV P w n t v) : ∃ X : Array Value, v = .agg X ∧ Fit P w n t X.toList := by
  have h2 := h.2
  rw [ht] at h2
  obtain ⟨X, rfl⟩ := h2
  exact ⟨X, rfl, by have := h.1; simpa [Value.cells] using this⟩
theorem ob_val {w : World} {n : Nat} {v : Value} (h : FitV Try.prog w (n + 3) 38 v) : ∃ X o, v = .agg X ∧ ObX w X o := by
  obtain ⟨X, rfl, hf⟩ := agg_of Try.underlying38 h
  obtain ⟨o, ho⟩ := ob_of hf
  exact ⟨X, o, rfl, ho⟩
theorem cx_val {w : World} {n : Nat} {v : Value} (h : FitV Try.prog w (n + 5) 26 v) : ∃ C c, v = .agg C ∧ CxX w C c := by
  obtain ⟨X, rfl, hf⟩ := agg_of Try.underlying26 h
  obtain ⟨o, ho⟩ := cx_of hf
  exact ⟨X, o, rfl, ho⟩
end Go.Proofs.Ytcdpmggjdmibjaa
