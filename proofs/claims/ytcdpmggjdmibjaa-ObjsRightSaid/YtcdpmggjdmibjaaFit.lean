/-
  Proved here: what came in, read to a depth: numbers, bools, strings, slices, arrays, structs, in one another. Conditions: none. No Go text is spoken of.
-/
import Derived.Test.YtcdpmggjdmibjaaOpen
namespace Go.Proofs.Ytcdpmggjdmibjaa
open Go.ChangeShapes Go.WideShapes Go.RowKit Go.Deep

/-- These cells are a value of that type, to that depth. -/
def Fit (P : Program) (w : World) : Nat → TypeId → List Value → Prop
  | 0, _, _ => True
  | d + 1, t, cs => match P.underlying t with
    | some .bool => ∃ b, cs = [.bool b]
    | some (.int k) => ∃ n, cs = [.int k n] ∧ (Lit.int k n).wf = true
    | some .string => ∃ s, cs = [.string s] ∧ s.size ≤ maxLen
    | some (.slice e) => cs = [.slice none 0 0] ∨ ∃ (a : Addr) (len cap : Nat), cs = [.slice (some a) len cap] ∧ len ≤ cap ∧ cap ≤ maxLen ∧
        ∀ j, j < len → ∃ cs' : List Value, cs'.length = P.cellsOf e ∧ (∀ i, i < P.cellsOf e → w.cell? (a.add (j * P.cellsOf e + i)) = cs'[i]?) ∧ Fit P w d e cs'
    | some (.struct fs) => cs.length = P.cellsOf t ∧ ∀ (i : Nat) (f : Field), fs[i]? = some f → Fit P w d f.type ((cs.drop f.offset).take (P.cellsOf f.type))
    | some (.array n e) => cs.length = P.cellsOf t ∧ ∀ i, i < n → Fit P w d e ((cs.drop (i * P.cellsOf e)).take (P.cellsOf e))
    | _ => True
section
variable {H : Type} {enc : TypeId × Value → H} {P : Program} {w : World} {base : Nat} {spare : Nat → Bool} {held : Bool}
theorem fit_of_trod : ∀ (d : Nat) {t : TypeId} {fuel : Nat} {cs : List Value} {x : DataW H × List MemPlace}, DataW.trod enc P w base spare held fuel t cs = some x → Fit P w d t cs
  | 0, _, _, _, _, _ => trivial
  | d + 1, t, fuel, cs, x, h => by
    unfold Fit
    split
    · rename_i ht
      obtain ⟨b, hb, -⟩ := DataW.trod_bool ht h
      exact ⟨b, hb⟩
    · rename_i k ht
      obtain ⟨n, hn, -, hw⟩ := DataW.trod_int ht h
      exact ⟨n, hn, hw⟩
    · rename_i ht
      obtain ⟨s, hs, -, hw⟩ := DataW.trod_string ht h
      exact ⟨s, hs, hw⟩
    · rename_i e ht
      rcases open_slice ht h with ⟨h0, -⟩ | ⟨a, len, cap, m, n, D, Pl, hcs, -, hl, hm, hmm, -, hel⟩
      · exact .inl h0
      · refine .inr ⟨a, len, cap, hcs, hl, hm, fun j hj => ?_⟩
        have hjm : j < m := by rw [hmm]; split <;> omega
        obtain ⟨cs', hc', ht'⟩ := hel j hjm
        obtain ⟨-, hcl, hat⟩ := World.cells?_some hc'
        exact ⟨cs', hcl, fun i hi => by rw [← Go.Deep.add_add]; exact hat i hi, fit_of_trod d ht'⟩
    · rename_i fs ht
      obtain ⟨xs, n, -, -, hlen, hxl, hf⟩ := DataW.trod_struct ht h
      refine ⟨hlen, fun i f hi => ?_⟩
      have h1 := hf i f hi
      have hix : i < xs.length := by rw [hxl]; exact (Array.getElem?_eq_some_iff.1 hi).1
      rw [List.getElem?_eq_getElem hix] at h1
      exact fit_of_trod d h1
    · rename_i n e ht
      obtain ⟨xs, m, -, -, hlen, hxl, hf⟩ := DataW.trod_array ht h
      refine ⟨hlen, fun i hi => ?_⟩
      have h1 := hf i hi
      rw [List.getElem?_eq_getElem (by omega)] at h1
      exact fit_of_trod d h1
    · trivial
variable {r : Reach} {b0 : Nat} {t : TypeId} {v : Value} {d : DataW H} {p : List MemPlace}
/-- A value that came in. -/
def FitV (P : Program) (w : World) (n : Nat) (t : TypeId) (v : Value) : Prop := Fit P w n t v.cells.toList ∧ match P.underlying t with
  | some (.slice _) => ∃ a len cap, v = .slice a len cap
  | some (.struct _) => ∃ cs, v = .agg cs
  | some .string => ∃ s, v = .string s
  | _ => True
theorem fitV_of (n : Nat) (hv : Value.okWide P w r b0 t v) (h : DataW.Trod enc P w base spare held t v d p) : FitV P w n t v := by
  obtain ⟨fuel, hf⟩ := h
  refine ⟨fit_of_trod n hf, ?_⟩
  split
  · rename_i e ht; exact okWide_slice ht hv
  · rename_i fs ht
    obtain ⟨cs, hc, -⟩ := okWide_struct ht hv
    exact ⟨cs, hc⟩
  · rename_i ht; exact okWide_string ht hv
  · trivial
/-- A slice that came in: nil, or a row of elements. -/
theorem fitV_slice {n : Nat} {e : TypeId} (ht : P.underlying t = some (.slice e)) (h : FitV P w (n + 1) t v) : v = .slice none 0 0 ∨ ∃ (a : Addr) (len cap : Nat), v = .slice (some a) len cap ∧ len ≤ cap ∧ cap ≤ maxLen ∧
    ∀ j, j < len → ∃ cs' : List Value, cs'.length = P.cellsOf e ∧ (∀ i, i < P.cellsOf e → w.cell? (a.add (j * P.cellsOf e + i)) = cs'[i]?) ∧ Fit P w n e cs' := by
  obtain ⟨h1, h2⟩ := h
  rw [ht] at h2
  obtain ⟨a, len, cap, rfl⟩ := h2
  unfold Fit at h1
  rw [ht] at h1
  simp only [Value.cells, List.cons.injEq, Value.slice.injEq, and_true] at h1
  rcases h1 with ⟨rfl, rfl, rfl⟩ | ⟨a', l', c', ⟨rfl, rfl, rfl⟩, h3⟩
  · exact .inl rfl
  · exact .inr ⟨a', _, _, rfl, h3⟩
theorem fit_struct {n : Nat} {fs : Array Field} {cs : List Value} (ht : P.underlying t = some (.struct fs)) (h : Fit P w (n + 1) t cs) : cs.length = P.cellsOf t ∧ ∀ (i : Nat) (f : Field), fs[i]? = some f → Fit P w n f.type ((cs.drop f.offset).take (P.cellsOf f.type)) := by
  unfold Fit at h
  rw [ht] at h
  exact h
theorem fit_int {n : Nat} {k : IntKind} {cs : List Value} (ht : P.underlying t = some (.int k)) (h : Fit P w (n + 1) t cs) : ∃ z, cs = [.int k z] ∧ (Lit.int k z).wf = true := by
  unfold Fit at h
  rw [ht] at h
  exact h
theorem fit_bool {n : Nat} {cs : List Value} (ht : P.underlying t = some .bool) (h : Fit P w (n + 1) t cs) : ∃ b, cs = [.bool b] := by
  unfold Fit at h
  rw [ht] at h
  exact h
theorem fit_slice {n : Nat} {e : TypeId} {cs : List Value} (ht : P.underlying t = some (.slice e)) (h : Fit P w (n + 1) t cs) : cs = [.slice none 0 0] ∨ ∃ (a : Addr) (len cap : Nat), cs = [.slice (some a) len cap] ∧ len ≤ cap ∧ cap ≤ maxLen ∧
    ∀ j, j < len → ∃ cs' : List Value, cs'.length = P.cellsOf e ∧ (∀ i, i < P.cellsOf e → w.cell? (a.add (j * P.cellsOf e + i)) = cs'[i]?) ∧ Fit P w n e cs' := by
  unfold Fit at h
  rw [ht] at h
  exact h
theorem fit_array {n m : Nat} {e : TypeId} {cs : List Value} (ht : P.underlying t = some (.array m e)) (h : Fit P w (n + 1) t cs) : cs.length = P.cellsOf t ∧ ∀ i, i < m → Fit P w n e ((cs.drop (i * P.cellsOf e)).take (P.cellsOf e)) := by
  unfold Fit at h
  rw [ht] at h
  exact h
theorem fit_string {n : Nat} {cs : List Value} (ht : P.underlying t = some .string) (h : Fit P w (n + 1) t cs) : ∃ s, cs = [.string s] ∧ s.size ≤ maxLen := by
  unfold Fit at h
  rw [ht] at h
  exact h
/-- One cell of a struct. -/
theorem fit_field {n i : Nat} {fs : Array Field} {cs : List Value} {f : Field} (ht : P.underlying t = some (.struct fs)) (h : Fit P w (n + 1) t cs) (hi : fs[i]? = some f) (ho : f.offset = i) (hc : P.cellsOf f.type = 1) (hil : i < cs.length) : Fit P w n f.type [cs[i]] := by
  have h1 := (fit_struct ht h).2 i f hi
  rw [ho, hc] at h1
  rwa [List.drop_eq_getElem_cons hil, List.take_succ_cons, List.take_zero] at h1
end
end Go.Proofs.Ytcdpmggjdmibjaa
