/-
  Proved here: a struct of integers that came in is its integers, and a slice of such structs is a row of their cells. Conditions: each field is one cell, an integer of a named kind.
-/
import Derived.Deep.Slices
import Derived.Deep.Fields
import Derived.ChangeSame
import Derived.OpenShut
import Derived.Lib.SmallJoins
namespace Go.Proofs.Ytcdpmggjdmibjaa
open Go.ChangeShapes Go.WideShapes Go.RowKit Go.Deep

section
variable {H : Type} {enc : TypeId × Value → H} {P : Program} {w : World} {base : Nat} {spare : Nat → Bool} {held : Bool}

/-- Each field is one cell: an integer of the kind that the list has for it. -/
def intFields (P : Program) (fs : Array Field) (ks : List IntKind) : Bool :=
  oneCellFields P fs && fs.size == ks.length && (List.range ks.length).all fun i => match fs[i]?, ks[i]? with
    | some f, some k => (match P.underlying f.type with | some (.int k') => k' == k | _ => false)
    | _, _ => false
theorem intFields_at {fs : Array Field} {ks : List IntKind} (h : intFields P fs ks = true) :
    oneCellFields P fs = true ∧ fs.size = ks.length ∧ ∀ (i : Nat) (k : IntKind), ks[i]? = some k → ∃ f : Field, fs[i]? = some f ∧ P.underlying f.type = some (.int k) := by
  simp only [intFields, Bool.and_eq_true, beq_iff_eq, List.all_eq_true, List.mem_range] at h
  obtain ⟨⟨h1, h2⟩, h3⟩ := h
  refine ⟨h1, h2, fun i k hk => ?_⟩
  have hi : i < ks.length := (List.getElem?_eq_some_iff.1 hk).1
  have h4 := h3 i hi
  have hf : fs[i]? = some (fs[i]'(by omega)) := Array.getElem?_eq_getElem (by omega)
  rw [hf, hk] at h4
  refine ⟨_, hf, ?_⟩
  simp only at h4
  split at h4
  · rename_i k' e
    rw [e, eq_of_beq h4]
  · cases h4

/-- The cells of a struct of integers are integers of these kinds. -/
theorem trod_ints {t : TypeId} {fs : Array Field} {ks : List IntKind} {fuel : Nat} {cs : List Value} {x : DataW H × List MemPlace} (hs : P.underlying t = some (.struct fs))
    (hi : intFields P fs ks = true) (hc : P.cellsOf t = ks.length) (h : DataW.trod enc P w base spare held fuel t cs = some x) :
    cs.length = ks.length ∧ ∀ (i : Nat) (k : IntKind), ks[i]? = some k → ∃ n : Int, cs[i]? = some (Value.int k n) ∧ (Lit.int k n).wf = true := by
  obtain ⟨hone, hsz, hk⟩ := intFields_at hi
  obtain ⟨xs, n, _, _, hlen, hxl, hf⟩ := DataW.trod_struct hs h
  rw [hc] at hlen
  refine ⟨hlen, fun i k hik => ?_⟩
  obtain ⟨f, hfi, hu⟩ := hk i k hik
  obtain ⟨ho, hone1⟩ := hone_of hone i f hfi
  have h1 := hf i f hfi
  have hil : i < ks.length := (List.getElem?_eq_some_iff.1 hik).1
  rw [ho, hone1] at h1
  have hd : (cs.drop i).take 1 = [cs[i]'(by omega)] := by
    rw [List.drop_eq_getElem_cons (by omega)]; rfl
  have hx : xs[i]? = some (xs[i]'(by omega)) := List.getElem?_eq_getElem (by omega)
  rw [hd, hx] at h1
  obtain ⟨m, hm, -, hw⟩ := DataW.trod_int hu h1
  refine ⟨m, ?_, hw⟩
  rw [List.getElem?_eq_getElem (by omega)]
  injection hm with hm
  rw [hm]

/-- A slice of structs of integers: nil, or a row of cells: len structs and the spare room. -/
theorem open_rows {t e : TypeId} {fs : Array Field} {ks : List IntKind} {fuel : Nat} {cs : List Value} {x : DataW H × List MemPlace} (ht : P.underlying t = some (.slice e)) (hs : P.underlying e = some (.struct fs))
    (hi : intFields P fs ks = true) (hc : P.cellsOf e = ks.length) (h : DataW.trod enc P w base spare held fuel t cs = some x) :
    cs = [.slice none 0 0] ∨ ∃ (a : Addr) (len cap : Nat), cs = [.slice (some a) len cap] ∧ len ≤ cap ∧ cap ≤ maxLen ∧
      ∀ j, j < len → ∀ (i : Nat) (k : IntKind), ks[i]? = some k → ∃ n : Int, w.cell? (a.add (j * ks.length + i)) = some (.int k n) ∧ (Lit.int k n).wf = true := by
  rcases open_slice ht h with ⟨h0, -⟩ | ⟨a, len, cap, m, n, D, Pl, hcs, -, hl, hm, hmm, -, hel⟩
  · exact .inl h0
  · refine .inr ⟨a, len, cap, hcs, hl, hm, fun j hj i k hik => ?_⟩
    have hjm : j < m := by rw [hmm]; split <;> omega
    obtain ⟨cs', hc', ht'⟩ := hel j hjm
    rw [hc] at hc'
    obtain ⟨_, hcl, hat⟩ := World.cells?_some hc'
    obtain ⟨-, hk⟩ := trod_ints hs hi hc ht'
    obtain ⟨v, hv, hw⟩ := hk i k hik
    have hil : i < ks.length := (List.getElem?_eq_some_iff.1 hik).1
    refine ⟨v, ?_, hw⟩
    rw [← Go.Deep.add_add, hat i hil, hv]

/-! ### What came in, said of the value alone -/
variable {r : Reach} {b0 : Nat} {t : TypeId} {v : Value} {d : DataW H} {p : List MemPlace}
/-- An integer of a kind. -/
def IsInt (k : IntKind) (v : Value) : Prop := ∃ n : Int, v = .int k n ∧ (Lit.int k n).wf = true
/-- A struct of integers of these kinds. -/
def IsInts (ks : List IntKind) (v : Value) : Prop := ∃ cs : List Value, v = .agg cs.toArray ∧ cs.length = ks.length ∧ ∀ (i : Nat) (k : IntKind), ks[i]? = some k → ∃ n : Int, cs[i]? = some (Value.int k n) ∧ (Lit.int k n).wf = true
/-- A slice of integers of a kind. -/
def IsSlice (k : IntKind) (w : World) (v : Value) : Prop := v = .slice none 0 0 ∨ ∃ (a : Addr) (len cap : Nat), v = .slice (some a) len cap ∧ len ≤ cap ∧ cap ≤ maxLen ∧
  ∀ j, j < len → ∃ n : Int, w.cell? (a.add j) = some (.int k n) ∧ (Lit.int k n).wf = true
/-- A slice of structs of integers of these kinds. -/
def IsRows (ks : List IntKind) (w : World) (v : Value) : Prop := v = .slice none 0 0 ∨ ∃ (a : Addr) (len cap : Nat), v = .slice (some a) len cap ∧ len ≤ cap ∧ cap ≤ maxLen ∧
  ∀ j, j < len → ∀ (i : Nat) (k : IntKind), ks[i]? = some k → ∃ n : Int, w.cell? (a.add (j * ks.length + i)) = some (.int k n) ∧ (Lit.int k n).wf = true

theorem isInt_of {k : IntKind} (ht : P.underlying t = some (.int k)) (hv : Value.okWide P w r b0 t v) (h : DataW.Trod enc P w base spare held t v d p) : IsInt k v := by
  obtain ⟨a, rfl, -, -, hw⟩ := open_int ht hv h
  exact ⟨a, rfl, hw⟩
theorem isInts_of {fs : Array Field} {ks : List IntKind} (hs : P.underlying t = some (.struct fs)) (hi : intFields P fs ks = true) (hc : P.cellsOf t = ks.length)
    (hv : Value.okWide P w r b0 t v) (h : DataW.Trod enc P w base spare held t v d p) : IsInts ks v := by
  obtain ⟨cs, rfl, -⟩ := okWide_struct hs hv
  obtain ⟨fuel, hf⟩ := h
  obtain ⟨hl, hk⟩ := trod_ints hs hi hc hf
  exact ⟨cs.toList, by simp, hl, hk⟩
theorem isSlice_of {e : TypeId} {k : IntKind} (ht : P.underlying t = some (.slice e)) (he : P.underlying e = some (.int k)) (hc : P.cellsOf e = 1)
    (hv : Value.okWide P w r b0 t v) (h : DataW.Trod enc P w base spare held t v d p) : IsSlice k w v := by
  obtain ⟨a, len, cap, rfl⟩ := okWide_slice ht hv
  obtain ⟨fuel, hf⟩ := h
  rcases open_ints ht he hc hf with ⟨hcs, _⟩ | ⟨x, l, c, zs, hcs, _, hl, hm, hz, _, hcell, hwz⟩
  · simp [Value.cells] at hcs
    obtain ⟨rfl, rfl, rfl⟩ := hcs
    exact .inl rfl
  · simp [Value.cells] at hcs
    obtain ⟨rfl, rfl, rfl⟩ := hcs
    have hlen : len ≤ zs.length := by
      rw [hz]; split <;> omega
    refine .inr ⟨_, _, _, rfl, hl, hm, fun j hj => ⟨_, hcell j (by omega), hwz _ ?_⟩⟩
    · rw [List.getD_eq_getElem?_getD, List.getElem?_eq_getElem (by omega)]
      exact List.getElem_mem (by omega)
theorem isRows_of {e : TypeId} {fs : Array Field} {ks : List IntKind} (ht : P.underlying t = some (.slice e)) (hs : P.underlying e = some (.struct fs)) (hi : intFields P fs ks = true) (hc : P.cellsOf e = ks.length)
    (hv : Value.okWide P w r b0 t v) (h : DataW.Trod enc P w base spare held t v d p) : IsRows ks w v := by
  obtain ⟨a, len, cap, rfl⟩ := okWide_slice ht hv
  obtain ⟨fuel, hf⟩ := h
  rcases open_rows ht hs hi hc hf with hcs | ⟨x, l, c, hcs, hl, hm, hcell⟩
  · simp [Value.cells] at hcs
    obtain ⟨rfl, rfl, rfl⟩ := hcs
    exact .inl rfl
  · simp [Value.cells] at hcs
    obtain ⟨rfl, rfl, rfl⟩ := hcs
    exact .inr ⟨_, _, _, rfl, hl, hm, hcell⟩
end
end Go.Proofs.Ytcdpmggjdmibjaa
