/-
  Proved here: what a map from keys to slots reads as, held against the keys by slots: a key found, put, dropped; the slots that are free. No Go text is walked. Conditions: as each lemma says.
-/
import Derived.Test.YtenjdgoammaiiaaGC
import Derived.Test.YtenjdgoammaiiaaGF
import Derived.Maps.RangeWalk
import Derived.Maps.Views
import Derived.Maps.OwnSet
namespace Go.Proofs.Ytenjdgoammaiiaa
open Go.RowKit
set_option maxRecDepth 100000

/-- A key as the map reads it. -/
def keyL (y : ByteArray) : Lit := .string y.data.toList
theorem keyL_inj {a b : ByteArray} (h : keyL a = keyL b) : a = b := by
  unfold keyL at h
  injection h with h
  cases a
  cases b
  simp only [Array.toList_inj] at h
  rw [h]
theorem keyed9 : Maps.Keyed Try.prog 9 := Maps.string_keyed Try.underlying9
theorem key9 {y : ByteArray} (h : y.size ≤ maxLen) : keyOf Try.prog 9 (.string y) = some (keyL y) := WideMaps.keyOf_string_mk Try.underlying9 h
/-- The slot that has a key. -/
def slotOf (ks : List ByteArray) (y : ByteArray) : Option Nat := if y = ⟨#[]⟩ then none else ks.findIdx? (· = y)
theorem slotOf_some {ks : List ByteArray} {y : ByteArray} {i : Nat} (h : slotOf ks y = some i) : i < ks.length ∧ ks.getD i .empty = y ∧ y ≠ ⟨#[]⟩ := by
  unfold slotOf at h
  split at h
  · cases h
  · rename_i hy
    obtain ⟨hi, h1, -⟩ := List.findIdx?_eq_some_iff_getElem.1 h
    refine ⟨hi, ?_, hy⟩
    rw [List.getD_eq_getElem?_getD, List.getElem?_eq_getElem hi]
    simpa using h1
theorem getD_mem {ks : List ByteArray} {i : Nat} (hi : i < ks.length) : ks.getD i .empty ∈ ks := by
  rw [List.getD_eq_getElem?_getD, List.getElem?_eq_getElem hi]
  exact List.getElem_mem _
/-- No key stands in two slots. -/
def Uniq (ks : List ByteArray) : Prop := ∀ i j, i < ks.length → j < ks.length → ks.getD i .empty = ks.getD j .empty → ks.getD i .empty ≠ ⟨#[]⟩ → i = j
theorem slotOf_at {ks : List ByteArray} (hu : Uniq ks) {i : Nat} (hi : i < ks.length) {y : ByteArray} (hy : ks.getD i .empty = y) (hne : y ≠ ⟨#[]⟩) : slotOf ks y = some i := by
  unfold slotOf
  rw [if_neg hne]
  cases hf : ks.findIdx? (· = y) with
  | none =>
    have := List.findIdx?_eq_none_iff.1 hf _ (getD_mem hi)
    simp at this
    exact absurd hy this
  | some j =>
    obtain ⟨hj, h1, -⟩ := List.findIdx?_eq_some_iff_getElem.1 hf
    have h2 : ks.getD j .empty = y := by
      rw [List.getD_eq_getElem?_getD, List.getElem?_eq_getElem hj]
      simpa using h1
    rw [hu i j hi hj (by rw [hy, h2]) (by rw [hy]; exact hne)]
theorem slotOf_none {ks : List ByteArray} {y : ByteArray} (h : ∀ i, i < ks.length → ks.getD i .empty ≠ y) : slotOf ks y = none := by
  unfold slotOf
  split
  · rfl
  · rw [List.findIdx?_eq_none_iff]
    intro x hx
    obtain ⟨i, hi, rfl⟩ := List.mem_iff_getElem.1 hx
    have := h i hi
    rw [List.getD_eq_getElem?_getD, List.getElem?_eq_getElem hi] at this
    simpa using this
theorem slotOf_not {ks : List ByteArray} {y : ByteArray} (h : slotOf ks y = none) (hne : y ≠ ⟨#[]⟩) : ∀ i, i < ks.length → ks.getD i .empty ≠ y := by
  intro i hi e
  unfold slotOf at h
  rw [if_neg hne] at h
  have := List.findIdx?_eq_none_iff.1 h _ (getD_mem hi)
  simp at this
  exact this e
theorem getD_set {ks : List ByteArray} {i k : Nat} {x : ByteArray} (hi : i < ks.length) : (ks.set i x).getD k .empty = if i = k then x else ks.getD k .empty := by
  rw [List.getD_eq_getElem?_getD, List.getD_eq_getElem?_getD, List.getElem?_set]
  by_cases e : i = k
  · subst e; simp [hi]
  · simp [e]
theorem Uniq.put {ks : List ByteArray} (hu : Uniq ks) {i : Nat} {y : ByteArray} (hi : i < ks.length) (hn : slotOf ks y = none) : Uniq (ks.set i y) := by
  intro a b ha hb e hne
  rw [List.length_set] at ha hb
  rw [getD_set hi] at e hne
  rw [getD_set hi] at e
  by_cases e1 : i = a
  · by_cases e2 : i = b
    · omega
    · rw [if_pos e1] at e hne
      rw [if_neg e2] at e
      exact absurd e.symm (slotOf_not hn hne b hb)
  · rw [if_neg e1] at e hne
    by_cases e2 : i = b
    · rw [if_pos e2] at e
      exact absurd e (slotOf_not hn (by rw [← e]; exact hne) a ha)
    · rw [if_neg e2] at e
      exact hu a b ha hb e hne
theorem Uniq.drop {ks : List ByteArray} (hu : Uniq ks) {i : Nat} (hi : i < ks.length) : Uniq (ks.set i ⟨#[]⟩) := by
  intro a b ha hb e hne
  rw [List.length_set] at ha hb
  rw [getD_set hi] at e hne
  rw [getD_set hi] at e
  by_cases e1 : i = a
  · rw [if_pos e1] at hne
    exact absurd rfl hne
  · rw [if_neg e1] at e hne
    by_cases e2 : i = b
    · rw [if_pos e2] at e
      exact absurd e hne
    · rw [if_neg e2] at e
      exact hu a b ha hb e hne
theorem slotOf_put_same {ks : List ByteArray} (hu : Uniq ks) {i : Nat} {y : ByteArray} (hi : i < ks.length) (hn : slotOf ks y = none) (hne : y ≠ ⟨#[]⟩) : slotOf (ks.set i y) y = some i :=
  slotOf_at (hu.put hi hn) (by rw [List.length_set]; exact hi) (by rw [getD_set hi, if_pos rfl]) hne
theorem slotOf_set_other {ks : List ByteArray} {i : Nat} {x y : ByteArray} (hu2 : Uniq (ks.set i x)) (hi : i < ks.length) (hx : x ≠ y) (ho : ks.getD i .empty ≠ y) : slotOf (ks.set i x) y = slotOf ks y := by
  by_cases hne : y = ⟨#[]⟩
  · unfold slotOf; rw [if_pos hne, if_pos hne]
  · cases h : slotOf ks y with
    | some j =>
      obtain ⟨h1, h2, -⟩ := slotOf_some h
      have hij : i ≠ j := fun e => ho (by rw [e]; exact h2)
      exact slotOf_at hu2 (by rw [List.length_set]; exact h1) (by rw [getD_set hi, if_neg hij]; exact h2) hne
    | none =>
      refine slotOf_none fun j hj => ?_
      rw [List.length_set] at hj
      rw [getD_set hi]
      split
      · exact hx
      · exact slotOf_not h hne j hj
/-- What the map reads as is what the keys by slots say. -/
structure Agr (D : DataW Unit) (ks : List ByteArray) : Prop where
  tidy : Maps.Tidy D
  at_ : ∀ y z, D.atKey (keyL y) z = (match slotOf ks y with
    | some i => .lit (.int .i64 i)
    | none => z)
  all : ∀ kl, Maps.has D kl = true → ∃ y, kl = keyL y
  size : Maps.size D = (listK ks).length
theorem Agr.yes {D : DataW Unit} {ks : List ByteArray} (h : Agr D ks) {y : ByteArray} {i : Nat} (hs : slotOf ks y = some i) : Maps.has D (keyL y) = true :=
  Maps.has_true_of_atKey (y := .lit (.int .i64 i)) fun z => by rw [h.at_, hs]
theorem Agr.no {D : DataW Unit} {ks : List ByteArray} (h : Agr D ks) {y : ByteArray} (hs : slotOf ks y = none) : Maps.has D (keyL y) = false :=
  Maps.has_false_of_atKey fun z => by rw [h.at_, hs]
theorem noKeys_slot (n : Nat) (y : ByteArray) : slotOf (List.replicate n ⟨#[]⟩) y = none := by
  by_cases hne : y = ⟨#[]⟩
  · unfold slotOf; rw [if_pos hne]
  · refine slotOf_none fun i hi e => hne ?_
    rw [List.length_replicate] at hi
    rw [← e, List.getD_eq_getElem?_getD, List.getElem?_replicate, if_pos hi]
    rfl
theorem listK_none (n : Nat) : listK (List.replicate n ⟨#[]⟩) = [] := by simp [listK]
theorem agr_new (n : Nat) : Agr (.map []) (List.replicate n ⟨#[]⟩) := by
  refine ⟨Maps.tidy_empty, fun y z => ?_, fun kl h => absurd h (by simp [Maps.has]), by rw [listK_none]; rfl⟩
  rw [noKeys_slot]
  rfl
theorem uniq_new (n : Nat) : Uniq (List.replicate n ⟨#[]⟩) := by
  intro i j hi hj e hne
  rw [List.length_replicate] at hi
  rw [List.getD_eq_getElem?_getD, List.getElem?_replicate, if_pos hi] at hne
  exact absurd rfl hne
theorem keyLit (y : ByteArray) : WideAt.IsKeyLit (keyL y) := by unfold keyL; exact trivial
theorem listK_set {ks : List ByteArray} : ∀ {i : Nat} {x : ByteArray}, i < ks.length → (listK (ks.set i x)).length + (if ks.getD i .empty = ⟨#[]⟩ then 0 else 1) = (listK ks).length + (if x = ⟨#[]⟩ then 0 else 1) := by
  induction ks with
  | nil => intro i x hi; simp at hi
  | cons a r ih =>
    intro i x hi
    cases i with
    | zero =>
      by_cases h1 : a = ⟨#[]⟩ <;> by_cases h2 : x = ⟨#[]⟩ <;> simp [listK, h1, h2]
    | succ i =>
      have h := ih (i := i) (x := x) (by simpa using hi)
      simp only [List.set_cons_succ, List.getD_cons_succ]
      by_cases h1 : a = ⟨#[]⟩
      · simpa [listK, h1] using h
      · simp only [listK, List.filter_cons, h1, ne_eq, not_false_eq_true, decide_true, if_true, List.length_cons] at h ⊢
        omega
theorem Agr.put {D : DataW Unit} {ks : List ByteArray} (h : Agr D ks) (hu : Uniq ks) {i : Nat} {y : ByteArray} (hi : i < ks.length) (h0 : ks.getD i .empty = ⟨#[]⟩) (hn : slotOf ks y = none) (hne : y ≠ ⟨#[]⟩) : Agr (D.put (keyL y) (.lit (.int .i64 i))) (ks.set i y) := by
  refine ⟨h.tidy.put (keyLit y) _, fun x z => ?_, fun kl hk => ?_, ?_⟩
  · by_cases e : x = y
    · subst e
      rw [Maps.atKey_put_same h.tidy.isMap (keyLit _), slotOf_put_same hu hi hn hne]
    · rw [Maps.atKey_put_other (fun e2 => e (keyL_inj e2)), h.at_]
      by_cases e3 : x = ⟨#[]⟩
      · unfold slotOf; rw [if_pos e3, if_pos e3]
      · rw [slotOf_set_other (hu.put hi hn) hi (fun e2 => e e2.symm) (by rw [h0]; exact fun e2 => e3 e2.symm)]
  · by_cases e : kl = keyL y
    · exact ⟨y, e⟩
    · rw [Maps.has_put_other e] at hk
      exact h.all kl hk
  · have := listK_set (x := y) hi
    rw [if_pos h0, if_neg hne] at this
    rw [Maps.size_put h.tidy, h.no hn, h.size]
    simp
    omega
theorem Agr.drop {D : DataW Unit} {ks : List ByteArray} (h : Agr D ks) (hu : Uniq ks) {i : Nat} {y : ByteArray} (hs : slotOf ks y = some i) : Agr (D.del (keyL y)) (ks.set i ⟨#[]⟩) := by
  obtain ⟨hi, h1, hne⟩ := slotOf_some hs
  refine ⟨h.tidy.del _, fun x z => ?_, fun kl hk => ?_, ?_⟩
  · by_cases e : x = y
    · subst e
      rw [Maps.atKey_del_same, slotOf_none fun j hj e2 => ?_]
      rw [List.length_set] at hj
      rw [getD_set hi] at e2
      split at e2
      · exact hne e2.symm
      · rename_i hij
        exact hij (hu i j hi hj (by rw [h1, e2]) (by rw [h1]; exact hne))
    · rw [Maps.atKey_del_other (fun e2 => e (keyL_inj e2)), h.at_]
      by_cases e3 : x = ⟨#[]⟩
      · unfold slotOf; rw [if_pos e3, if_pos e3]
      · rw [slotOf_set_other (hu.drop hi) hi (fun e2 => e3 e2.symm) (by rw [h1]; exact fun e2 => e e2.symm)]
  · by_cases e : kl = keyL y
    · exact ⟨y, e⟩
    · rw [Maps.has_del_other e] at hk
      exact h.all kl hk
  · have := listK_set (x := ⟨#[]⟩) hi
    rw [h1, if_neg hne, if_pos rfl] at this
    have h2 := Maps.size_del (k := keyL y) h.tidy
    rw [h.yes hs, if_pos rfl, h.size] at h2
    omega

/-! ### The slots that are free -/
def freeK (ks : List ByteArray) : List Int := ((List.range ks.length).filter fun i => decide (ks.getD i .empty = ⟨#[]⟩)).map Int.ofNat
theorem mem_freeK {ks : List ByteArray} {x : Int} : x ∈ freeK ks ↔ ∃ i : Nat, x = i ∧ i < ks.length ∧ ks.getD i .empty = ⟨#[]⟩ := by
  simp only [freeK, List.mem_map, List.mem_filter, List.mem_range, decide_eq_true_eq]
  constructor
  · rintro ⟨i, ⟨h1, h2⟩, rfl⟩; exact ⟨i, rfl, h1, h2⟩
  · rintro ⟨i, rfl, h1, h2⟩; exact ⟨i, ⟨h1, h2⟩, rfl⟩
theorem freeK_nodup (ks : List ByteArray) : (freeK ks).Nodup := by
  unfold freeK
  refine List.Pairwise.map _ (fun a b h => ?_) ((List.nodup_range).filter _)
  intro e; exact h (Int.ofNat.inj e)
theorem perm_of_mem {l m : List Int} (hl : l.Nodup) (hm : m.Nodup) (h : ∀ x, x ∈ l ↔ x ∈ m) : l.Perm m := (List.perm_ext_iff_of_nodup hl hm).2 h
theorem freeK_new (n : Nat) : freeK (List.replicate n ⟨#[]⟩) = (List.range n).map Int.ofNat := by
  unfold freeK
  rw [List.length_replicate, List.filter_eq_self.2]
  intro i hi
  rw [List.mem_range] at hi
  rw [List.getD_eq_getElem?_getD, List.getElem?_replicate, if_pos hi]
  rfl
theorem freeK_put {ks : List ByteArray} {i : Nat} {y : ByteArray} (hi : i < ks.length) (h0 : ks.getD i .empty = ⟨#[]⟩) (hne : y ≠ ⟨#[]⟩) : (freeK (ks.set i y) ++ [(i : Int)]).Perm (freeK ks) := by
  refine perm_of_mem ?_ (freeK_nodup _) fun x => ?_
  · rw [List.nodup_append]
    refine ⟨freeK_nodup _, by simp, ?_⟩
    intro a ha b hb e
    simp at hb
    subst hb
    subst e
    obtain ⟨j, e1, h1, h2⟩ := mem_freeK.1 ha
    have : i = j := by omega
    subst this
    rw [getD_set hi, if_pos rfl] at h2
    exact hne h2
  · rw [List.mem_append, mem_freeK, mem_freeK, List.mem_singleton]
    constructor
    · rintro (⟨j, rfl, h1, h2⟩ | rfl)
      · rw [List.length_set] at h1
        rw [getD_set hi] at h2
        split at h2
        · exact absurd h2 hne
        · exact ⟨j, rfl, h1, h2⟩
      · exact ⟨i, rfl, hi, h0⟩
    · rintro ⟨j, rfl, h1, h2⟩
      by_cases e : i = j
      · exact .inr (by rw [e])
      · exact .inl ⟨j, rfl, by rw [List.length_set]; exact h1, by rw [getD_set hi, if_neg e]; exact h2⟩
theorem freeK_drop {ks : List ByteArray} {i : Nat} (hi : i < ks.length) (h0 : ks.getD i .empty ≠ ⟨#[]⟩) : (freeK (ks.set i ⟨#[]⟩)).Perm (freeK ks ++ [(i : Int)]) := by
  have h1 := freeK_put (ks := ks.set i ⟨#[]⟩) (i := i) (y := ks.getD i .empty) (by rw [List.length_set]; exact hi) (by rw [getD_set hi, if_pos rfl]) h0
  have e : (ks.set i ⟨#[]⟩).set i (ks.getD i .empty) = ks := by
    rw [List.set_set]
    apply List.ext_getElem
    · simp
    · intro k h2 h3
      rw [List.getElem_set]
      split
      · rename_i e; subst e
        rw [List.getD_eq_getElem?_getD, List.getElem?_eq_getElem hi]; rfl
      · rfl
  rw [e] at h1
  exact h1.symm
/-- How many are free. -/
theorem freeK_len (ks : List ByteArray) : (freeK ks).length + (listK ks).length = ks.length := by
  have h : ∀ l : List ByteArray, (l.filter fun y => decide (y = ⟨#[]⟩)).length + (listK l).length = l.length := by
    intro l
    induction l with
    | nil => rfl
    | cons a r ih =>
      by_cases h1 : a = ⟨#[]⟩ <;> simp [listK, h1] at ih ⊢ <;> omega
  rw [← h ks]
  congr 1
  unfold freeK
  rw [List.length_map]
  have e : ks = (List.range ks.length).map fun i => ks.getD i .empty := by
    apply List.ext_getElem
    · simp
    · intro k h2 h3
      simp [List.getD_eq_getElem?_getD, h2]
  conv => rhs; rw [e]
  rw [List.filter_map, List.length_map]
  rfl
/-- The least of the free slots is the first one. -/
theorem least_free {ks : List ByteArray} {l : List Int} {len : Nat} (hl : l.length = len) (h0 : 0 < len) (hh : IsHeap l len) (hp : l.Perm (freeK ks)) : ∃ i, ks.findIdx? (· = ⟨#[]⟩) = some i ∧ at0 l 0 = (i : Int) ∧ i < ks.length ∧ ks.getD i .empty = ⟨#[]⟩ := by
  have hm : at0 l 0 ∈ freeK ks := hp.mem_iff.1 (by rw [at0_eq (by omega)]; exact List.getElem_mem _)
  obtain ⟨i, e, hi, hk⟩ := mem_freeK.1 hm
  refine ⟨i, ?_, e, hi, hk⟩
  rw [List.findIdx?_eq_some_iff_getElem]
  refine ⟨hi, ?_, fun j hj => ?_⟩
  · rw [List.getD_eq_getElem?_getD, List.getElem?_eq_getElem hi] at hk
    simpa using hk
  · intro h
    have hjl : j < ks.length := by omega
    have h2 : ks.getD j .empty = ⟨#[]⟩ := by
      rw [List.getD_eq_getElem?_getD, List.getElem?_eq_getElem hjl]
      simpa using h
    have h3 : ((j : Nat) : Int) ∈ l := hp.mem_iff.2 (mem_freeK.2 ⟨j, rfl, hjl, h2⟩)
    obtain ⟨k, hk2, h4⟩ := List.mem_iff_getElem.1 h3
    have h5 := heap_least hh k (by omega)
    rw [at0_eq hk2, h4, e] at h5
    omega
theorem none_free {ks : List ByteArray} {l : List Int} (h0 : l.length = 0) (hp : l.Perm (freeK ks)) : ks.findIdx? (· = ⟨#[]⟩) = none := by
  have e : freeK ks = [] := by
    have := hp.length_eq
    rw [h0] at this
    exact List.eq_nil_of_length_eq_zero this.symm
  rw [List.findIdx?_eq_none_iff]
  intro x hx
  obtain ⟨i, hi, rfl⟩ := List.mem_iff_getElem.1 hx
  have : ((i : Nat) : Int) ∉ freeK ks := by rw [e]; simp
  rw [mem_freeK] at this
  simp only [decide_eq_false_iff_not]
  intro h
  exact this ⟨i, rfl, hi, by rw [List.getD_eq_getElem?_getD, List.getElem?_eq_getElem hi]; simpa using h⟩
end Go.Proofs.Ytenjdgoammaiiaa
