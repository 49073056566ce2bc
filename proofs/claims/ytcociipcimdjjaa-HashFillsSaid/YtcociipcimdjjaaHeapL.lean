/-
  Proved here: lists of numbers as heaps: what going up and going down makes of them; the first one is the least. Conditions: as each says. No Go text is spoken of.
-/
namespace Go.Proofs.Ytcociipcimdjjaa

/-- The number at a place. -/
def at0 (l : List Int) (k : Nat) : Int := l.getD k 0
/-- Two places exchanged. -/
def swapL (l : List Int) (i j : Nat) : List Int := (l.set i (at0 l j)).set j (at0 l i)
theorem swapL_length (l : List Int) (i j : Nat) : (swapL l i j).length = l.length := by simp [swapL]
theorem at0_set {l : List Int} {i k : Nat} {x : Int} (hi : i < l.length) : at0 (l.set i x) k = if i = k then x else at0 l k := by
  unfold at0
  rw [List.getD_eq_getElem?_getD, List.getD_eq_getElem?_getD, List.getElem?_set]
  by_cases e : i = k
  · subst e; simp [hi]
  · simp [e]
theorem at0_swap {l : List Int} {i j k : Nat} (hi : i < l.length) (hj : j < l.length) : at0 (swapL l i j) k = if k = j then at0 l i else if k = i then at0 l j else at0 l k := by
  unfold swapL
  rw [at0_set (by simpa using hj), at0_set hi]
  by_cases e : k = j
  · subst e; simp
  · rw [if_neg (fun h => e h.symm), if_neg e]
    by_cases e2 : k = i
    · subst e2; simp
    · rw [if_neg (fun h => e2 h.symm), if_neg e2]
theorem at0_eq {l : List Int} {k : Nat} (h : k < l.length) : at0 l k = l[k] := by
  simp [at0, List.getD_eq_getElem?_getD, h]
theorem swapL_perm {l : List Int} {i j : Nat} (hi : i < l.length) (hj : j < l.length) : (swapL l i j).Perm l := by
  have h := Array.swap_perm (xs := l.toArray) (i := i) (j := j) (by simpa using hi) (by simpa using hj)
  have e : ((l.toArray).swap i j (by simpa using hi) (by simpa using hj)).toList = swapL l i j := by
    rw [Array.toList_swap]
    simp [swapL, at0_eq hi, at0_eq hj]
  have h2 := Array.perm_iff_toList_perm.1 h
  rw [e] at h2
  simpa using h2

/-- The place above. -/
def par (k : Nat) : Nat := (k - 1) / 2
theorem par_lt {k : Nat} (h : 0 < k) : par k < k := by unfold par; omega
/-- A heap of the first n. -/
def IsHeap (l : List Int) (n : Nat) : Prop := ∀ k, 0 < k → k < n → at0 l (par k) ≤ at0 l k
/-- .. but that the one at j may be too small. -/
structure UpAt (l : List Int) (n j : Nat) : Prop where
  but : ∀ k, 0 < k → k < n → k ≠ j → at0 l (par k) ≤ at0 l k
  over : ∀ k, 0 < k → k < n → par k = j → 0 < j → at0 l (par j) ≤ at0 l k
/-- .. but that the one at i may be too great. -/
structure DownAt (l : List Int) (n i : Nat) : Prop where
  but : ∀ k, 0 < k → k < n → par k ≠ i → at0 l (par k) ≤ at0 l k
  over : ∀ k, 0 < k → k < n → par k = i → 0 < i → at0 l (par i) ≤ at0 l k

theorem heap_least {l : List Int} {n : Nat} (h : IsHeap l n) : ∀ k, k < n → at0 l 0 ≤ at0 l k := by
  intro k
  induction k using Nat.strongRecOn with
  | ind k ih =>
    intro hk
    by_cases h0 : k = 0
    · subst h0; omega
    · have := par_lt (k := k) (by omega)
      have h1 := ih (par k) this (by omega)
      have h2 := h k (by omega) hk
      omega
theorem up_done {l : List Int} {n j : Nat} (h : UpAt l n j) (hd : j = 0 ∨ at0 l (par j) ≤ at0 l j) : IsHeap l n := by
  intro k hk hn
  by_cases e : k = j
  · subst e
    rcases hd with h0 | h0
    · omega
    · exact h0
  · exact h.but k hk hn e
theorem up_step {l : List Int} {n j : Nat} (h : UpAt l n j) (hn : n = l.length) (hj : 0 < j) (hjn : j < n) (hlt : at0 l j < at0 l (par j)) : UpAt (swapL l (par j) j) n (par j) := by
  have hp := par_lt hj
  have hi : par j < l.length := by omega
  have hjl : j < l.length := by omega
  refine ⟨fun k hk hkn hne => ?_, fun k hk hkn hpk hp0 => ?_⟩
  · rw [at0_swap hi hjl, at0_swap hi hjl]
    by_cases e : k = j
    · subst e
      rw [if_pos rfl, if_neg (by omega), if_pos rfl]
      omega
    · rw [if_neg e, if_neg hne]
      by_cases e1 : par k = j
      · rw [if_pos e1]
        exact h.over k hk hkn e1 hj
      · rw [if_neg e1]
        have h1 := h.but k hk hkn e
        by_cases e2 : par k = par j
        · rw [if_pos e2]
          rw [e2] at h1
          omega
        · rw [if_neg e2]
          exact h1
  · have hpp := par_lt hp0
    rw [at0_swap hi hjl, at0_swap hi hjl, if_neg (by omega), if_neg (by omega)]
    have h0 := h.but (par j) hp0 (by omega) (by omega)
    by_cases e : k = j
    · rw [if_pos e]
      exact h0
    · rw [if_neg e, if_neg (by have := par_lt hk; omega)]
      have h1 := h.but k hk hkn e
      rw [hpk] at h1
      omega
theorem down_done {l : List Int} {n i : Nat} (h : DownAt l n i) (hd : ∀ k, 0 < k → k < n → par k = i → at0 l i ≤ at0 l k) : IsHeap l n := by
  intro k hk hn
  by_cases e : par k = i
  · rw [e]; exact hd k hk hn e
  · exact h.but k hk hn e
theorem down_step {l : List Int} {n i j : Nat} (h : DownAt l n i) (hn : n ≤ l.length) (hj : 0 < j) (hjn : j < n) (hpj : par j = i) (hlt : at0 l j < at0 l i) (hmin : ∀ k, 0 < k → k < n → par k = i → at0 l j ≤ at0 l k) : DownAt (swapL l i j) n j := by
  have hp := par_lt hj
  have hi : i < l.length := by omega
  have hjl : j < l.length := by omega
  refine ⟨fun k hk hkn hne => ?_, fun k hk hkn hpk hj0 => ?_⟩
  · rw [at0_swap hi hjl, at0_swap hi hjl, if_neg hne]
    by_cases e1 : par k = i
    · rw [if_pos e1]
      by_cases e : k = j
      · rw [if_pos e]; omega
      · rw [if_neg e, if_neg (by have := par_lt hk; omega)]
        exact hmin k hk hkn e1
    · rw [if_neg e1]
      have h1 := h.but k hk hkn e1
      by_cases e : k = j
      · subst e; exact absurd hpj e1
      · rw [if_neg e]
        by_cases e2 : k = i
        · subst e2
          rw [if_pos rfl]
          have := h.over j hj hjn hpj hk
          omega
        · rw [if_neg e2]; exact h1
  · have hk2 := par_lt hk
    rw [at0_swap hi hjl, at0_swap hi hjl, hpj, if_neg (by omega), if_pos rfl, if_neg (by omega), if_neg (by omega)]
    have := h.but k hk hkn (by omega)
    rw [hpk] at this
    exact this
theorem child_of {k i : Nat} (hk : 0 < k) (h : par k = i) : k = 2 * i + 1 ∨ k = 2 * i + 2 := by unfold par at h; omega
theorem par_left (i : Nat) : par (2 * i + 1) = i := by unfold par; omega
theorem par_right (i : Nat) : par (2 * i + 2) = i := by unfold par; omega
/-- One more at the end. -/
theorem up_start {l : List Int} {x : Int} (h : IsHeap l l.length) : UpAt (l ++ [x]) (l.length + 1) l.length := by
  have hg : ∀ k, k < l.length → at0 (l ++ [x]) k = at0 l k := fun k hk => by
    simp [at0, List.getD_eq_getElem?_getD, List.getElem?_append_left hk]
  refine ⟨fun k hk hkn hne => ?_, fun k hk hkn hpk _ => ?_⟩
  · have hp := par_lt hk
    rw [hg _ (by omega), hg _ (by omega)]
    exact h k hk (by omega)
  · have hp := par_lt hk
    omega
/-- The last in the place of the first. -/
theorem down_start {l : List Int} {n : Nat} (hl : l.length = n + 1) (h : IsHeap l l.length) : DownAt (swapL l 0 n) n 0 := by
  refine ⟨fun k hk hkn hne => ?_, fun k hk hkn hpk h0 => by omega⟩
  have hp := par_lt hk
  rw [at0_swap (by omega) (by omega), at0_swap (by omega) (by omega), if_neg (by omega), if_neg hne, if_neg (by omega), if_neg (by omega)]
  exact h k hk (by omega)
theorem isHeap_take {l : List Int} {n : Nat} (h : IsHeap l n) (hn : n ≤ l.length) : IsHeap (l.take n) (l.take n).length := by
  have hl : (l.take n).length = n := by simp; omega
  rw [hl]
  intro k hk hkn
  have hp := par_lt hk
  have hg : ∀ j, j < n → at0 (l.take n) j = at0 l j := fun j hj => by
    simp [at0, List.getD_eq_getElem?_getD, List.getElem?_take_of_lt hj]
  rw [hg _ (by omega), hg _ hkn]
  exact h k hk hkn
/-- Numbers from 0 on are a heap. -/
theorem isHeap_range (n : Nat) : IsHeap ((List.range n).map Int.ofNat) n := by
  intro k hk hn
  have hp := par_lt hk
  have hg : ∀ j, j < n → at0 ((List.range n).map Int.ofNat) j = j := fun j hj => by
    simp [at0, List.getD_eq_getElem?_getD, hj]
  rw [hg _ (by omega), hg _ hn]
  omega
end Go.Proofs.Ytcociipcimdjjaa
