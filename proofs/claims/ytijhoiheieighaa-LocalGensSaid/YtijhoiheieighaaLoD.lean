/-
  Proved here: what Drop of the document's storages makes of objects and slots, as lists. No Go text is walked. Conditions: as each says.
-/
import Derived.Test.YtijhoiheieighaaLoGet
namespace Go.Proofs.Ytijhoiheieighaa
open Go.RowKit

/-- The bytes behind an object's drop: those behind its slot move up by one. -/
def dropS (zs : List Int) (s k m : Nat) : List Int := (List.range zs.length).map fun j => if j / s < k then zs.getD j 0 else if j / s + 1 < m then zs.getD (j + s) 0 else if j / s + 1 = m then 0 else zs.getD j 0
theorem dropS_length (zs : List Int) (s k m : Nat) : (dropS zs s k m).length = zs.length := by simp [dropS]
theorem dropS_get {zs : List Int} {s n L k m i j : Nat} (hd : Dim s n L) (hz : zs.length = L) (hi : i < n) (hj : j < s) :
    (dropS zs s k m).getD (i * s + j) 0 = if i < k then zs.getD (i * s + j) 0 else if i + 1 < m then zs.getD ((i + 1) * s + j) 0 else if i + 1 = m then 0 else zs.getD (i * s + j) 0 := by
  have := hd.at hi
  unfold dropS
  rw [range_get (by omega), place_div hj, Nat.add_mul, Nat.one_mul, Nat.add_right_comm]
/-- What dropping an object answers, and makes. -/
def dropR (os : List Ob) (zs : List Int) (s : Nat) (o : Ob) : Int × List Ob × List Int := match findO os o with
  | some k => (0, os.eraseIdx k, dropS zs s k os.length)
  | none => (2, os, zs)
def DropP (PS : World → (Nat → Prop) → Nat → List Ob → List Int → Prop) (D : Nat → Prop) (h : Nat) (r : Int × List Ob × List Int) (W : World) (e : Ending) (w : World) : Prop :=
  ∃ D', e = .returned (.int .i64 r.1) ∧ PS w D' h r.2.1 r.2.2 ∧ Turned D W w ∧ ∀ b, D' b → D b ∨ W.heap.size ≤ b
/-- The objects kept of the first i. -/
def osD (os : List Ob) (k : Nat) : Nat → List Ob
  | 0 => []
  | i + 1 => osD os k i ++ if i < os.length ∧ i ≠ k then [os.getD i (0, 0)] else []
theorem osD_yes {os : List Ob} {k i : Nat} (h : i < os.length) (hk : i ≠ k) : osD os k (i + 1) = osD os k i ++ [os.getD i (0, 0)] := by
  show osD os k i ++ _ = _
  rw [if_pos ⟨h, hk⟩]
theorem osD_no {os : List Ob} {k i : Nat} (h : ¬ (i < os.length ∧ i ≠ k)) : osD os k (i + 1) = osD os k i := by
  show osD os k i ++ _ = _
  rw [if_neg h, List.append_nil]
theorem osD_take {os : List Ob} {k : Nat} : ∀ i, i ≤ k → i ≤ os.length → osD os k i = os.take i
  | 0, _, _ => rfl
  | i + 1, h, hl => by
    rw [osD_yes (by omega) (by omega), osD_take i (by omega) (by omega), List.take_succ_eq_append_getElem (by omega), List.getD_eq_getElem?_getD, List.getElem?_eq_getElem (by omega)]
    rfl
theorem osD_erase {os : List Ob} {k : Nat} (hk : k < os.length) : ∀ i, k < i → i ≤ os.length → osD os k i = (os.take i).eraseIdx k
  | 0, h, _ => by omega
  | i + 1, h, hl => by
    by_cases e : i = k
    · subst e
      rw [osD_no (by omega), osD_take i (Nat.le_refl _) (by omega), List.take_succ_eq_append_getElem hk, List.eraseIdx_append_of_length_le (by simp; omega)]
      simp [Nat.min_eq_left (show i ≤ os.length by omega)]
    · rw [osD_yes (by omega) e, osD_erase hk i (by omega) (by omega), List.take_succ_eq_append_getElem (by omega), List.eraseIdx_append_of_lt_length (by simp; omega), List.getD_eq_getElem?_getD, List.getElem?_eq_getElem (by omega)]
      rfl
theorem osD_stay {os : List Ob} {k : Nat} : ∀ i, os.length ≤ i → osD os k i = osD os k os.length
  | 0, h => by rw [show os.length = 0 by omega]
  | i + 1, h => by
    by_cases e : os.length = i + 1
    · rw [e]
    · rw [osD_no (by omega), osD_stay i (by omega)]
theorem osD_all {os : List Ob} {k n : Nat} (hk : k < os.length) (hn : os.length ≤ n) : osD os k n = os.eraseIdx k := by
  rw [osD_stay n hn, osD_erase hk _ hk (Nat.le_refl _), List.take_length]
theorem osD_len (os : List Ob) (k : Nat) : ∀ i, (osD os k i).length ≤ i
  | 0 => Nat.le_refl _
  | i + 1 => by
    have := osD_len os k i
    show (osD os k i ++ _).length ≤ _
    rw [List.length_append]
    split <;> simp <;> omega
/-- The blocks of the slots under way. -/
def slD (gs : Nat → Nat) (k m Z : Nat) : Nat → List Nat
  | 0 => []
  | i + 1 => slD gs k m Z i ++ (if i = m then [Z] else []) ++ if i = k then [] else [gs i]
theorem slD_indep {gs : Nat → Nat} {k m Z Z' : Nat} : ∀ i, i ≤ m → slD gs k m Z i = slD gs k m Z' i
  | 0, _ => rfl
  | i + 1, h => by
    show slD gs k m Z i ++ _ ++ _ = slD gs k m Z' i ++ _ ++ _
    rw [slD_indep (Z' := Z') i (by omega)]
    have hne : i ≠ m := by omega
    rw [if_neg hne, if_neg hne]
theorem slD_at {gs : Nat → Nat} {k m Z i : Nat} (h : i ≠ m) (hk : i ≠ k) : slD gs k m Z (i + 1) = slD gs k m Z i ++ [gs i] := by
  show slD gs k m Z i ++ _ ++ _ = _
  rw [if_neg h, if_neg hk, List.append_nil]
theorem slD_k {gs : Nat → Nat} {k m Z : Nat} (h : k ≠ m) : slD gs k m Z (k + 1) = slD gs k m Z k := by
  show slD gs k m Z k ++ _ ++ _ = _
  rw [if_neg h, if_pos rfl, List.append_nil, List.append_nil]
theorem slD_m {gs : Nat → Nat} {k m Z : Nat} (h : m ≠ k) : slD gs k m Z (m + 1) = (slD gs k m Z m ++ [Z]) ++ [gs m] := by
  show slD gs k m Z m ++ _ ++ _ = _
  rw [if_pos rfl, if_neg h]
/-- The blocks of the slots behind it. -/
def gsD (gs : Nat → Nat) (k m Z j : Nat) : Nat := if j < k then gs j else if j + 1 < m then gs (j + 1) else if j + 1 = m then Z else gs j
theorem slD_spec {gs : Nat → Nat} {k m Z : Nat} (hk : k < m) : ∀ i, (slD gs k m Z i).length = (if i ≤ k then i else if i ≤ m then i - 1 else i) ∧ ∀ j, j < (slD gs k m Z i).length → (slD gs k m Z i).getD j 0 = gsD gs k m Z j
  | 0 => ⟨by simp [slD], fun j hj => by simp [slD] at hj⟩
  | i + 1 => by
    obtain ⟨h1, h2⟩ := slD_spec hk i
    by_cases e1 : i = k
    · subst e1
      rw [slD_k (by omega)]
      refine ⟨by rw [h1, if_pos (Nat.le_refl _), if_neg (by omega), if_pos (by omega)]; omega, h2⟩
    · by_cases e2 : i = m
      · subst e2
        rw [slD_m e1]
        rw [if_neg (by omega), if_pos (Nat.le_refl _)] at h1
        refine ⟨by simp only [List.length_append, h1, List.length_singleton]; rw [if_neg (by omega), if_neg (by omega)]; omega, fun j hj => ?_⟩
        simp only [List.length_append, List.length_singleton, h1] at hj
        rw [List.getD_eq_getElem?_getD]
        by_cases e3 : j < i - 1
        · rw [List.getElem?_append_left (by simp [h1]; omega), List.getElem?_append_left (by omega), ← List.getD_eq_getElem?_getD]
          exact h2 j (by omega)
        · by_cases e4 : j = i - 1
          · rw [List.getElem?_append_left (by simp [h1]; omega), List.getElem?_append_right (by omega), h1, e4]
            unfold gsD
            rw [if_neg (by omega), if_neg (by omega), if_pos (by omega)]
            simp
          · have e5 : j = i := by omega
            rw [List.getElem?_append_right (by simp [h1]; omega)]
            unfold gsD
            rw [if_neg (by omega), if_neg (by omega), if_neg (by omega), e5]
            simp [h1, show i - (i - 1 + 1) = 0 by omega]
      · rw [slD_at e2 e1]
        refine ⟨by simp only [List.length_append, h1, List.length_singleton]; split <;> split <;> (try split) <;> (try split) <;> omega, fun j hj => ?_⟩
        simp only [List.length_append, List.length_singleton] at hj
        rw [List.getD_eq_getElem?_getD]
        by_cases e3 : j < (slD gs k m Z i).length
        · rw [List.getElem?_append_left e3, ← List.getD_eq_getElem?_getD]
          exact h2 j e3
        · have e4 : j = (slD gs k m Z i).length := by omega
          rw [List.getElem?_append_right (by omega), e4]
          rw [h1]
          unfold gsD
          simp only [Nat.sub_self, List.getElem?_cons_zero, Option.getD_some]
          by_cases a1 : i ≤ k
          · rw [if_pos a1, if_pos (by omega)]
          · by_cases a2 : i ≤ m
            · rw [if_neg a1, if_pos a2, if_neg (by omega), if_pos (by omega)]
              congr 1
              omega
            · rw [if_neg a1, if_neg a2, if_neg (by omega), if_neg (by omega), if_neg (by omega)]
/-- All the slots. -/
def slF (gs : Nat → Nat) (k m Z n : Nat) : List Nat := slD gs k m Z n ++ if m = n then [Z] else []
theorem slF_spec {gs : Nat → Nat} {k m Z n : Nat} (hk : k < m) (hm : m ≤ n) : (slF gs k m Z n).length = n ∧ ∀ j, j < n → (slF gs k m Z n).getD j 0 = gsD gs k m Z j := by
  obtain ⟨h1, h2⟩ := slD_spec (gs := gs) (Z := Z) hk n
  unfold slF
  by_cases e : m = n
  · subst e
    rw [if_pos rfl]
    rw [if_neg (by omega), if_pos (Nat.le_refl _)] at h1
    refine ⟨by simp [h1]; omega, fun j hj => ?_⟩
    rw [List.getD_eq_getElem?_getD]
    by_cases e2 : j < m - 1
    · rw [List.getElem?_append_left (by omega), ← List.getD_eq_getElem?_getD]
      exact h2 j (by omega)
    · have e3 : j = m - 1 := by omega
      rw [List.getElem?_append_right (by omega), h1, e3]
      unfold gsD
      rw [if_neg (by omega), if_neg (by omega), if_pos (by omega)]
      simp
  · rw [if_neg e, List.append_nil]
    rw [if_neg (by omega), if_neg (by omega)] at h1
    exact ⟨h1, fun j hj => h2 j (by omega)⟩
/-- The slices of these blocks. -/
def slV (s : Nat) (l : List Nat) : List Value := l.map fun b => .slice (some ⟨b, 0, none⟩) s s
theorem slV_length (s : Nat) (l : List Nat) : (slV s l).length = l.length := by simp [slV]
theorem slV_snoc (s : Nat) (l : List Nat) (b : Nat) : slV s (l ++ [b]) = slV s l ++ [.slice (some ⟨b, 0, none⟩) s s] := by simp [slV]
theorem slV_get {s : Nat} {l : List Nat} {j : Nat} (hj : j < l.length) : (slV s l)[j]? = some (.slice (some ⟨l.getD j 0, 0, none⟩) s s) := by
  simp [slV, List.getD_eq_getElem?_getD, hj]
end Go.Proofs.Ytijhoiheieighaa
