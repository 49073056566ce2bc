/-
  Proved here: what Find and Keyed of the document's storages tell. Conditions: as each says.
-/
import Derived.Test.YtijhoiheieighaaRef
import Derived.Deep.QuietTactic
import Derived.BigQuiet
namespace Go.Proofs.Ytijhoiheieighaa
open Go.RowKit

/-- An object: its number, its generation. -/
abbrev Ob := Int × Int
def obV (o : Ob) : Value := .agg #[.int .i64 o.1, .int .i64 o.2]
def flatO (os : List Ob) : List Value := os.flatMap fun o => [.int .i64 o.1, .int .i64 o.2]
theorem flatO_length (os : List Ob) : (flatO os).length = os.length * 2 := by
  induction os with
  | nil => rfl
  | cons a r ih => rw [flatO, List.flatMap_cons, List.length_append, ← flatO, ih]; simp; omega
theorem flatO_get {os : List Ob} : ∀ {i : Nat}, i < os.length → (flatO os)[i * 2]? = some (.int .i64 (os.getD i (0, 0)).1) ∧ (flatO os)[i * 2 + 1]? = some (.int .i64 (os.getD i (0, 0)).2) := by
  induction os with
  | nil => intro i hi; simp at hi
  | cons a r ih =>
    intro i hi
    cases i with
    | zero => exact ⟨rfl, rfl⟩
    | succ i =>
      obtain ⟨h1, h2⟩ := ih (i := i) (by simpa using hi)
      have e1 : (i + 1) * 2 = i * 2 + 2 := by omega
      rw [e1]
      exact ⟨h1, h2⟩
theorem flatO_snoc (os : List Ob) (o : Ob) : flatO (os ++ [o]) = flatO os ++ [.int .i64 o.1, .int .i64 o.2] := by simp [flatO]
/-- The cells of a row of objects. -/
def ObsAt (w : World) (g : Nat) (os : List Ob) : Prop := ∀ i, i < os.length → w.cell? ⟨g, i * 2, none⟩ = some (.int .i64 (os.getD i (0, 0)).1) ∧ w.cell? ⟨g, i * 2 + 1, none⟩ = some (.int .i64 (os.getD i (0, 0)).2)
theorem obsAt_of_own {w : World} {base g n c : Nat} {os : List Ob} (h : w.ownsRow base 32 2 (.slice (some ⟨g, 0, none⟩) n c) n (flatO os)) : ObsAt w g os := by
  intro i hi
  obtain ⟨h1, h2⟩ := flatO_get hi
  have a1 := h.cells (g := g) rfl (i * 2) _ h1
  have a2 := h.cells (g := g) rfl (i * 2 + 1) _ h2
  rw [add_lit, Nat.zero_add] at a1 a2
  exact ⟨a1, a2⟩
theorem own_len {w : World} {base n : Nat} {v : Value} {os : List Ob} (h : w.ownsRow base 32 2 v n (flatO os)) : os.length = n := by
  have := h.1
  rw [flatO_length] at this
  omega
/-- A slice of objects: none, or a row. -/
def ObSl (w : World) (v : Value) (os : List Ob) : Prop := w.ownsRow 0 32 2 v os.length (flatO os)
theorem ObSl.shape {w : World} {v : Value} {os : List Ob} (h : ObSl w v os) : ∃ a c, v = .slice a os.length c ∧ (0 < os.length → ∃ g, a = some ⟨g, 0, none⟩ ∧ g < w.heap.size ∧ ObsAt w g os) := by
  rcases h.2 with ⟨rfl, h0⟩ | ⟨g, cap, cur, hv, hg, hh, -⟩
  · exact ⟨none, 0, by rw [h0], fun hp => by omega⟩
  · refine ⟨_, cap, hv, fun _ => ⟨g, rfl, (Array.getElem?_eq_some_iff.1 hh).1, ?_⟩⟩
    unfold ObSl at h
    rw [hv] at h
    exact obsAt_of_own h
/-- The document's storage in memory. -/
structure Lf (w : World) (H R B cap s n L : Nat) (kv : Value) (gs : Nat → Nat) (os : List Ob) (zs : List Int) : Prop where
  h0 : w.cell? ⟨H, 0, none⟩ = some kv
  h1 : w.cell? ⟨H, 1, none⟩ = some (.pointer (some ⟨R, 0, none⟩))
  fH : ∀ j, w.frozen? ⟨H, j, none⟩ = false
  ks : ObSl w kv os
  hk : some H ≠ kv.ownBlock
  kR : some R ≠ kv.ownBlock
  kB : some B ≠ kv.ownBlock
  kg : ∀ k, k < n → some (gs k) ≠ kv.ownBlock
  le : os.length ≤ n
  rf : Rf w R B cap s n L gs zs
  HR : H ≠ R
  HB : H ≠ B
  Hg : ∀ k, k < n → gs k ≠ H
  RB : R ≠ B
  fR : ∀ j, w.frozen? ⟨R, j, none⟩ = false
  fB : ∀ j, w.frozen? ⟨B, j, none⟩ = false
/-- The place of an object. -/
def findO (os : List Ob) (o : Ob) : Option Nat := os.findIdx? (· = o)
def findV (os : List Ob) (o : Ob) : Int := match findO os o with
  | some i => (i : Int)
  | none => -1
theorem ob_same {a b : Ob} (h : a = b) : (a.1 == b.1) = true ∧ (a.2 == b.2) = true := by subst h; simp
theorem findO_some {os : List Ob} {o : Ob} {i : Nat} (h : findO os o = some i) : i < os.length ∧ os.getD i (0, 0) = o ∧ ∀ j, j < i → os.getD j (0, 0) ≠ o := by
  obtain ⟨hi, h1, h2⟩ := List.findIdx?_eq_some_iff_getElem.1 h
  refine ⟨hi, ?_, fun j hj e => ?_⟩
  · rw [List.getD_eq_getElem?_getD, List.getElem?_eq_getElem hi]
    simpa using h1
  · have h3 := h2 j hj
    rw [List.getD_eq_getElem?_getD, List.getElem?_eq_getElem (by omega)] at e
    simp only [Option.getD_some] at e
    simp [e] at h3
theorem findO_none {os : List Ob} {o : Ob} (h : findO os o = none) : ∀ j, j < os.length → os.getD j (0, 0) ≠ o := by
  intro j hj e
  have h1 := List.findIdx?_eq_none_iff.1 h (os.getD j (0, 0)) (by
    rw [List.getD_eq_getElem?_getD, List.getElem?_eq_getElem hj]
    exact List.getElem_mem _)
  simp only [decide_eq_false_iff_not] at h1
  exact h1 e
theorem findV_of {os : List Ob} {o : Ob} {k : Nat} (hk : k < os.length) (h1 : os.getD k (0, 0) = o) (h2 : ∀ j, j < k → os.getD j (0, 0) ≠ o) : findV os o = (k : Int) := by
  have : findO os o = some k := by
    unfold findO
    rw [List.findIdx?_eq_some_iff_getElem]
    refine ⟨hk, ?_, fun j hj => ?_⟩
    · rw [List.getD_eq_getElem?_getD, List.getElem?_eq_getElem hk] at h1
      simpa using h1
    · have h3 := h2 j hj
      rw [List.getD_eq_getElem?_getD, List.getElem?_eq_getElem (by omega)] at h3
      simpa using h3
  unfold findV
  rw [this]
theorem findV_none {os : List Ob} {o : Ob} (h : ∀ j, j < os.length → os.getD j (0, 0) ≠ o) : findV os o = -1 := by
  have : findO os o = none := by
    unfold findO
    rw [List.findIdx?_eq_none_iff]
    intro x hx
    obtain ⟨j, hj, rfl⟩ := List.mem_iff_getElem.1 hx
    have := h j hj
    rw [List.getD_eq_getElem?_getD, List.getElem?_eq_getElem hj] at this
    simpa using this
  unfold findV
  rw [this]
theorem bdrewN {B : Nat} {a w : World} (h : Below B a w) (n : Nat) : Below B a (w.drewN n) := h.trans ⟨rfl, rfl, rfl, Nat.le_refl _, fun _ _ => rfl⟩
theorem lo_find {w : World} {H R B cap s n L : Nat} {kv : Value} {gs : Nat → Nat} {os : List Ob} {zs : List Int} (h : Lf w H R B cap s n L kv gs os zs) (hn : n ≤ 16) (x y : Int) :
    Calls Try.prog 28 #[.pointer (some ⟨H, 0, none⟩), .agg #[.int .i64 x, .int .i64 y]] w (fun e w' => e = .returned (.int .i64 (findV os (x, y))) ∧ Below w.heap.size w w') := by
  have c0 := h.h0
  obtain ⟨a, c, rfl, hrow⟩ := h.ks.shape
  have hHl : H < w.heap.size := cell_block_lt c0
  have hle := h.le
  have hb0 : Below w.heap.size w (w.alloc (.cells #[.int .i64 x, .int .i64 y] 32)) := (Below.refl _ _).alloc (Nat.le_refl _) _
  have HB0 := Lib.hid hb0
  have hx : (w.alloc (.cells #[.int .i64 x, .int .i64 y] 32)).cell? ⟨w.heap.size, 0, none⟩ = some (.int .i64 x) := by simp [go_sem]
  have hy : (w.alloc (.cells #[.int .i64 x, .int .i64 y] 32)).cell? ⟨w.heap.size, 1, none⟩ = some (.int .i64 y) := by simp [go_sem]
  have HX := Lib.hid (And.intro hx hy)
  have HROW := Lib.hid hrow
  have hz1 : (w.alloc (.cells #[.int .i64 x, .int .i64 y] 32)).heap.size = w.heap.size + 1 := by simp
  clear h hb0 hx hy hrow
  go_enter Try.func28, Try.ntmps28
  go_wp2
  go_loopw [5] (fun v wr => ∃ k : Nat, k ≤ os.length ∧ v = .int .i64 k ∧ Below (w.heap.size + 1) (w.alloc (.cells #[.int .i64 x, .int .i64 y] 32)) wr ∧ ∀ j, j < k → os.getD j (0, 0) ≠ (x, y)) (fun v _ => 17 - (intOf v).toNat)
  case atStart => exact ⟨0, by omega, rfl, by rw [← hz1]; exact Below.refl _ _, fun j hj => by omega⟩
  case round =>
    obtain ⟨k, hk, rfl, hb, hno⟩ := hrel
    have hbw : Below w.heap.size w wr := HB0.out.trans (hb.mono (by omega))
    have c1 := (hbw.cell (p := ⟨H, 0, none⟩) hHl).trans c0
    have HBW := Lib.hid hbw
    have HNO := Lib.hid hno
    have HBX := Lib.hid hb
    by_cases hlt : k < os.length
    · obtain ⟨g, rfl, hg, hobs⟩ := HROW.out (by omega)
      obtain ⟨d1, d2⟩ := hobs k hlt
      have d1 := (hbw.cell (p := ⟨g, k * 2, none⟩) hg).trans d1
      have d2 := (hbw.cell (p := ⟨g, k * 2 + 1, none⟩) hg).trans d2
      have x1 := (hb.cell (p := ⟨w.heap.size, 0, none⟩) (by show w.heap.size < _; omega)).trans HX.out.1
      have x2 := (hb.cell (p := ⟨w.heap.size, 1, none⟩) (by show w.heap.size < _; omega)).trans HX.out.2
      obtain ⟨o, ho⟩ : ∃ o, os.getD k (0, 0) = o := ⟨_, rfl⟩
      obtain ⟨p, q⟩ := o
      rw [ho] at d1 d2
      have HOB := Lib.hid ho
      clear hobs ho hb hbw hno
      by_cases e1 : p = x
      · subst e1
        by_cases e2 : q = y
        · subst e2
          go_wp2
          go_quiet (fail)
          go_wp2
          go_ret
          exact ⟨by rw [findV_of hlt HOB.out HNO.out]; rfl, bdrewN HBW.out _⟩
        · have hq : (q == y) = false := by simpa using e2
          go_wp2
          go_quiet (fail)
          go_wp2
          go_roundw
          case rel =>
            refine ⟨k + 1, by omega, by go_num, bdrewN HBX.out _, fun j hj => ?_⟩
            by_cases e : j = k
            · rw [e, HOB.out]; intro e3; injection e3 with _ e3; exact e2 e3
            · exact HNO.out j (by omega)
          case measure => simp [intOf]; omega
      · have hp : (p == x) = false := by simpa using e1
        go_wp2
        go_quiet (fail)
        go_wp2
        go_roundw
        case rel =>
          refine ⟨k + 1, by omega, by go_num, bdrewN HBX.out _, fun j hj => ?_⟩
          by_cases e : j = k
          · rw [e, HOB.out]; intro e3; injection e3 with e3 _; exact e1 e3
          · exact HNO.out j (by omega)
        case measure => simp [intOf]; omega
    · obtain rfl : k = os.length := by omega
      clear hb hbw hno
      go_wp2
      go_ret
      exact ⟨by rw [findV_none HNO.out]; rfl, HBW.out⟩
end Go.Proofs.Ytijhoiheieighaa
