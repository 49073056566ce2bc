import Derived.Test.YthmibmofdmlgaaaGreatDoorHParts
import Derived.Laws.MakeOwn
import Derived.Test.YthmibmofdmlgaaaGreatDoorG02
import Derived.Test.YthmibmofdmlgaaaGreatDoorHWords
import Derived.Maps.RangeWalk
import Derived.Maps.Views
import Derived.Maps.OwnSet
/-
  Proved here: a row of texts of the call's own: made, written, kept, joined. Conditions: as each lemma says.
-/
namespace Go.Proofs.YthmibmofdmlgaaaGreatDoor
open Go.RowKit

/-- Texts in a row of the call's own. -/
structure RowS (w0 w : World) (g : Nat) (L : List (List UInt8)) : Prop where
  at_ : w0.heap.size ≤ g
  lt : g < w.heap.size
  row : ∀ j, j < L.length → w.cell? ⟨g, j, none⟩ = some (.string (S (L.getD j [])))
  free : ∀ j, w.frozen? ⟨g, j, none⟩ = false
  below : Below w0.heap.size w0 w
theorem RowS.on {w0 w w' : World} {g : Nat} {L : List (List UInt8)} (h : RowS w0 w g L) (hb : Below w.heap.size w w') : RowS w0 w' g L where
  at_ := h.at_
  lt := Nat.lt_of_lt_of_le h.lt hb.size
  row := fun j hj => stays hb (h.row j hj)
  free := fun j => (hb.frozen (p := ⟨g, j, none⟩) h.lt).trans (h.free j)
  below := h.below.trans (hb.mono h.below.size)
theorem str_info : (Tryz.prog.info? 9).map (fun i => (i.zero, i.size, i.bytes)) = some (some (.string ⟨#[]⟩), 1, 16) := by kernel_rfl
def blankCells (n : Nat) : Array Value := madeCells #[.string ⟨#[]⟩] n
theorem blank_at (n j : Nat) (h : j < n) : (blankCells n)[j]? = some (.string (S [])) := by
  have e : (Array.range n)[j]? = some j := by simp [h]
  simp only [blankCells, madeCells, Array.getElem?_map, e, Option.map_some]
  simp [Nat.mod_one]
  rfl
theorem run_blanks (n : Nat) (h : n ≤ 100000) (w : World) :
    (Instr.makeSlice 60 (.int .i64 n) (.int .i64 n)).run Tryz.prog w = .ok (.slice (some ⟨w.heap.size, 0, none⟩) n n) (w.alloc (.cells (blankCells n) 9)) := by
  obtain ⟨i0, hi0, hz0, hz1, hz2⟩ := info_parts str_info
  have hr := run_make (P := Tryz.prog) w 60 9 i0 _ Tryz.underlying60 hi0 hz0 .i64 .i64 n n (by omega) (by omega) (by rw [hz2]; omega) (by omega)
  simp only [Int.toNat_natCast, hz1, Nat.mul_one] at hr
  exact hr
theorem blank_row (w0 w : World) (hb : Below w0.heap.size w0 w) (n : Nat) : RowS w0 (w.alloc (.cells (blankCells n) 9)) w.heap.size (List.replicate n []) where
  at_ := hb.size
  lt := by simp
  row := fun j hj => by
    have hj' : j < n := by simpa using hj
    have h : (w.alloc (.cells (blankCells n) 9)).heap[w.heap.size]? = some (.cells (blankCells n) 9) := (MapKept.heap_alloc w _).1
    unfold World.cell?
    simp only [h]
    rw [List.getD_eq_getElem?_getD, List.getElem?_replicate, if_pos hj']
    exact blank_at n j hj'
  free := fun j => by
    have h : (w.alloc (.cells (blankCells n) 9)).heap[w.heap.size]? = some (.cells (blankCells n) 9) := (MapKept.heap_alloc w _).1
    unfold World.frozen?
    simp only [h]
    simp
  below := hb.alloc hb.size _
theorem RowS.put {w0 w : World} {g : Nat} {L : List (List UInt8)} (h : RowS w0 w g L) (k : Nat) (hk : k < L.length) (t : List UInt8) : RowS w0 (w.setCell ⟨g, k, none⟩ (.string (S t))) g (L.set k t) where
  at_ := h.at_
  lt := by simpa using h.lt
  row := fun j hj => by
    have hj' : j < L.length := by simpa using hj
    by_cases e : j = k
    · subst e
      rw [List.getD_eq_getElem?_getD, List.getElem?_set_self hj']
      exact World.cell?_setCell_same' w _ _ (by rw [h.row j hj']; rfl)
    · rw [World.cell?_setCell_other _ _ _ _ (by simp), h.row j hj', List.getD_eq_getElem?_getD, List.getD_eq_getElem?_getD, List.getElem?_set_ne (fun h => e h.symm)]
  free := fun j => by simpa using h.free j
  below := h.below.setCell h.at_ _
end Go.Proofs.YthmibmofdmlgaaaGreatDoor

/-
  Proved here: a map whose values are kept as they are: what it has at its keys; a store, a look-up. No Go text is spoken of. Conditions: as each lemma says.
-/
namespace Go.Proofs.YthmibmofdmlgaaaGreatDoor
open Go.RowKit

/-- A value of a struct of a text, a slice and a bool is kept as it is. -/
def wordV (t : List UInt8) (A : Option Addr) (len cap : Nat) (f : Bool) : Value := .agg #[.string (S t), .slice A len cap, .bool f]
/-- Any value is kept as it is. -/
def anyR (v : Value) : Option (DataW Value × List MemPlace) := some (.held v, [])
/-- Parts in a row. -/
def PartsAt (w : World) (A : Option Addr) (ps : List Int) : Prop := ps = [] ∧ A = none ∨ ∃ g off cs fz, A = some ⟨g, off, none⟩ ∧ w.heap[g]? = some (.cells cs 74 fz) ∧ ∀ j, j < ps.length → cs[off + j]? = some (.int .u8 (ps.getD j 0))
theorem PartsAt.keep {w w' : World} {A : Option Addr} {ps : List Int} (h : PartsAt w A ps) (hk : ∀ (g : Nat) (cs : Array Value) (fz : Nat × Nat), w.heap[g]? = some (Obj.cells cs 74 fz) → w'.heap[g]? = some (Obj.cells cs 74 fz)) : PartsAt w' A ps := by
  rcases h with h | ⟨g, off, cs, fz, rfl, hb, hc⟩
  · exact .inl h
  · exact .inr ⟨g, off, cs, fz, rfl, hk g cs fz hb, hc⟩
theorem PartsAt.cell {w : World} {g off : Nat} {ps : List Int} (h : PartsAt w (some ⟨g, off, none⟩) ps) {j : Nat} (hj : j < ps.length) : w.cell? ⟨g, off + j, none⟩ = some (.int .u8 (ps.getD j 0)) := by
  rcases h with ⟨_, h⟩ | ⟨q, o, cs, fz, h, hb, hc⟩
  · cases h
  · cases h
    unfold World.cell?
    simp only [hb]
    exact hc j hj
theorem PartsAt.lt {w : World} {g off : Nat} {ps : List Int} (h : PartsAt w (some ⟨g, off, none⟩) ps) : g < w.heap.size := by
  rcases h with ⟨_, h⟩ | ⟨q, o, cs, fz, h, hb, hc⟩
  · cases h
  · cases h
    exact (Array.getElem?_eq_some_iff.1 hb).1
theorem PartsAt.grown {w w' : World} {A : Option Addr} {ps : List Int} {row : Option Nat} (h : PartsAt w A ps) (hg : w.grownBy w' row) (hr : ∀ b, row = some b → ∃ o, w.heap[b]? = some o ∧ ∀ c t f, o ≠ .cells c t f) : PartsAt w' A ps :=
  h.keep fun g cs fz hb => by
    have hl : g < w.heap.size := (Array.getElem?_eq_some_iff.1 hb).1
    have hne : some g ≠ row := by
      intro e
      obtain ⟨o, ho, hn⟩ := hr g e.symm
      rw [ho] at hb
      exact hn _ _ _ (Option.some.inj hb)
    rw [hg.block g hl hne]
    exact hb
/-- Block b of w is a map over opcodes with at most n entries, which has what the table says: the words, their parts in rows. -/
def WordsIn (w : World) (b n : Nat) (T : List (Int × Wd)) : Prop := ∃ D : DataW Value, w.ownsMap Tryz.prog 5 anyR b n D ∧ (∀ k, 0 ≤ k → k ≤ 255 → look T k = none → Maps.has D (.int .u8 k) = false) ∧
  (∀ k d, 0 ≤ k → k ≤ 255 → look T k = some d → ∃ A cap, PartsAt w A d.2.1 ∧ ∀ zd, D.atKey (.int .u8 k) zd = .held (wordV d.1 A d.2.1.length cap d.2.2))
theorem WordsIn.lt {w : World} {b n : Nat} {T : List (Int × Wd)} (h : WordsIn w b n T) : b < w.heap.size := by
  obtain ⟨D, h, _⟩ := h
  exact h.lt
theorem WordsIn.kept {w w' : World} {b n : Nat} {T : List (Int × Wd)} {row : Option Nat} (h : WordsIn w b n T) (hg : w.grownBy w' row) (hb : some b ≠ row) (hr : ∀ g, row = some g → ∃ o, w.heap[g]? = some o ∧ ∀ c t f, o ≠ .cells c t f) : WordsIn w' b n T := by
  obtain ⟨D, h, h0, h1⟩ := h
  refine ⟨D, h.kept hg hb, h0, fun k d k0 k1 hk => ?_⟩
  obtain ⟨A, cap, hp, hv⟩ := h1 k d k0 k1 hk
  exact ⟨A, cap, hp.grown hg hr, hv⟩
theorem WordsIn.none {w w' : World} {b n : Nat} {T : List (Int × Wd)} (h : WordsIn w b n T) (hg : w.grownBy w' none) : WordsIn w' b n T := h.kept hg (by simp) (by simp)
theorem WordsIn.alloc {w : World} {b n : Nat} {T : List (Int × Wd)} (h : WordsIn w b n T) (o : Obj) : WordsIn (w.alloc o) b n T := h.none (World.grownBy_alloc w o _)
theorem keyed5 : Maps.Keyed Tryz.prog 5 := Maps.int_keyed Tryz.underlying5
theorem key5 {k : Int} (h0 : 0 ≤ k) (h1 : k ≤ 255) : keyOf Tryz.prog 5 (.int .u8 k) = some (.int .u8 k) := Maps.keyOf_int_mk Tryz.underlying5 (by simp [Lit.wf, IntKind.min, IntKind.max, IntKind.bits, IntKind.signed]; omega)
theorem look_cons (T : List (Int × Wd)) (k j : Int) (d : Wd) : look ((k, d) :: T) j = if k = j then some d else look T j := by
  unfold look
  rw [List.find?_cons]
  by_cases h : k = j
  · simp [h]
  · have e : (k == j) = false := by simpa using h
    rw [if_neg h]
    simp only [e]
theorem lit_u8 {a b : Int} (h : Lit.int .u8 a = Lit.int .u8 b) : a = b := by cases h; rfl
/-- A store of a word. -/
theorem put_word (w : World) (b n : Nat) (T : List (Int × Wd)) (op : Int) (t : List UInt8) (A : Option Addr) (ps : List Int) (len cap : Nat) (f : Bool) (h : WordsIn w b n T) (h0 : 0 ≤ op) (h1 : op ≤ 255) (hp : PartsAt w A ps) (hl : ps.length = len) (hn : n < 1000) :
    ∃ w', (Instr.mapUpdate 49 (.map (some b)) (.int .u8 op) (.agg #[.string (S t), .slice A len cap, .bool f])).run Tryz.prog w = .ok () w' ∧ WordsIn w' b (n + 1) ((op, t, ps, f) :: T) ∧ w.grownBy w' (some b) := by
  subst hl
  obtain ⟨D, hown, g0, g1⟩ := h
  have hobj : ∃ o, w.heap[b]? = some o ∧ ∀ c t f, o ≠ .cells c t f := by
    obtain ⟨es, clock, hb, _⟩ := hown
    exact ⟨_, hb, by simp⟩
  obtain ⟨w', hrun, hown', hg⟩ := hown.update (kl := .int .u8 op) (d := .held (wordV t A ps.length cap f)) (ps := []) keyed5 Tryz.underlying49 (by unfold maxLen; omega) (key5 h0 h1) (val := wordV t A ps.length cap f) rfl
  have hmap : Maps.IsMap D := hown.isMap
  refine ⟨w', hrun, ⟨_, hown', fun k k0 k1 hk => ?_, fun k d k0 k1 hk => ?_⟩, hg⟩
  · rw [look_cons] at hk
    by_cases e : op = k
    · simp [e] at hk
    · rw [if_neg e] at hk
      rw [Maps.has_put_other (fun h => e (lit_u8 h).symm)]
      exact g0 k k0 k1 hk
  · rw [look_cons] at hk
    by_cases e : op = k
    · subst e
      rw [if_pos rfl] at hk
      cases hk
      exact ⟨A, cap, hp.grown hg (fun g hg' => by cases hg'; exact hobj), fun zd => Maps.atKey_put_same hmap (keyed5.key (key5 h0 h1)) _ _⟩
    · rw [if_neg e] at hk
      obtain ⟨A', cap', hp', hv'⟩ := g1 k d k0 k1 hk
      refine ⟨A', cap', hp'.grown hg (fun g hg' => by cases hg'; exact hobj), fun zd => ?_⟩
      rw [Maps.atKey_put_other (fun h => e (lit_u8 h).symm)]
      exact hv' zd
end Go.Proofs.YthmibmofdmlgaaaGreatDoor

/-
  Proved here: operations and conditions of package asm make new rows of the words' operations. Conditions: none.
-/
namespace Go.Proofs.YthmibmofdmlgaaaGreatDoor
open Go.RowKit

/-- A row of operations and texts. -/
def namedCells (L : List (Int × List UInt8)) : Array Value := (L.flatMap fun o => [.int .u8 o.1, .string (S o.2)]).toArray
def NamedAt (w : World) (g : Nat) (L : List (Int × List UInt8)) : Prop := ∀ j, j < L.length → w.cell? ⟨g, j * 2, none⟩ = some (.int .u8 (L.getD j (0, [])).1) ∧ w.cell? ⟨g, j * 2 + 1, none⟩ = some (.string (S (L.getD j (0, [])).2))
set_option maxRecDepth 100000 in
theorem operations_row (w : World) : Calls Tryz.prog 37 #[] w (Ret (.slice (some ⟨w.heap.size, 0, none⟩) 12 12) (w.alloc (.cells (namedCells opsL) 81))) := by
  unfold Ret
  go_enter Tryz.func37, Tryz.ntmps37
  go_wp2
  go_ret
  exact ⟨rfl, rfl⟩
set_option maxRecDepth 100000 in
theorem conditions_row (w : World) : Calls Tryz.prog 39 #[] w (Ret (.slice (some ⟨w.heap.size, 0, none⟩) 11 11) (w.alloc (.cells (namedCells condL) 81))) := by
  unfold Ret
  go_enter Tryz.func39, Tryz.ntmps39
  go_wp2
  go_ret
  exact ⟨rfl, rfl⟩
theorem named_cells : ∀ (L : List (Int × List UInt8)) (j : Nat), j < L.length → (L.flatMap fun o => [Value.int .u8 o.1, .string (S o.2)])[j * 2]? = some (.int .u8 (L.getD j (0, [])).1) ∧ (L.flatMap fun o => [Value.int .u8 o.1, .string (S o.2)])[j * 2 + 1]? = some (.string (S (L.getD j (0, [])).2))
  | o :: L, 0, _ => by simp
  | o :: L, j + 1, h => by
    have ih := named_cells L j (by simpa using h)
    have e1 : (j + 1) * 2 = j * 2 + 1 + 1 := by omega
    simp only [List.flatMap_cons, List.cons_append, List.nil_append, e1, List.getElem?_cons_succ, List.getD_cons_succ]
    exact ih
theorem named_new (w : World) (L : List (Int × List UInt8)) : NamedAt (w.alloc (.cells (namedCells L) 81)) w.heap.size L := by
  intro j hj
  have hb := (MapKept.heap_alloc w (.cells (namedCells L) 81)).1
  unfold World.cell?
  simp only [hb]
  obtain ⟨h1, h2⟩ := named_cells L j hj
  simp only [namedCells, List.getElem?_toArray]
  exact ⟨h1, h2⟩
theorem NamedAt.grown {w w' : World} {g : Nat} {L : List (Int × List UInt8)} {row : Option Nat} (h : NamedAt w g L) (hg : w.grownBy w' row) (hr : some g ≠ row) : NamedAt w' g L :=
  fun j hj => ⟨hg.cell (h j hj).1 hr, hg.cell (h j hj).2 hr⟩
end Go.Proofs.YthmibmofdmlgaaaGreatDoor

/-
  Proved here: withReg and addBoth of package asm: what they return, and what a map has behind them. Conditions: the opcode is a byte; the map is one of words.
-/
namespace Go.Proofs.YthmibmofdmlgaaaGreatDoor
open Go.RowKit

theorem with_reg (op : Int) (w : World) : Calls Tryz.prog 54 #[.int .u8 op] w (Ret (.int .u8 (wreg op)) w) := by
  unfold Ret
  go_enter Tryz.func54, Tryz.ntmps54
  go_wp2
  all_goals
    go_ret
    exact ⟨ret_u8 (by simp_all [wreg]), rfl⟩
theorem wreg_bd : ∀ n : Fin 256, decide (0 ≤ wreg (n.val : Int) ∧ wreg (n.val : Int) ≤ 255) = true := by decide +kernel
theorem wreg_in {op : Int} (h0 : 0 ≤ op) (h1 : op ≤ 255) : 0 ≤ wreg op ∧ wreg op ≤ 255 := of_decide_eq_true (of_table (f := fun op => decide (0 ≤ wreg op ∧ wreg op ≤ 255)) (g := fun _ => true) wreg_bd h0 h1)

theorem no_cells {w : World} {b n : Nat} {T : List (Int × Wd)} (h : WordsIn w b n T) : ∀ g, some b = some g → ∃ o, w.heap[g]? = some o ∧ ∀ c t f, o ≠ .cells c t f := by
  obtain ⟨D, ⟨es, clock, hb, _⟩, _⟩ := h
  intro g hg
  cases hg
  exact ⟨_, hb, by simp⟩
theorem add_both (w : World) (b n : Nat) (T : List (Int × Wd)) (op : Int) (t : List UInt8) (A : Option Addr) (ps : List Int) (len cap : Nat) (h : WordsIn w b n T) (h0 : 0 ≤ op) (h1 : op ≤ 255) (hp : PartsAt w A ps) (hl : ps.length = len) (hn : n + 1 < 1000) :
    Calls Tryz.prog 38 #[.map (some b), .int .u8 op, .string (S t), .slice A len cap] w fun e w' => e = .returned (.tuple #[]) ∧ WordsIn w' b (n + 2) (both T op t ps) ∧ w.grownBy w' (some b) := by
  obtain ⟨w1, r1, i1, g1⟩ := put_word w b n T op t A ps len cap false h h0 h1 hp hl (by omega)
  obtain ⟨q0, q1⟩ := wreg_in h0 h1
  obtain ⟨w2, r2, i2, g2⟩ := put_word w1 b (n + 1) _ (wreg op) t A ps len cap true i1 q0 q1 (hp.grown g1 (no_cells h)) hl hn
  have I2 := Lib.hid i2
  have G := Lib.hid (g1.andThen g2 (fun _ h => .inr h))
  clear i1 i2 g1 g2 h hp hl hn h0 h1 q0 q1
  go_enter Tryz.func38, Tryz.ntmps38
  go_wp2_with (go_at_call 54; refine (with_reg _ _).mono ?_; rintro e w' ⟨rfl, rfl⟩)
  go_end0
  exact ⟨rfl, I2.out, G.out⟩
end Go.Proofs.YthmibmofdmlgaaaGreatDoor
