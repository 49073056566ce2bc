import Derived.Test.YthmibmofdmlgaaaGreatDoorG12
import Derived.Test.YthmibmofdmlgaaaGreatDoorHChunks
import Derived.Test.YthmibmofdmlgaaaGreatDoorHByWalk
/-
  Proved here: what a line of a code is read as; what the loop of codeOf keeps. Conditions: the lines are a code's; the map has the words.
-/
namespace Go.Proofs.YthmibmofdmlgaaaGreatDoor
open Go.RowKit
set_option linter.unusedVariables false

/-- No line has a newline in it. -/
theorem join_plain (c : UInt8) : ∀ ps : List (List UInt8), (∀ t ∈ ps, c ∉ t) → c ≠ 44 → c ≠ 32 → c ∉ Lib.join ps [44, 32]
  | [], _, _, _ => by simp [Lib.join, List.intercalate]
  | [x], h, _, _ => by rw [Lib.join_one]; exact h x (by simp)
  | x :: y :: r, h, h1, h2 => by
    have ih := join_plain c (y :: r) (fun t ht => h t (List.mem_cons_of_mem _ ht)) h1 h2
    rw [join_two]
    intro hc
    rcases List.mem_append.1 hc with hc | hc
    · exact h x (by simp) hc
    · rcases List.mem_append.1 hc with hc | hc
      · simp at hc
        rcases hc with rfl | rfl
        · exact h1 rfl
        · exact h2 rfl
      · exact ih hc
theorem line_plain (x : Ins) (n : Int) (hx : x.Fit) (hr : rightI x = true) : (10 : UInt8) ∉ lineT x n (wordI x) := by
  have hw := (word_plain x hx hr).2
  unfold lineT
  split
  · exact hw
  · intro hc
    rcases List.mem_append.1 hc with hc | hc
    · exact hw hc
    · rcases List.mem_cons.1 hc with hc | hc
      · cases hc
      · refine join_plain 10 _ (fun t ht => ?_) (by decide) (by decide) hc
        obtain ⟨p, _, rfl⟩ := List.mem_map.1 ht
        exact fun h => (part_plain x n _ p 10 h).1 rfl
theorem good_plain {c : Chunk} (h : GoodC c) : (10 : UInt8) ∉ c.1 := by
  rcases h with ⟨x, rfl, hx, hr, _⟩ | ⟨x, y, rfl, hx, hy, hr, _⟩
  · exact line_plain x _ hx hr
  · exact line_plain x _ hx hr
theorem good_len {c : Chunk} (h : GoodC c) : c.1.length ≤ 500 := by
  rcases h with ⟨x, rfl, hx, hr, _⟩ | ⟨x, y, rfl, hx, hy, hr, _⟩
  · have := hx.imm
    exact lineT_len hx (by omega) (by omega)
  · exact lineT_len hx (wide_bd x y).1 (wide_bd x y).2
/-- What a line is read as. -/
def chunkV (c : Chunk) : Value := match c.2 with
  | [x] => .agg #[.int .u8 x.op, .int .u8 x.dst, .int .u8 x.src, .int .i16 x.off, .int .i32 0, .int .i64 x.imm]
  | x :: y :: _ => .agg #[.int .u8 24, .int .u8 x.dst, .int .u8 x.src, .int .i16 0, .int .i32 0, .int .i64 (wideN x y)]
  | [] => .agg #[]
/-- Returns, and makes memory alone. -/
def GivesV (v : Value) (w : World) (e : Ending) (w' : World) : Prop := e = .returned v ∧ Below w.heap.size w w'
theorem read_chunk {c : Chunk} (h : GoodC c) (W : World) (b n : Nat) (hS : StartsIn W b n) (he : Env W) : Calls Tryz.prog 35 #[.map (some b), .string (S c.1)] W (GivesV (chunkV c) W) := by
  rcases h with ⟨x, rfl, hx, hr, h24, hB⟩ | ⟨x, y, rfl, hx, hy, hr, h24, hn, hB⟩
  · exact read_plain x W b n hS he hx hr h24 hB
  · exact read_wide_line x (wideN x y) W b n hS he hx hr h24 (wide_bd x y).1 (wide_bd x y).2 hB
theorem insts_chunk {c : Chunk} (h : GoodC c) (W : World) : Calls Tryz.prog 36 #[chunkV c] W (InstsP c.2 W) := by
  rcases h with ⟨x, rfl, hx, hr, h24, hB⟩ | ⟨x, y, rfl, hx, hy, hr, h24, hn, hB⟩
  · exact insts_plain x hx h24 W
  · exact insts_wide x y hx hy hr h24 hn W
theorem ins_info : (Tryz.prog.info? 35).map (fun i => (i.zero, i.size, i.bytes)) = some (some (.agg #[.int .u8 0, .int .u8 0, .int .u8 0, .int .i16 0, .int .i32 0]), 5, 12) := by kernel_rfl
def linesA (C : List Chunk) : Array Value := (C.map fun c => Value.string (S c.1)).toArray
/-- What the loop keeps, k lines read. -/
structure Coding (w0 wr : World) (b n g : Nat) (C : List Chunk) (k : Nat) (v : Value) : Prop where
  row : wr.ownsRow w0.heap.size 35 5 v (chunkI (C.take k)).length (cellsOf (chunkI (C.take k)))
  below : Below w0.heap.size w0 wr
  starts : StartsIn wr b n
  lines : wr.heap[g]? = some (.cells (linesA C) 9)
theorem Coding.line {w0 wr : World} {b n g : Nat} {C : List Chunk} {k : Nat} {v : Value} (h : Coding w0 wr b n g C k v) {j : Nat} (hj : j < C.length) : wr.cell? ⟨g, j, none⟩ = some (.string (S (C.getD j ([], [])).1)) := by
  unfold World.cell?
  simp only [h.lines, linesA]
  rw [List.getD_eq_getElem?_getD, List.getElem?_eq_getElem hj]
  simp [hj]
theorem take_chunk (C : List Chunk) (k : Nat) (hk : k < C.length) : chunkI (C.take (k + 1)) = chunkI (C.take k) ++ (C.getD k ([], [])).2 := by
  rw [List.take_succ_eq_append_getElem hk, List.getD_eq_getElem?_getD, List.getElem?_eq_getElem hk]
  unfold chunkI
  rw [List.map_append, List.flatten_append]
  simp
theorem good_two {c : Chunk} (h : GoodC c) : c.2.length ≤ 2 := by
  rcases h with ⟨x, rfl, _⟩ | ⟨x, y, rfl, _⟩ <;> simp
theorem good_getD {C : List Chunk} (h : ∀ c ∈ C, GoodC c) {k : Nat} (hk : k < C.length) : GoodC (C.getD k ([], [])) := by
  rw [List.getD_eq_getElem?_getD, List.getElem?_eq_getElem hk]
  exact h _ (List.getElem_mem hk)
theorem take_count (C : List Chunk) (h : ∀ c ∈ C, GoodC c) : ∀ k, k ≤ C.length → (chunkI (C.take k)).length ≤ 2 * k
  | 0, _ => by simp [chunkI]
  | k + 1, hk => by
    have ih := take_count C h k (by omega)
    rw [take_chunk C k (by omega), List.length_append]
    have := good_two (good_getD h (k := k) (by omega))
    omega
theorem own_cells {w : World} {B n : Nat} {v : Value} {xs : List Value} (h : w.ownsRow B 35 5 v n xs) : ∀ r, v.ownBlock = some r → ∃ cs, w.heap[r]? = some (.cells cs 35) := by
  intro r hr
  rcases h.2 with ⟨rfl, _⟩ | ⟨g, cap, cur, rfl, hb, hgg, _⟩
  · simp [Value.ownBlock] at hr
  · simp [Value.ownBlock] at hr
    subst hr
    exact ⟨cur, hgg⟩
theorem StartsIn.row {w w' : World} {b n : Nat} {row : Option Nat} (h : StartsIn w b n) (hg : w.grownBy w' row) (hr : ∀ r, row = some r → ∃ cs, w.heap[r]? = some (.cells cs 35)) : StartsIn w' b n := by
  obtain ⟨D, h1, h2, h3, A, cap, hp, h4⟩ := h.own
  have hb : some b ≠ row := by
    intro e
    obtain ⟨cs, hc⟩ := hr b e.symm
    obtain ⟨o, ho, hn⟩ := map_block h1
    rw [hc] at ho
    cases ho
    exact hn _ _ _ rfl
  have hk : ∀ (q : Nat) (cs : Array Value) (fz : Nat × Nat), w.heap[q]? = some (Obj.cells cs 74 fz) → w'.heap[q]? = some (Obj.cells cs 74 fz) := by
    intro q cs fz hq
    have hne : some q ≠ row := by
      intro e
      obtain ⟨cs', hc⟩ := hr q e.symm
      rw [hc] at hq
      cases hq
    rw [hg.block q (Array.getElem?_eq_some_iff.1 hq).1 hne]
    exact hq
  refine ⟨D, h1.kept hg hb, h2, fun k t ps k0 k1 hk' => ?_, A, cap, hp.keep hk, h4⟩
  obtain ⟨A, cap, hp, h5⟩ := h3 k t ps k0 k1 hk'
  exact ⟨A, cap, hp.keep hk, h5⟩
theorem Coding.on {w0 wr w' : World} {b n g : Nat} {C : List Chunk} {k : Nat} {v : Value} (h : Coding w0 wr b n g C k v) (hb : Below wr.heap.size wr w') : Coding w0 w' b n g C k v :=
  ⟨h.row.kept (grownB hb) (by cases v.ownBlock <;> simp), h.below.trans (hb.mono h.below.size), h.starts.on hb, (hb.block _ (Array.getElem?_eq_some_iff.1 h.lines).1).trans h.lines⟩
theorem Coding.app {w0 wr w' : World} {b n g : Nat} {C : List Chunk} {k : Nat} {v v' : Value} (h : Coding w0 wr b n g C k v) (hk : k < C.length)
    (hown : w'.ownsRow w0.heap.size 35 5 v' ((chunkI (C.take k)).length + (C.getD k ([], [])).2.length) (cellsOf (chunkI (C.take k)) ++ cellsOf (C.getD k ([], [])).2)) (hg : wr.grownBy w' v.ownBlock) : Coding w0 w' b n g C (k + 1) v' := by
  have hr := own_cells h.row
  refine ⟨?_, h.below.grown hg h.below.size (fun r hr' => (h.row.lt r hr').1), h.starts.row hg hr, ?_⟩
  · rw [take_chunk C k hk, List.length_append, cellsOf_append]
    exact hown
  · have hne : some g ≠ v.ownBlock := by
      intro e
      obtain ⟨cs, hc⟩ := hr g e.symm
      rw [h.lines] at hc
      cases hc
    rw [hg.block g (Array.getElem?_eq_some_iff.1 h.lines).1 hne]
    exact h.lines
theorem trim_call (s J : List UInt8) (hs : Lib.trimSuffix s [10] = J) (hl : s.length ≤ 100000) (W : World) : Calls Tryz.prog 34 #[.string (S s), .string (S [10])] W (Ret (.string (S J)) W) := by
  refine (Tryz.strings_TrimSuffix (S s) (S [10]) W (by rw [S_size]; omega)).mono ?_
  rintro e w' ⟨rfl, rfl⟩
  rw [S_data, S_data, hs]
  exact ⟨rfl, rfl⟩
theorem split_lines (c : Chunk) (C : List Chunk) (hC : ∀ d ∈ c :: C, GoodC d) (W : World) (he : Env W) (hlen : (Lib.join ((c :: C).map Prod.fst) [10]).length ≤ 100000) :
    Calls Tryz.prog 33 #[.string (S (Lib.join ((c :: C).map Prod.fst) [10])), .string (S [10])] W fun e w' => e = .returned (.slice (some ⟨W.heap.size, 0, none⟩) (c :: C).length (c :: C).length) ∧ w' = W.alloc (.cells (linesA (c :: C)) 9) := by
  obtain ⟨m, hm⟩ := he.max
  refine (Tryz.strings_Split (S (Lib.join ((c :: C).map Prod.fst) [10])) (S [10]) m W (by rw [S_size]; omega) hm (by rw [S_size]; decide)).mono ?_
  rintro e w' ⟨rfl, rfl⟩
  obtain ⟨h1, h2⟩ := splitB_pieces 10 [] c.1 (C.map Prod.fst) (by
    intro y hy
    rw [← List.map_cons] at hy
    obtain ⟨d, hd, rfl⟩ := List.mem_map.1 hy
    exact good_plain (hC d hd))
  rw [List.map_cons, h1, h2]
  refine ⟨by simp, ?_⟩
  unfold linesA
  congr 3
  simp
end Go.Proofs.YthmibmofdmlgaaaGreatDoor
