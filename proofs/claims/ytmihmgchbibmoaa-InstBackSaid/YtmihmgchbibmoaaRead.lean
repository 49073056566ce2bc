/-
  Proved here: Read of package inst tells the instructions of a code's bytes, or EINVAL. Conditions: none but that the bytes fit.
-/
import Derived.Test.YtmihmgchbibmoaaChunk
import Derived.Test.YtmihmgchbibmoaaRefBytes
import Derived.Maps.AppendAt
namespace Go.Proofs.Ytmihmgchbibmoaa
open Go.RowKit Go.Shelf
attribute [local go_sem] Oper.semAt_some

/-- The instruction of a piece; the instructions that bytes have: k of them. -/
def pieceOf (zs : List Int) (j : Nat) : Ins := insOf (zs.drop (8 * j)) 0
def insList (zs : List Int) (k : Nat) : List Ins := (List.range k).map (pieceOf zs)
theorem insList_length (zs : List Int) (k : Nat) : (insList zs k).length = k := by simp [insList]
/-- An instruction's five cells; those of instructions. -/
def Ins.cells (x : Ins) : List Value := [.int .u8 x.op, .int .u8 x.dst, .int .u8 x.src, .int .i16 x.off, .int .i32 x.imm]
def cellsOf (l : List Ins) : List Value := l.flatMap Ins.cells
theorem cellsOf_snoc (l : List Ins) (x : Ins) : cellsOf (l ++ [x]) = cellsOf l ++ x.cells := by simp [cellsOf]
theorem Ins.cells_one (x : Ins) : ∀ u ∈ x.cells, u.oneCell' = true := by
  intro u hu
  simp only [Ins.cells, List.mem_cons, List.not_mem_nil, or_false] at hu
  rcases hu with rfl | rfl | rfl | rfl | rfl <;> rfl
theorem ins_info : (Try.prog.info? 36).map (fun i => (i.zero, i.size, i.bytes)) = some (some (.agg #[.int .u8 0, .int .u8 0, .int .u8 0, .int .i16 0, .int .i32 0]), 5, 12) := by kernel_rfl

/-- Room for instructions. -/
def roomCells (n : Nat) : Array Value := madeCells #[.int .u8 0, .int .u8 0, .int .u8 0, .int .i16 0, .int .i32 0] (n * 5)
theorem run_room (n : Nat) (h : n ≤ 100000) (w : World) :
    (Instr.makeSlice 22 (.int .i64 0) (.int .i64 n)).run Try.prog w = .ok (.slice (some ⟨w.heap.size, 0, none⟩) 0 n) (w.alloc (.cells (roomCells n) 36)) := by
  obtain ⟨i0, hi0, hz0, hz1, hz2⟩ := info_parts ins_info
  have hr := run_make (P := Try.prog) w 22 36 i0 _ Try.underlying22 hi0 hz0 .i64 .i64 0 n (by omega) (by omega) (by rw [hz2]; omega) (by omega)
  simp only [Int.toNat_natCast, hz1] at hr
  exact hr
theorem room_owns (w : World) (n : Nat) (h : n ≤ 100000) : (w.alloc (.cells (roomCells n) 36)).ownsRow w.heap.size 36 5 (.slice (some ⟨w.heap.size, 0, none⟩) 0 n) 0 [] :=
  ⟨rfl, .inr ⟨w.heap.size, n, roomCells n, rfl, Nat.le_refl _, heap_alloc_new w _, Nat.zero_le _, by unfold maxLen; omega, size_madeCells _ _, rfl⟩⟩

theorem read_piece (g off N j : Nat) (zs : List Int) (w : World) (x : Ins) (hj : j < N) (hr : RowAt w g off (8 * N) zs) (hz : BytesIn zs) (hx : pieceOf zs j = x) :
    Calls Try.prog 18 #[.slice (some ⟨g, off + 8 * j, none⟩) 8 8] w fun e w' => e = .returned (.agg #[.int .u8 x.op, .int .u8 x.dst, .int .u8 x.src, .int .i16 x.off, .int .i32 x.imm]) ∧ Below w.heap.size w w' := by
  subst hx
  refine read_one g (off + 8 * j) 8 8 (zs.drop (8 * j)) w (by omega) (by unfold maxLen; omega) (fun i hi => ?_) (fun i => ?_)
  · have := hr (8 * j + i) (by omega)
    rw [List.getD_eq_getElem?_getD, List.getElem?_drop, ← List.getD_eq_getElem?_getD, ← this]
    congr 2
    omega
  · have := hz (8 * j + i)
    rw [List.getD_eq_getElem?_getD, List.getElem?_drop, ← List.getD_eq_getElem?_getD]
    exact this

/-- What an append of one instruction, and the store of its result into the variable's box, leaves. -/
structure Appended (W W4 : World) (n B : Nat) (v v' : Value) (k : Nat) (xs : List Value) (x : Ins) : Prop where
  box : Boxed W4 B 22 v'
  row : W4.ownsRow n 36 5 v' (k + 1) (xs ++ x.cells)
  others : KeepsOthers W W4
  below : Below n W W4
  blocks : ∀ b, b < W.heap.size → b ≠ B → some b ≠ v.ownBlock → W4.heap[b]? = W.heap[b]?
/-- The builtin append, veiled: the walk runs it by a fact of ours. -/
def appendV (ats : Array TypeId) (ty : TypeId) (args : Array Value) : Sem Value := Builtin.append_ ats ty args
theorem append_veil (ats : Array TypeId) (ty : TypeId) (args : Array Value) : Builtin.append_ ats ty args = appendV ats ty args := rfl
theorem append_one {W : World} {n B : Nat} {v : Value} {k : Nat} {xs : List Value} (x : Ins) (hv : Boxed W B 22 v) (hrow : W.ownsRow n 36 5 v k xs) (hn : n ≤ W.heap.size) (hB : n ≤ B) (hk : k ≤ 1000) :
    ∃ g' cap' W3, (appendV #[22, 22] 22 #[v, .slice (some ⟨W.heap.size, 0, none⟩) 1 1]).run Try.prog (W.alloc (.cells #[.int .u8 x.op, .int .u8 x.dst, .int .u8 x.src, .int .i16 x.off, .int .i32 x.imm] 36)) =
        .ok (.slice (some ⟨g', 0, none⟩) (k + 1) cap') W3 ∧ W3.cell? ⟨B, 0, none⟩ = some v ∧ W3.frozen? ⟨B, 0, none⟩ = false ∧
      Appended W (W3.setCell ⟨B, 0, none⟩ (.slice (some ⟨g', 0, none⟩) (k + 1) cap')) n B v (.slice (some ⟨g', 0, none⟩) (k + 1) cap') k xs x := by
  obtain ⟨i0, hi0, hz0, hz1, hz2⟩ := info_parts ins_info
  obtain ⟨v', W3, hrun, hown, hgr, -, -⟩ := run_append_own_at (P := Try.prog) (W.alloc (.cells #[.int .u8 x.op, .int .u8 x.dst, .int .u8 x.src, .int .i16 x.off, .int .i32 x.imm] 36)) n 22 22 36 i0 _ 5 12
    Try.underlying22 hi0 hz0 hz1 hz2 rfl (by omega) v k xs (hrow.alloc _) ⟨W.heap.size, 0, none⟩ 1 1 x.cells rfl
    (fun j u hu => by
      have e : (W.alloc (.cells #[.int .u8 x.op, .int .u8 x.dst, .int .u8 x.src, .int .i16 x.off, .int .i32 x.imm] 36)).heap[W.heap.size]? = some (.cells x.cells.toArray 36) := heap_alloc_new W _
      rw [add_lit]
      simp only [World.cell?, e]
      rw [Nat.zero_add]
      simpa using hu) x.cells_one (by unfold maxLen; omega) (by omega) (by simp; omega)
  obtain ⟨g', cap', rfl⟩ := ownsRow_succ hown
  obtain ⟨hv1, hv2, hr2, hk2, hb2⟩ := hv.appended (by decide) hrow hn hB hown hgr
  refine ⟨g', cap', W3, hrun, hv1.cell, hv1.frozen, hv2, hr2, hk2, hb2, fun b hb hne hnr => ?_⟩
  rw [Below.heap_setCell _ _ _ _ hne, hgr.block b (by simp; omega) hnr, Below.heap_alloc _ _ _ hb]

theorem pieces_snoc {W : World} {n : Nat} {v : Value} {N : Nat} {pre : List (Fin N)} {x : Fin N} {zs : List Int} {y : Ins} (hy : pieceOf zs x.1 = y)
    (h : W.ownsRow n 36 5 v (pre.length + 1) (cellsOf (pre.map fun x => pieceOf zs x.1) ++ y.cells)) : W.ownsRow n 36 5 v (pre ++ [x]).length (cellsOf ((pre ++ [x]).map fun x => pieceOf zs x.1)) := by
  subst hy
  rw [List.map_append, List.map_singleton, cellsOf_snoc, List.length_append]
  exact h
theorem pieces_all {W : World} {n : Nat} {v : Value} {N : Nat} {ys : List (Fin N)} {zs : List Int} (hy : ys.map Fin.val = List.range N)
    (h : W.ownsRow n 36 5 v ys.length (cellsOf (ys.map fun x => pieceOf zs x.1))) : W.ownsRow n 36 5 v N (cellsOf (insList zs N)) := by
  have hl : ys.length = N := by have := congrArg List.length hy; simpa using this
  have e : (ys.map fun x => pieceOf zs x.1) = insList zs N := by
    rw [insList, ← hy, List.map_map]
    rfl
  rw [← e]
  rw [hl] at h
  exact h
theorem body_done {W w2 W4 : World} {n B g s m k : Nat} {v v' sv mv : Value} {xs : List Value} {y : Ins} (hb2 : Below W.drew.heap.size W.drew w2) (ha : Appended w2 W4 n B v v' k xs y) (hrow : W.ownsRow n 36 5 v k xs)
    (hs : Boxed W s 24 sv) (hm : Boxed W m 3 mv) (hg : g < n) (hn : n ≤ W.heap.size) (hgB : g ≠ B) (hsB : s ≠ B) (hmB : m ≠ B) :
    KeepsOthers W W4 ∧ Kept g s m W W4 ∧ Boxed W4 s 24 sv ∧ Boxed W4 m 3 mv ∧ Below n W W4 := by
  have hz : W.heap.size ≤ w2.heap.size := hb2.size
  have hb : ∀ i, i < W.heap.size → w2.heap[i]? = W.heap[i]? := hb2.block
  have hsl := hs.lt
  have hml := hm.lt
  have kg : W4.heap[g]? = W.heap[g]? := (ha.blocks g (by omega) hgB (fun e => by have := own_ge hrow g e.symm; omega)).trans (hb g (by omega))
  have ks : W4.heap[s]? = W.heap[s]? := (ha.blocks s (by omega) hsB (hs.not_row (by decide) hrow)).trans (hb s hsl)
  have km : W4.heap[m]? = W.heap[m]? := (ha.blocks m (by omega) hmB (hm.not_row (by decide) hrow)).trans (hb m hml)
  have hbw : Below n W w2 := Below.mono (w := W) ⟨hb2.os, hb2.tape, hb2.output, hb2.size, hb2.block⟩ hn
  exact ⟨KeepsOthers.trans ⟨hz, fun i o hi _ => (hb i (Array.getElem?_eq_some_iff.1 hi).1).trans hi⟩ ha.others, ⟨kg, ks, km⟩, ks.trans hs, km.trans hm, hbw.trans ha.below⟩
attribute [local go_sem ↓] append_veil
theorem own_none (v : Value) : v.ownBlock = none ∨ v.ownBlock ≠ none := by
  cases h : v.ownBlock <;> simp
theorem grown_of_below {W w : World} (h : Below W.heap.size W w) : W.grownBy w none := ⟨h.os, h.tape, h.output, h.size, fun i hi _ => h.block i hi⟩
set_option maxRecDepth 100000 in
set_option maxHeartbeats 2000000 in
theorem read_good (g off cap N : Nat) (zs : List Int) (w : World) (h1 : 1 ≤ N) (h64 : N ≤ 64) (hlc : 8 * N ≤ cap) (hcm : cap ≤ maxLen) (hr : RowAt w g off (8 * N) zs) (hz : BytesIn zs) :
    Calls Try.prog 10 #[.slice (some ⟨g, off, none⟩) (8 * N) cap] w fun e w' => ∃ v, e = .returned (.tuple #[v, .int .i64 0]) ∧ w'.ownsRow w.heap.size 36 5 v N (cellsOf (insList zs N)) ∧ Below w.heap.size w w' := by
  refine (callsIn_wide (n := 3)).1 ?_
  have hgw : g < w.heap.size := World.block_lt_of_cell? w _ (hr 0 (by omega))
  have hmk := run_room N (by omega)
  have q3 : ((8 * N : Nat) : Int) / 8 = N := by omega
  have q4 : ((8 * N : Nat) : Int) % 8 = 0 := by omega
  have d1 : decide ((N : Int) < 1) = false := decide_eq_false (by omega)
  have d2 : decide ((64 : Int) < N) = false := decide_eq_false (by omega)
  refine callsIn_of_wp_marks Try.func10 rfl trivial ?_ rfl
  simp only [Try.ntmps10, List.size_toArray, List.length_cons, List.length_nil, Nat.reduceAdd, Nat.reduceSub, Array.replicate_succ, Array.replicate_zero, List.push_toArray, List.append_toArray, List.nil_append, List.cons_append]
  gi_wp2_with (refine ⟨trivial, ?_⟩; gi_at_call 17; refine (chunk_in Fence.wide _ trivial rfl _ _ _ _).mono ?_; rintro e w' ⟨rfl, rfl⟩)
  clear hmk q3 q4 d1 d2
  obtain ⟨W0, hW0⟩ : ∃ W0, (((w.alloc (.cells (roomCells N) 36)).alloc (.cells #[.slice (some ⟨w.heap.size, 0, none⟩) 0 N] 22)).alloc (.cells #[.slice (some ⟨g, off, none⟩) (8 * N) cap] 24)).alloc (.cells #[.int .i64 8] 3) = W0 := ⟨_, rfl⟩
  rw [hW0]
  have hsz : W0.heap.size = w.heap.size + 1 + 1 + 1 + 1 := by rw [← hW0]; simp
  have hB0 : Below w.heap.size w W0 := by rw [← hW0]; exact ((((Below.refl _ w).alloc (Nat.le_refl _) _).alloc (by simp) _).alloc (by simp; omega) _).alloc (by simp; omega) _
  have bL : Boxed W0 (w.heap.size + 1) 22 (.slice (some ⟨w.heap.size, 0, none⟩) 0 N) := by
    have := ((Boxed.new (w.alloc (.cells (roomCells N) 36)) 22 (.slice (some ⟨w.heap.size, 0, none⟩) 0 N)).alloc (.cells #[.slice (some ⟨g, off, none⟩) (8 * N) cap] 24)).alloc (.cells #[.int .i64 8] 3)
    rw [hW0] at this
    simpa using this
  have bS : Boxed W0 (w.heap.size + 1 + 1) 24 (.slice (some ⟨g, off, none⟩) (8 * N) cap) := by
    have := (Boxed.new ((w.alloc (.cells (roomCells N) 36)).alloc (.cells #[.slice (some ⟨w.heap.size, 0, none⟩) 0 N] 22)) 24 (.slice (some ⟨g, off, none⟩) (8 * N) cap)).alloc (.cells #[.int .i64 8] 3)
    rw [hW0] at this
    simpa using this
  have bM : Boxed W0 (w.heap.size + 1 + 1 + 1) 3 (.int .i64 8) := by
    have := Boxed.new (((w.alloc (.cells (roomCells N) 36)).alloc (.cells #[.slice (some ⟨w.heap.size, 0, none⟩) 0 N] 22)).alloc (.cells #[.slice (some ⟨g, off, none⟩) (8 * N) cap] 24)) 3 (.int .i64 8)
    rw [hW0] at this
    simpa using this
  have hO0 : W0.ownsRow w.heap.size 36 5 (.slice (some ⟨w.heap.size, 0, none⟩) 0 N) 0 [] := by
    rw [← hW0]; exact (((room_owns w N (by omega)).alloc _).alloc _).alloc _
  clear hW0
  refine wpIn_rangeFunc_ownG rfl (by omega) (gf := 24) (lb := #[.pointer (some ⟨w.heap.size + 1 + 1, 0, none⟩), .pointer (some ⟨w.heap.size + 1 + 1 + 1, 0, none⟩)]) rfl trivial (enters_of Try.func24 (by kernel_rfl) rfl)
    (chunk_stops Fence.wide (3 - 1) trivial rfl (by omega) (w.heap.size + 1 + 1) (w.heap.size + 1 + 1 + 1) g off N cap (by omega) hlc hcm W0 (by omega) (by omega) bS.cell bM.cell) kept_t (kept_b (by omega) (by omega) (by omega)) (Below.refl _ _) (fun _ => rfl)
    (fun pre W => (((∃ v, Boxed W (w.heap.size + 1) 22 v ∧ W.ownsRow w.heap.size 36 5 v pre.length (cellsOf (pre.map fun x => pieceOf zs x.1)) ∧ True) ∧ Boxed W (w.heap.size + 1 + 1) 24 (.slice (some ⟨g, off, none⟩) (8 * N) cap)) ∧ Boxed W (w.heap.size + 1 + 1 + 1) 3 (.int .i64 8)) ∧ Below w.heap.size w W)
    (fun _ _ _ => False)
    (OwnFrom.and (OwnFrom.and (OwnFrom.and (Own.from (holdsRow_own w.heap.size (w.heap.size + 1) 22 36 5 (fun pre : List (Fin N) => pre.length) (fun pre => cellsOf (pre.map fun x => pieceOf zs x.1)) (fun _ _ => True)) _) (Own.from (boxed_own _ _ _) _)) (Own.from (boxed_own _ _ _) _)) (ownFrom_below (Nat.le_refl _) (by omega)))
    (fun _ _ _ _ _ hs _ _ => hs)
    ⟨⟨⟨⟨_, bL, hO0, trivial⟩, bS⟩, bM⟩, hB0⟩
    (fun x => { tmps := #[.slice (some ⟨g, off, none⟩) (8 * N) cap, undef, .slice none 0 0, .int .i64 0, .int .i64 N, .pointer (some ⟨w.heap.size + 1, 0, none⟩), .slice (some ⟨g, off + 8 * x.1, none⟩) 8 8,
      .slice (some ⟨g, off, none⟩) (8 * N) cap, .int .i64 (8 * (N : Int)), .int .i64 N, .slice (some ⟨g, off, none⟩) (8 * N) cap, .int .i64 (8 * (N : Int)), .int .i64 0, .bool false, .bool false, .int .i64 N, .bool false, .bool false, .bool false, .int .i64 N, .bool false, .bool false, .int .i64 N,
      .slice (some ⟨w.heap.size, 0, none⟩) 0 N, .slice (some ⟨g, off, none⟩) (8 * N) cap, .func (.func 24) #[] #[.pointer (some ⟨w.heap.size + 1 + 1, 0, none⟩), .pointer (some ⟨w.heap.size + 1 + 1 + 1, 0, none⟩)], .slice (some ⟨g, off + 8 * x.1, none⟩) 8 8, undef, undef, undef, undef, undef, undef], defers := [] }) ?assign ?body ?done ?stop
  case assign =>
    intro l x W K hK
    gi_wp2
    exact hK
  case body =>
    rintro l pre x W ⟨⟨⟨⟨v, hv, hrow, -⟩, hs⟩, hm⟩, hB⟩ hlt
    obtain ⟨y, hy⟩ : ∃ y, pieceOf zs x.1 = y := ⟨_, rfl⟩
    have hc := hv.cell
    have hrw : RowAt W g off (8 * N) zs := fun j hj => (hB.cell (p := ⟨g, off + j, none⟩) hgw).trans (hr j hj)
    have hmx : Try.prog.follows .mixedOrders = true := by kernel_rfl
    have hn1 : 1 ≤ 3 - 1 - 1 := by omega
    have hW := hB.size
    have HY := Lib.hid hy
    have HV := Lib.hid hv
    have HR := Lib.hid hrow
    have HS := Lib.hid hs
    have HM := Lib.hid hm
    have HB := Lib.hid hB
    clear hy hv hrow hs hm hB bL bS bM hO0 hB0 hsz
    gi_wp2
    gi_region_with_o (first
      | (refine ⟨trivial, ?_⟩; gi_at_call 18; refine (CallsIn.inRound l (callsIn_wide.2 (read_piece g off N x.1 zs _ y x.2 (by exact hrw) hz HY.out))).mono ?_; rintro e w2 ⟨rfl, hb2⟩;
          have hz2 : W.heap.size ≤ w2.heap.size := hb2.size;
          have hv2 : Boxed w2 (w.heap.size + 1) 22 v := Boxed.kept (W := W.drew) HV.out (grown_of_below hb2) (by simp);
          have hc2 := hv2.cell;
          have hN2 : ¬ (w.heap.size + 1 = w2.heap.size) := (by have := hv2.lt; omega);
          have hN3 : ¬ (w2.heap.size = w.heap.size + 1) := (by have := hv2.lt; omega);
          have hc2a := (hv2.alloc (.cells #[.int .u8 y.op, .int .u8 y.dst, .int .u8 y.src, .int .i16 y.off, .int .i32 y.imm] 36)).cell;
          obtain ⟨g3, cap3, W3, hrun3, hc3, hf3, ha3⟩ := append_one y hv2 (World.ownsRow.kept (w := W.drew) HR.out (grown_of_below hb2) (own_none v)) (by omega) (by omega) (by omega);
          have HA3 := Lib.hid ha3; have HB2 := Lib.hid hb2; clear ha3 hb2 hv2))
    all_goals
      gi_wp2
      obtain ⟨ko, kk, kS, kM, kb⟩ := body_done HB2.out HA3.out HR.out HS.out HM.out hgw hW (by omega) (by omega) (by omega)
      exact ⟨ko.from _, kk, ⟨⟨⟨_, HA3.out.box, pieces_snoc HY.out HA3.out.row, trivial⟩, kS⟩, kM⟩, HB.out.trans kb⟩
  case done =>
    rintro D ys W hD hys ⟨⟨⟨⟨v, hv, hrow, -⟩, -⟩, -⟩, hB⟩ hK
    have hc := hv.cell
    have hrow2 : W.ownsRow w.heap.size 36 5 v N (cellsOf (insList zs N)) := pieces_all hys hrow
    have HR := Lib.hid hrow2
    have HB := Lib.hid hB
    have HK := Lib.hid hK
    have HD := Lib.hid (show w.heap.size ≤ D by omega)
    clear hrow hrow2 hB hys hsz hB0 bL bS bM hO0 hD hv
    gi_wp2
    refine ⟨by simp, .inl ⟨_, _, rfl, run_takeDeferred HK.out, ?_⟩⟩
    exact ⟨_, results_tmp2 rfl _ _ _, v, rfl, ownsRow_putObj HR.out _ HK.out rfl, HB.out.trans (belowK_b (w := w) (Nat.le_refl _) W D _ _ HD.out HK.out rfl rfl)⟩
  case stop =>
    rintro D c pre W _ _ h _
    exact h.elim
end Go.Proofs.Ytmihmgchbibmoaa
