/-
  Proved here: what all of package helpers gives: a new map of descriptions by numbers, each with arguments and kinds of maps of its own in new memory. Conditions: none.
-/
import Derived.Test.YthjdmnbpidoifaaHActs
import Derived.MapKept
import Derived.Great.Walk
import Derived.Outline
import Derived.Deep.DeepCutAuto
namespace Go.Proofs.Ythjdmnbpidoifaa
open Go.RowKit Go.MapKept

/-- The rows that are made, in their order: kind and numbers. -/
def hrowsL : List (IntKind × List Int) := [(.u8, hargL 1), (.i64, hmapL 1), (.u8, hargL 2), (.i64, hmapL 2), (.u8, hargL 3), (.i64, hmapL 3), (.u8, hargL 4), (.i64, hmapL 4), (.u8, hargL 5), (.i64, hmapL 5), (.u8, hargL 6), (.i64, hmapL 6), (.u8, hargL 7), (.i64, hmapL 7), (.u8, hargL 8), (.i64, hmapL 8), (.u8, hargL 9), (.u8, hargL 10), (.u8, hargL 12), (.u8, hargL 13)]
def rowCells (r : IntKind × List Int) : List Value := r.2.map (Value.int r.1)
def rowT (r : IntKind × List Int) : TypeId := match r.1 with
  | .u8 => 5
  | _ => 3
/-- A helper's arguments' place among the rows, counted from 1; 0 without one. -/
def hargP : Nat → Nat
  | 1 => 1
  | 2 => 3
  | 3 => 5
  | 4 => 7
  | 5 => 9
  | 6 => 11
  | 7 => 13
  | 8 => 15
  | 9 => 17
  | 10 => 18
  | 11 => 0
  | 12 => 19
  | 13 => 20
  | _ => 0
def hmapP : Nat → Nat
  | 1 => 2
  | 2 => 4
  | 3 => 6
  | 4 => 8
  | 5 => 10
  | 6 => 12
  | 7 => 14
  | 8 => 16
  | 9 => 0
  | 10 => 0
  | 11 => 0
  | 12 => 0
  | 13 => 0
  | _ => 0
def slA (b p : Nat) : Option Addr := match p with
  | 0 => none
  | p + 1 => some ⟨b + (p + 1), 0, none⟩
def slP (b p n : Nat) : Value := .slice (slA b p) n n
/-- What describes a helper, where the map is block b. -/
def descV (b k : Nat) : Value := .agg #[.string (hnameB k), slP b (hargP k) (hargL k).length, slP b (hmapP k) (hmapL k).length, .int .u8 (retI (hretC k))]
def hEnts (b n : Nat) : Array MapEntry := ((List.range n).map fun i => { key := .int .i64 ((i + 1 : Nat) : Int), val := descV b (i + 1), born := i }).toArray
def setW (B : Nat) (o : Obj) (W : World) : World := { W with heap := W.heap.setIfInBounds B o }
/-- What is there, as k helpers and n rows have been made. -/
structure MadeH (w W : World) (k n : Nat) : Prop where
  size : W.heap.size = w.heap.size + (n + 1)
  below : Below w.heap.size w W
  box : W.heap[w.heap.size]? = some (.map (hEnts w.heap.size k) k)
  row : ∀ j r, j < n → hrowsL[j]? = some r → W.heap[w.heap.size + (j + 1)]? = some (.cells (rowCells r).toArray (rowT r) (0, 0))
theorem madeH_none (w : World) : MadeH w (w.alloc (.map #[] 0)) 0 0 :=
  ⟨by simp, (Below.refl _ _).alloc (Nat.le_refl _) _, (MapKept.heap_alloc w _).1, fun j r hj => by omega⟩
theorem MadeH.push {w W : World} {k n : Nat} (h : MadeH w W k n) {r : IntKind × List Int} (hr : hrowsL[n]? = some r) : MadeH w (W.alloc (.cells (rowCells r).toArray (rowT r))) k (n + 1) := by
  have hs := h.size
  refine ⟨by rw [World.size_alloc, hs]; omega, h.below.alloc (by omega) _, ?_, fun j r' hj hr' => ?_⟩
  · rw [Below.heap_alloc _ _ _ (by omega)]; exact h.box
  · by_cases hjn : j = n
    · subst hjn
      obtain rfl : r = r' := Option.some.inj (hr.symm.trans hr')
      rw [← hs]
      exact heap_alloc_new W _
    · rw [Below.heap_alloc _ _ _ (by omega)]
      exact h.row j r' (by omega) hr'
theorem setW_size (B : Nat) (o : Obj) (W : World) : (setW B o W).heap.size = W.heap.size := by simp [setW]
theorem setW_other (B : Nat) (o : Obj) (W : World) (j : Nat) (h : B ≠ j) : (setW B o W).heap[j]? = W.heap[j]? := by simp [setW, h]
theorem setW_same (B : Nat) (o : Obj) (W : World) (h : B < W.heap.size) : (setW B o W).heap[B]? = some o := by simp [setW, h]
theorem MadeH.put {w W : World} {k k' n : Nat} (h : MadeH w W k n) : MadeH w (setW w.heap.size (.map (hEnts w.heap.size k') k') W) k' n := by
  have hs := h.size
  refine ⟨(setW_size _ _ _).trans hs, h.below.trans ⟨rfl, rfl, rfl, by rw [setW_size]; omega, fun j hj => setW_other _ _ _ _ (by omega)⟩, setW_same _ _ _ (by omega), fun j r hj hr => ?_⟩
  rw [setW_other _ _ _ _ (by omega)]
  exact h.row j r hj hr

theorem ents_new (b k : Nat) (h : k < 13) : Instr.findNow (.int .i64) (.int .i64 ((k + 1 : Nat) : Int)) (hEnts b k).toList 0 = some none := match k, h with
  | 0, _ => by kernel_rfl
  | 1, _ => by kernel_rfl
  | 2, _ => by kernel_rfl
  | 3, _ => by kernel_rfl
  | 4, _ => by kernel_rfl
  | 5, _ => by kernel_rfl
  | 6, _ => by kernel_rfl
  | 7, _ => by kernel_rfl
  | 8, _ => by kernel_rfl
  | 9, _ => by kernel_rfl
  | 10, _ => by kernel_rfl
  | 11, _ => by kernel_rfl
  | 12, _ => by kernel_rfl
  | n + 13, h => absurd h (by omega)
theorem ents_push (b k : Nat) : (hEnts b k).push { key := .int .i64 ((k + 1 : Nat) : Int), val := descV b (k + 1), born := k } = hEnts b (k + 1) := by
  simp [hEnts, List.range_succ]
theorem run_put {w W : World} {k n : Nat} (hb : MadeH w W k n) (hk : k < 13) : (Instr.mapUpdate 37 (.map (some w.heap.size)) (.int .i64 ((k + 1 : Nat) : Int)) (descV w.heap.size (k + 1))).run Try.prog W = .ok () (setW w.heap.size (.map (hEnts w.heap.size (k + 1)) (k + 1)) W) := by
  have hbx := hb.box
  have hk' : IsKey (.int .i64) (.int .i64 ((k + 1 : Nat) : Int)) := rfl
  have hd : Try.prog.underlying 3 = some (.int .i64) := Try.underlying3
  have h1 := ents_new w.heap.size k hk
  have h2 := ents_push w.heap.size k
  simp [Instr.mapUpdate, run_underlying Try.underlying37, MapKept.run_getObj_map hbx, run_checkKey hd hk', run_findKey hd h1, run_setObj_map _ hbx, Result.andThen, -Int.natCast_add]
  rw [h2]
  rfl
/-- A row of numbers. -/
theorem step_row {w W : World} {k n : Nat} (hb : MadeH w W k n) {ops : Array Oper} {rest : List Oper} {o : Oper} {a : Act} {Q : Exit → Act → World → Prop} (hg : o.guard = none)
    (r : IntKind × List Int) (hr : hrowsL[n]? = some r) (t : TypeId) (len : Nat) (parts : Array (Nat × Operand)) (ho : o.op = .buildSlice t len parts) (d : Nat) (hd : o.dst = some d)
    (hu : Try.prog.underlying t = some (.slice (rowT r))) (hsz : (Try.prog.info? (rowT r)).map (·.size) = some 1) (hz : ((Try.prog.info? (rowT r)).bind (·.zero)).isSome = true)
    (hlen : len = r.2.length) (hpos : 0 < len) (hsmall : len ≤ 100) (hparts : parts.toList = (r.2.zipIdx 0).map fun x => (x.2, Operand.const (Value.int r.1 x.1)))
    (h : ∀ W', MadeH w W' k (n + 1) → wpList Try.prog ops Q rest (a.put (some d) (slP w.heap.size (n + 1) len)) W') : wpList Try.prog ops Q (o :: rest) a W :=
  wpList_buildFlatAt hg t (rowT r) len parts ho r.1 r.2 (w.heap.size + (n + 1)) hb.size (some d) hd hu hsz hz hlen hpos (by omega) hparts (h _ (hb.push hr))
/-- A description, and its entry. -/
theorem step_entry {w W : World} {k n : Nat} (hb : MadeH w W k n) (hk : k < 13) {ops : Array Oper} {rest : List Oper} {o1 o2 : Oper} {a : Act} {Q : Exit → Act → World → Prop} (hg : o1.guard = none) (hg2 : o2.guard = none)
    (parts : Array (Nat × Operand)) (ho : o1.op = .build 26 parts) (d : Nat) (hd : o1.dst = some d) (hl : d < a.tmps.size) (hd1 : d ≠ 1) (cs : Array Value) (hcs : descV w.heap.size (k + 1) = .agg cs)
    (hf : Try.prog.built 26 (parts.map fun (x : Nat × Operand) => (x.1, a.eval x.2)).toList = some cs)
    (ki : Int) (hki : ki = ((k + 1 : Nat) : Int)) (ho2 : o2.op = .insert 37 (.tmp 1) (.const (.int .i64 ki)) (.tmp d)) (hd2 : o2.dst = none) (hm : a.eval (.tmp 1) = .map (some w.heap.size))
    (h : ∀ W', MadeH w W' (k + 1) n → wpList Try.prog ops Q rest (a.put (some d) (descV w.heap.size (k + 1))) W') : wpList Try.prog ops Q (o1 :: o2 :: rest) a W := by
  refine wpList_buildTo hg 26 parts ho (some d) hd cs hf ?_
  rw [← hcs]
  refine wpList_plain hg2 fun K hK => ?_
  have e1 : (a.put (some d) (descV w.heap.size (k + 1))).eval (.tmp d) = descV w.heap.size (k + 1) := by simp [Act.put, Act.eval, hl]
  have e2 : (a.put (some d) (descV w.heap.size (k + 1))).eval (.tmp 1) = .map (some w.heap.size) := by
    rw [← hm]
    simp [Act.put, Act.eval, Array.getD_eq_getD_getElem?, hd1]
  have e3 : (a.put (some d) (descV w.heap.size (k + 1))).eval (.const (.int .i64 ki)) = .int .i64 ((k + 1 : Nat) : Int) := by rw [hki]; rfl
  have hrun := run_put hb hk
  unfold Oper.wp
  have he : (execOp (a.put (some d) (descV w.heap.size (k + 1))).eval o2).run Try.prog W = .ok .skip (setW w.heap.size (.map (hEnts w.heap.size (k + 1)) (k + 1)) W) := by
    simp only [execOp, ho2, e1, e2, e3]
    rw [Sem.run_bind, hrun]
    rfl
  rw [he, Oper.upon_skip, hd2]
  exact hK _ _ (h _ hb.put)

set_option maxRecDepth 100000 in
set_option maxHeartbeats 4000000 in
theorem all_call (w : World) : Calls Try.prog 14 #[] w (fun e w' => e = .returned (.map (some w.heap.size)) ∧ MadeH w w' 13 20) := by
  go_enter Try.func14, Try.ntmps14
  go_upto_region 1 with (fail)
  refine wp_region_list ?_
  refine Go.Great.wpList_runTo rfl (some 1) rfl (.map (some w.heap.size)) _ (by rfl) ?_
  have hb0 := madeH_none w
  refine step_row hb0 rfl _ rfl 23 2 _ rfl 2 rfl (by kernel_rfl) (by kernel_rfl) (by kernel_rfl) rfl (by omega) (by omega) rfl ?_
  intro W1 hb1
  refine step_row hb1 rfl _ rfl 24 2 _ rfl 3 rfl (by kernel_rfl) (by kernel_rfl) (by kernel_rfl) rfl (by omega) (by omega) rfl ?_
  intro W2 hb2
  refine step_entry hb2 (by omega) rfl rfl _ rfl 4 rfl (of_decide_eq_true (by kernel_rfl)) (by omega) _ rfl (by kernel_rfl) 1 rfl rfl rfl (by kernel_rfl) ?_
  intro W3 hb3
  refine step_row hb3 rfl _ rfl 23 4 _ rfl 5 rfl (by kernel_rfl) (by kernel_rfl) (by kernel_rfl) rfl (by omega) (by omega) rfl ?_
  intro W4 hb4
  refine step_row hb4 rfl _ rfl 24 2 _ rfl 6 rfl (by kernel_rfl) (by kernel_rfl) (by kernel_rfl) rfl (by omega) (by omega) rfl ?_
  intro W5 hb5
  refine step_entry hb5 (by omega) rfl rfl _ rfl 7 rfl (of_decide_eq_true (by kernel_rfl)) (by omega) _ rfl (by kernel_rfl) 2 rfl rfl rfl (by kernel_rfl) ?_
  intro W6 hb6
  refine step_row hb6 rfl _ rfl 23 2 _ rfl 8 rfl (by kernel_rfl) (by kernel_rfl) (by kernel_rfl) rfl (by omega) (by omega) rfl ?_
  intro W7 hb7
  refine step_row hb7 rfl _ rfl 24 1 _ rfl 9 rfl (by kernel_rfl) (by kernel_rfl) (by kernel_rfl) rfl (by omega) (by omega) rfl ?_
  intro W8 hb8
  refine step_entry hb8 (by omega) rfl rfl _ rfl 10 rfl (of_decide_eq_true (by kernel_rfl)) (by omega) _ rfl (by kernel_rfl) 3 rfl rfl rfl (by kernel_rfl) ?_
  intro W9 hb9
  refine step_row hb9 rfl _ rfl 23 3 _ rfl 11 rfl (by kernel_rfl) (by kernel_rfl) (by kernel_rfl) rfl (by omega) (by omega) rfl ?_
  intro W10 hb10
  refine step_row hb10 rfl _ rfl 24 1 _ rfl 12 rfl (by kernel_rfl) (by kernel_rfl) (by kernel_rfl) rfl (by omega) (by omega) rfl ?_
  intro W11 hb11
  refine step_entry hb11 (by omega) rfl rfl _ rfl 13 rfl (of_decide_eq_true (by kernel_rfl)) (by omega) _ rfl (by kernel_rfl) 4 rfl rfl rfl (by kernel_rfl) ?_
  intro W12 hb12
  refine step_row hb12 rfl _ rfl 23 3 _ rfl 14 rfl (by kernel_rfl) (by kernel_rfl) (by kernel_rfl) rfl (by omega) (by omega) rfl ?_
  intro W13 hb13
  refine step_row hb13 rfl _ rfl 24 1 _ rfl 15 rfl (by kernel_rfl) (by kernel_rfl) (by kernel_rfl) rfl (by omega) (by omega) rfl ?_
  intro W14 hb14
  refine step_entry hb14 (by omega) rfl rfl _ rfl 16 rfl (of_decide_eq_true (by kernel_rfl)) (by omega) _ rfl (by kernel_rfl) 5 rfl rfl rfl (by kernel_rfl) ?_
  intro W15 hb15
  refine step_row hb15 rfl _ rfl 23 2 _ rfl 17 rfl (by kernel_rfl) (by kernel_rfl) (by kernel_rfl) rfl (by omega) (by omega) rfl ?_
  intro W16 hb16
  refine step_row hb16 rfl _ rfl 24 1 _ rfl 18 rfl (by kernel_rfl) (by kernel_rfl) (by kernel_rfl) rfl (by omega) (by omega) rfl ?_
  intro W17 hb17
  refine step_entry hb17 (by omega) rfl rfl _ rfl 19 rfl (of_decide_eq_true (by kernel_rfl)) (by omega) _ rfl (by kernel_rfl) 6 rfl rfl rfl (by kernel_rfl) ?_
  intro W18 hb18
  refine step_row hb18 rfl _ rfl 23 2 _ rfl 20 rfl (by kernel_rfl) (by kernel_rfl) (by kernel_rfl) rfl (by omega) (by omega) rfl ?_
  intro W19 hb19
  refine step_row hb19 rfl _ rfl 24 1 _ rfl 21 rfl (by kernel_rfl) (by kernel_rfl) (by kernel_rfl) rfl (by omega) (by omega) rfl ?_
  intro W20 hb20
  refine step_entry hb20 (by omega) rfl rfl _ rfl 22 rfl (of_decide_eq_true (by kernel_rfl)) (by omega) _ rfl (by kernel_rfl) 7 rfl rfl rfl (by kernel_rfl) ?_
  intro W21 hb21
  refine step_row hb21 rfl _ rfl 23 2 _ rfl 23 rfl (by kernel_rfl) (by kernel_rfl) (by kernel_rfl) rfl (by omega) (by omega) rfl ?_
  intro W22 hb22
  refine step_row hb22 rfl _ rfl 24 1 _ rfl 24 rfl (by kernel_rfl) (by kernel_rfl) (by kernel_rfl) rfl (by omega) (by omega) rfl ?_
  intro W23 hb23
  refine step_entry hb23 (by omega) rfl rfl _ rfl 25 rfl (of_decide_eq_true (by kernel_rfl)) (by omega) _ rfl (by kernel_rfl) 8 rfl rfl rfl (by kernel_rfl) ?_
  intro W24 hb24
  refine step_row hb24 rfl _ rfl 23 1 _ rfl 26 rfl (by kernel_rfl) (by kernel_rfl) (by kernel_rfl) rfl (by omega) (by omega) rfl ?_
  intro W25 hb25
  refine step_entry hb25 (by omega) rfl rfl _ rfl 27 rfl (of_decide_eq_true (by kernel_rfl)) (by omega) _ rfl (by kernel_rfl) 9 rfl rfl rfl (by kernel_rfl) ?_
  intro W26 hb26
  refine step_row hb26 rfl _ rfl 23 1 _ rfl 28 rfl (by kernel_rfl) (by kernel_rfl) (by kernel_rfl) rfl (by omega) (by omega) rfl ?_
  intro W27 hb27
  refine step_entry hb27 (by omega) rfl rfl _ rfl 29 rfl (of_decide_eq_true (by kernel_rfl)) (by omega) _ rfl (by kernel_rfl) 10 rfl rfl rfl (by kernel_rfl) ?_
  intro W28 hb28
  refine step_entry hb28 (by omega) rfl rfl _ rfl 30 rfl (of_decide_eq_true (by kernel_rfl)) (by omega) _ rfl (by kernel_rfl) 11 rfl rfl rfl (by kernel_rfl) ?_
  intro W29 hb29
  refine step_row hb29 rfl _ rfl 23 3 _ rfl 31 rfl (by kernel_rfl) (by kernel_rfl) (by kernel_rfl) rfl (by omega) (by omega) rfl ?_
  intro W30 hb30
  refine step_entry hb30 (by omega) rfl rfl _ rfl 32 rfl (of_decide_eq_true (by kernel_rfl)) (by omega) _ rfl (by kernel_rfl) 12 rfl rfl rfl (by kernel_rfl) ?_
  intro W31 hb31
  refine step_row hb31 rfl _ rfl 23 2 _ rfl 33 rfl (by kernel_rfl) (by kernel_rfl) (by kernel_rfl) rfl (by omega) (by omega) rfl ?_
  intro W32 hb32
  refine step_entry hb32 (by omega) rfl rfl _ rfl 34 rfl (of_decide_eq_true (by kernel_rfl)) (by omega) _ rfl (by kernel_rfl) 13 rfl rfl rfl (by kernel_rfl) ?_
  intro W33 hb33
  refine Go.Great.wpList_runTo rfl (some 35) rfl (.map (some w.heap.size)) W33 (by kernel_rfl) ?_
  refine Go.Great.wpList_runTo rfl (some 0) rfl (.map (some w.heap.size)) W33 (by kernel_rfl) ?_
  rename_i Q' K hK
  refine hK _ _ (wp_ret ?_)
  exact bodyPost_ret (v := .map (some w.heap.size)) (by kernel_rfl) rfl ⟨rfl, hb33⟩
end Go.Proofs.Ythjdmnbpidoifaa
