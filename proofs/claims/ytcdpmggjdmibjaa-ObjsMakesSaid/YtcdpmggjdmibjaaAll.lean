/-
  Proved here: what all of package hooks gives: an array of descriptions, each with words of its own in new memory. Conditions: none.
-/
import Derived.Test.YtcdpmggjdmibjaaRows
import Derived.Test.YtcdpmggjdmibjaaTab
import Derived.Test.YtcdpmggjdmibjaaMem
import Derived.WalkKit
import Derived.IntWalk
import Derived.Outline
import Derived.Below
import Derived.Lib.Hide
import Derived.Deep.DeepCutAuto
import Derived.Great.Walk
namespace Go.Proofs.Ytcdpmggjdmibjaa
open Go.RowKit

/-- The words of hook k, whose array's block is b: nil ahead of the first hook. -/
def slV (b : Nat) : Nat → Value
  | 0 => .slice none 0 0
  | k + 1 => .slice (some ⟨b + (k + 1), 0, none⟩) (kindL (k + 1)).length (kindL (k + 1)).length
/-- The cells of the whole array. -/
def hookCells (b : Nat) : List Value := (List.range 17).flatMap fun k => [.string (nameB k), slV b k, .int .u64 (mostI k)]
def zeroCells : List Value := (List.range 17).flatMap fun _ => [.string { data := #[] }, .slice none 0 0, .int .u64 0]
/-- What is there, as n hooks have got their words. -/
structure Made (w W : World) (cs : List Value) (n : Nat) : Prop where
  size : W.heap.size = w.heap.size + (n + 1)
  below : Below w.heap.size w W
  box : W.heap[w.heap.size]? = some (.cells cs.toArray 73 (0, 0))
  row : ∀ k, k < n → W.heap[w.heap.size + (k + 1)]? = some (.cells (u8s (kindL (k + 1))).toArray 5 (0, 0))
theorem made_none (w : World) : Made w (w.alloc (.cells zeroCells.toArray 73)) zeroCells 0 :=
  ⟨by simp, (Below.refl _ _).alloc (Nat.le_refl _) _, heap_alloc_new w _, fun k hk => by omega⟩
theorem Made.push {w W : World} {cs : List Value} {n : Nat} (h : Made w W cs n) : Made w (W.alloc (.cells (u8s (kindL (n + 1))).toArray 5)) cs (n + 1) := by
  have hs := h.size
  refine ⟨by rw [World.size_alloc, hs]; omega, h.below.alloc (by omega) _, ?_, fun k hk => ?_⟩
  · rw [Below.heap_alloc _ _ _ (by omega)]; exact h.box
  · by_cases hkn : k = n
    · subst hkn
      rw [← hs]
      exact heap_alloc_new W _
    · rw [Below.heap_alloc _ _ _ (by omega)]
      exact h.row k (by omega)
theorem Made.store {w W : World} {cs cs' : List Value} {n : Nat} (h : Made w W cs n) : Made w (W.setRow w.heap.size cs'.toArray) cs' n := by
  refine ⟨(setRow_size _ _ _).trans h.size, h.below.trans ⟨rfl, rfl, rfl, by simp, fun k hk => setRow_other _ _ _ _ (by omega)⟩, setRow_heap _ _ _ _ _ _ h.box, fun k hk => ?_⟩
  rw [setRow_other _ _ _ _ (by omega)]
  exact h.row k hk
theorem put_here (a : Act) (d : Nat) (v : Value) (h : d < a.tmps.size) : (a.put (some d) v).eval (.tmp d) = v := by
  simp [Act.put, Act.eval, h]

/-- A slice literal of a hook's words, and the description. -/
theorem step_hook {w W : World} {cs : List Value} {n : Nat} (hb : Made w W cs n) {ops : Array Oper} {rest : List Oper} {o1 o2 : Oper} {a : Act} {Q : Exit → Act → World → Prop}
    (hg : o1.guard = none) (hg2 : o2.guard = none) (len : Nat) (parts : Array (Nat × Operand)) (ho : o1.op = .buildSlice 41 len parts) (d1 d2 : Nat) (hd1 : o1.dst = some d1) (hd2 : o2.dst = some d2) (hl : d1 < a.tmps.size)
    (hlen : len = (kindL (n + 1)).length) (hpos : 0 < len) (hsmall : len ≤ 100)
    (hparts : parts.toList = ((kindL (n + 1)).zipIdx 0).map fun x => (x.2, Operand.const (Value.int .u8 x.1)))
    (ho2 : o2.op = .build 55 #[(0, .const (.string (nameB (n + 1)))), (1, .tmp d1), (2, .const (.int .u64 (mostI (n + 1))))])
    (h : ∀ W', Made w W' cs (n + 1) → wpList Try.prog ops Q rest ((a.put (some d1) (slV w.heap.size (n + 1))).put (some d2) (.agg #[.string (nameB (n + 1)), slV w.heap.size (n + 1), .int .u64 (mostI (n + 1))])) W') :
    wpList Try.prog ops Q (o1 :: o2 :: rest) a W := by
  refine wpList_buildFlatAt hg 41 5 len parts ho .u8 (kindL (n + 1)) (w.heap.size + (n + 1)) hb.size (some d1) hd1 (by kernel_rfl) (by kernel_rfl) (by kernel_rfl) hlen hpos (by omega) hparts ?_
  have e : (Value.slice (some ⟨w.heap.size + (n + 1), 0, none⟩) len len) = slV w.heap.size (n + 1) := by rw [hlen]; rfl
  rw [e]
  refine wpList_buildTo hg2 55 _ ho2 (some d2) hd2 _ ?_ (h _ hb.push)
  have he := put_here a d1 (slV w.heap.size (n + 1)) hl
  have hl2 : (#[((0 : Nat), Operand.const (.string (nameB (n + 1)))), (1, .tmp d1), (2, .const (.int .u64 (mostI (n + 1))))].map fun (x : Nat × Operand) => (x.1, (a.put (some d1) (slV w.heap.size (n + 1))).eval x.2)).toList
      = [(0, .string (nameB (n + 1))), (1, slV w.heap.size (n + 1)), (2, .int .u64 (mostI (n + 1)))] := by
    simp only [List.map_toArray, List.map_cons, List.map_nil, he]
    rfl
  have hb2 : Try.prog.built 55 [(0, .string (nameB (n + 1))), (1, slV w.heap.size (n + 1)), (2, .int .u64 (mostI (n + 1)))] = some #[.string (nameB (n + 1)), slV w.heap.size (n + 1), .int .u64 (mostI (n + 1))] := by
    show Try.prog.built 55 [(0, .string (nameB (n + 1))), (1, .slice (some ⟨w.heap.size + (n + 1), 0, none⟩) (kindL (n + 1)).length (kindL (n + 1)).length), (2, .int .u64 (mostI (n + 1)))] = _
    kernel_rfl
  exact (congrArg (Try.prog.built 55) hl2).trans hb2
set_option maxRecDepth 100000 in
set_option maxHeartbeats 4000000 in
theorem all_call (w : World) : Calls Try.prog 37 #[] w (fun e w' => e = .returned (.agg (hookCells w.heap.size).toArray) ∧ Made w w' (hookCells w.heap.size) 16) := by
  go_enter Try.func37, Try.ntmps37
  go_upto_region 1 with (fail)
  refine wp_region_list ?_
  refine step_hook (n := 0) (made_none w) rfl rfl 3 _ rfl 1 2 rfl rfl (of_decide_eq_true (by kernel_rfl)) rfl (by omega) (by omega) rfl rfl ?_
  intro W1 hb1
  refine step_hook (n := 1) hb1 rfl rfl 3 _ rfl 3 4 rfl rfl (of_decide_eq_true (by kernel_rfl)) rfl (by omega) (by omega) rfl rfl ?_
  intro W2 hb2
  refine step_hook (n := 2) hb2 rfl rfl 4 _ rfl 5 6 rfl rfl (of_decide_eq_true (by kernel_rfl)) rfl (by omega) (by omega) rfl rfl ?_
  intro W3 hb3
  refine step_hook (n := 3) hb3 rfl rfl 3 _ rfl 7 8 rfl rfl (of_decide_eq_true (by kernel_rfl)) rfl (by omega) (by omega) rfl rfl ?_
  intro W4 hb4
  refine step_hook (n := 4) hb4 rfl rfl 4 _ rfl 9 10 rfl rfl (of_decide_eq_true (by kernel_rfl)) rfl (by omega) (by omega) rfl rfl ?_
  intro W5 hb5
  refine step_hook (n := 5) hb5 rfl rfl 5 _ rfl 11 12 rfl rfl (of_decide_eq_true (by kernel_rfl)) rfl (by omega) (by omega) rfl rfl ?_
  intro W6 hb6
  refine step_hook (n := 6) hb6 rfl rfl 5 _ rfl 13 14 rfl rfl (of_decide_eq_true (by kernel_rfl)) rfl (by omega) (by omega) rfl rfl ?_
  intro W7 hb7
  refine step_hook (n := 7) hb7 rfl rfl 3 _ rfl 15 16 rfl rfl (of_decide_eq_true (by kernel_rfl)) rfl (by omega) (by omega) rfl rfl ?_
  intro W8 hb8
  refine step_hook (n := 8) hb8 rfl rfl 3 _ rfl 17 18 rfl rfl (of_decide_eq_true (by kernel_rfl)) rfl (by omega) (by omega) rfl rfl ?_
  intro W9 hb9
  refine step_hook (n := 9) hb9 rfl rfl 4 _ rfl 19 20 rfl rfl (of_decide_eq_true (by kernel_rfl)) rfl (by omega) (by omega) rfl rfl ?_
  intro W10 hb10
  refine step_hook (n := 10) hb10 rfl rfl 2 _ rfl 21 22 rfl rfl (of_decide_eq_true (by kernel_rfl)) rfl (by omega) (by omega) rfl rfl ?_
  intro W11 hb11
  refine step_hook (n := 11) hb11 rfl rfl 3 _ rfl 23 24 rfl rfl (of_decide_eq_true (by kernel_rfl)) rfl (by omega) (by omega) rfl rfl ?_
  intro W12 hb12
  refine step_hook (n := 12) hb12 rfl rfl 3 _ rfl 25 26 rfl rfl (of_decide_eq_true (by kernel_rfl)) rfl (by omega) (by omega) rfl rfl ?_
  intro W13 hb13
  refine step_hook (n := 13) hb13 rfl rfl 3 _ rfl 27 28 rfl rfl (of_decide_eq_true (by kernel_rfl)) rfl (by omega) (by omega) rfl rfl ?_
  intro W14 hb14
  refine step_hook (n := 14) hb14 rfl rfl 2 _ rfl 29 30 rfl rfl (of_decide_eq_true (by kernel_rfl)) rfl (by omega) (by omega) rfl rfl ?_
  intro W15 hb15
  refine step_hook (n := 15) hb15 rfl rfl 3 _ rfl 31 32 rfl rfl (of_decide_eq_true (by kernel_rfl)) rfl (by omega) (by omega) rfl rfl ?_
  intro W16 hb16
  refine wpList_buildTo rfl 73 _ rfl (some 33) rfl (hookCells w.heap.size).toArray (by kernel_rfl) ?_
  refine wpList_store_rowTo rfl 73 (.tmp 0) (.tmp 33) rfl rfl w.heap.size (hookCells w.heap.size).toArray (by kernel_rfl) (by kernel_rfl) 73 zeroCells.toArray hb16.box (by kernel_rfl) (by kernel_rfl) (by kernel_rfl) ?_
  have hb := hb16.store (cs' := hookCells w.heap.size)
  rename_i Q' K hK
  refine hK _ _ (wp_ret ?_)
  exact bodyPost_ret (results_cell_row (p := 0) Try.results37 _ _ w.heap.size 73 (hookCells w.heap.size).toArray (0, 0) _ (by kernel_rfl) hb.box Try.underlying73 rfl (by kernel_rfl)) rfl ⟨rfl, hb⟩
end Go.Proofs.Ytcdpmggjdmibjaa
