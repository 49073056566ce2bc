/-
  Proved here: operations of package alu makes a new map with thirteen entries, and what a look-up in it tells. Conditions: none.
-/
import Derived.Test.YtogadmlnmcojpaaOps
import Derived.MapKept
import Derived.Maps.Own
namespace Go.Proofs.Ytogadmlnmcojpaa
open Go.RowKit Go.MapKept

/-- An operation's number, and the function's. -/
def opsT : List (Int × Nat) := [(0, 81), (16, 82), (32, 83), (48, 84), (64, 85), (80, 86), (96, 87), (112, 89), (128, 90), (144, 91), (160, 92), (176, 93), (192, 94)]
def fnV (f : Nat) : Value := .func (.func f) #[] #[]
/-- The first n entries. -/
def opEnts (n : Nat) : Array MapEntry := ((opsT.take n).mapIdx fun i f => { key := .int .u8 f.1, val := fnV f.2, born := i }).toArray

theorem alloc_again (w : World) (o o' : Obj) : { w.alloc o with heap := (w.alloc o).heap.setIfInBounds w.heap.size o' } = w.alloc o' := by
  have e : (w.heap.push o).setIfInBounds w.heap.size o' = w.heap.push o' := by
    apply Array.ext_getElem?
    intro i
    rw [Array.getElem?_setIfInBounds, Array.getElem?_push, Array.getElem?_push, Array.size_push]
    by_cases h : w.heap.size = i
    · subst h; simp
    · rw [if_neg h, if_neg (Ne.symm h), if_neg (Ne.symm h)]
  show { w.alloc o with heap := (w.heap.push o).setIfInBounds w.heap.size o' } = w.alloc o'
  rw [e]
  rfl
theorem op_put (w : World) (i : Nat) (es es' : Array MapEntry) (k : Int) (v : Value) (h1 : Instr.findNow (.int .u8) (.int .u8 k) es.toList 0 = some none) (h2 : es.push { key := .int .u8 k, val := v, born := i } = es') :
    (Instr.mapUpdate 78 (.map (some w.heap.size)) (.int .u8 k) v).run Try.prog (w.alloc (.map es i)) = .ok () (w.alloc (.map es' (i + 1))) := by
  have hb := (heap_alloc w (.map es i)).1
  have hk : IsKey (.int .u8) (.int .u8 k) := rfl
  have hd : Try.prog.underlying 5 = some (.int .u8) := Try.underlying5
  subst h2
  simp [Instr.mapUpdate, run_underlying Try.underlying78, MapKept.run_getObj_map hb, run_checkKey hd hk, run_findKey hd h1, run_setObj_map _ hb, Result.andThen]
  exact alloc_again _ _ _
/-- The map: block b. -/
def OpMap (w : World) (b : Nat) : Prop := w.heap[b]? = some (.map (opEnts 13) 13)

theorem ops_map (w : World) : Calls Try.prog 64 #[] w (Ret (.map (some w.heap.size)) (w.alloc (.map (opEnts 13) 13))) := by
  unfold Ret
  have e0 : (#[] : Array MapEntry) = opEnts 0 := rfl
  have hmm := @run_makeMap Try.prog
  have p0 := op_put w 0 (opEnts 0) (opEnts 1) 0 (fnV 81) rfl rfl
  have p1 := op_put w 1 (opEnts 1) (opEnts 2) 16 (fnV 82) rfl rfl
  have p2 := op_put w 2 (opEnts 2) (opEnts 3) 32 (fnV 83) rfl rfl
  have p3 := op_put w 3 (opEnts 3) (opEnts 4) 48 (fnV 84) rfl rfl
  have p4 := op_put w 4 (opEnts 4) (opEnts 5) 64 (fnV 85) rfl rfl
  have p5 := op_put w 5 (opEnts 5) (opEnts 6) 80 (fnV 86) rfl rfl
  have p6 := op_put w 6 (opEnts 6) (opEnts 7) 96 (fnV 87) rfl rfl
  have p7 := op_put w 7 (opEnts 7) (opEnts 8) 112 (fnV 89) rfl rfl
  have p8 := op_put w 8 (opEnts 8) (opEnts 9) 128 (fnV 90) rfl rfl
  have p9 := op_put w 9 (opEnts 9) (opEnts 10) 144 (fnV 91) rfl rfl
  have p10 := op_put w 10 (opEnts 10) (opEnts 11) 160 (fnV 92) rfl rfl
  have p11 := op_put w 11 (opEnts 11) (opEnts 12) 176 (fnV 93) rfl rfl
  have p12 := op_put w 12 (opEnts 12) (opEnts 13) 192 (fnV 94) rfl rfl
  unfold fnV at p0 p1 p2 p3 p4 p5 p6 p7 p8 p9 p10 p11 p12
  rw [← e0] at p0
  clear e0
  go_enter Try.func64, Try.ntmps64
  go_wp2
  go_ret
  exact ⟨rfl, rfl⟩

theorem op_look (w : World) (b j : Nat) (k : Int) (v : Value) (hb : OpMap w b) (h1 : Instr.findNow (.int .u8) (.int .u8 k) (opEnts 13).toList 0 = some (some (j, v))) :
    (Instr.lookup 78 (.map (some b)) (.int .u8 k) true).run Try.prog w = .ok (.tuple #[v, .bool true]) w := by
  unfold OpMap at hb
  have hk : IsKey (.int .u8) (.int .u8 k) := rfl
  have hd : Try.prog.underlying 5 = some (.int .u8) := Try.underlying5
  simp [Instr.lookup, run_underlying Try.underlying78, MapKept.run_getObj_map hb, run_checkKey hd hk, run_findKey hd h1, Result.andThen]
def isOp (op : Int) : Bool := op == 0 || op == 16 || op == 32 || op == 48 || op == 64 || op == 80 || op == 96 || op == 112 || op == 128 || op == 144 || op == 160 || op == 176 || op == 192
def isNone (k : Int) : Bool := match Instr.findNow (.int .u8) (.int .u8 k) (opEnts 13).toList 0 with | some none => true | _ => false
theorem isNone_eq {k : Int} (h : isNone k = true) : Instr.findNow (.int .u8) (.int .u8 k) (opEnts 13).toList 0 = some none := by
  unfold isNone at h
  split at h
  · assumption
  · cases h
theorem op_none_table : ∀ n : Fin 256, (isOp (n.val : Int) || isNone (n.val : Int)) = true := by decide +kernel
theorem op_none {k : Int} (h0 : 0 ≤ k) (h1 : k ≤ 255) (h : isOp k = false) : Instr.findNow (.int .u8) (.int .u8 k) (opEnts 13).toList 0 = some none := by
  obtain ⟨m, rfl⟩ := Int.eq_ofNat_of_zero_le h0
  have := op_none_table ⟨m, by omega⟩
  rw [h, Bool.false_or] at this
  exact isNone_eq this
theorem op_look0 (w : World) (b : Nat) (k : Int) (hb : OpMap w b) (h1 : Instr.findNow (.int .u8) (.int .u8 k) (opEnts 13).toList 0 = some none) :
    (Instr.lookup 78 (.map (some b)) (.int .u8 k) true).run Try.prog w = .ok (.tuple #[.nilFunc, .bool false]) w := by
  unfold OpMap at hb
  have hk : IsKey (.int .u8) (.int .u8 k) := rfl
  have hd : Try.prog.underlying 5 = some (.int .u8) := Try.underlying5
  simp [Instr.lookup, run_underlying Try.underlying78, MapKept.run_getObj_map hb, run_checkKey hd hk, run_findKey hd h1, Result.andThen]
def NoneAt (w : World) (b : Nat) (k : Int) : Prop := (Instr.lookup 78 (.map (some b)) (.int .u8 k) true).run Try.prog w = .ok (.tuple #[.nilFunc, .bool false]) w
end Go.Proofs.Ytogadmlnmcojpaa
