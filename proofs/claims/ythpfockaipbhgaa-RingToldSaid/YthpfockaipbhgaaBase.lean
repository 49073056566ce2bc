/-
  Proved here: words for rows of bytes in memory: a row's cells, a new row that is the call's own, a copy of bytes made by append onto an empty slice literal, and their string. Conditions: as each says.
-/
import Derived.Test.YthpfockaipbhgaaRows
import Derived.WalkKit
import Derived.IntWalk
import Derived.Outline
import Derived.Below
import Derived.OwnWalk
import Derived.Maps.AppendAt
import Derived.Laws.AppendOwnNone
import Derived.Laws.BytesArg
import Derived.Laws.MakeOwn
import Derived.Laws.Rows
import Derived.Lib.Hide
import Derived.ArgAppend
namespace Go.Proofs.Ythpfockaipbhgaa
open Go.RowKit

def Ret (v : Value) (w : World) (e : Ending) (w' : World) : Prop := e = .returned v ∧ w = w'
theorem ret_bool {a b : Bool} (h : a = b) : Ending.returned (.bool a) = .returned (.bool b) := by rw [h]
theorem ret_i64 {a b : Int} (h : a = b) : Ending.returned (.int .i64 a) = .returned (.int .i64 b) := by rw [h]

/-- The cells of a row of bytes. -/
def RowAt (w : World) (g off len : Nat) (zs : List Int) : Prop := ∀ j, j < len → w.cell? ⟨g, off + j, none⟩ = some (.int .u8 (zs.getD j 0))
def u8s (zs : List Int) : List Value := zs.map (Value.int .u8)
theorem u8s_length (zs : List Int) : (u8s zs).length = zs.length := by simp [u8s]
theorem u8_info : (Try.prog.info? 5).map (fun i => (i.zero, i.size, i.bytes)) = some (some (.int .u8 0), 1, 1) := by kernel_rfl
theorem sl_info : (Try.prog.info? 36).map (fun i => (i.zero, i.size, i.bytes)) = some (some (.slice none 0 0), 1, 24) := by kernel_rfl
theorem add_lit (g off j : Nat) : (⟨g, off, none⟩ : Addr).add j = ⟨g, off + j, none⟩ := by unfold Addr.add; split <;> simp_all

theorem cell_block_lt {w : World} {a : Addr} {v : Value} (h : w.cell? a = some v) : a.block < w.heap.size := World.block_lt_of_cell? w a h
theorem rowAt_below {w w' : World} {B g off len : Nat} {zs : List Int} (h : RowAt w g off len zs) (hg : g < B) (hb : Below B w w') : RowAt w' g off len zs :=
  fun j hj => (hb.cell (p := ⟨g, off + j, none⟩) hg).trans (h j hj)
theorem str_of {w : World} {g off len cap : Nat} {zs : List Int} (hz : zs.length = len) (h : RowAt w g off len zs) :
    (convert 36 9 (.slice (some ⟨g, off, none⟩) len cap)).run Try.prog w = .ok (.string (strOfNums zs)) w :=
  run_convert_bytes_arg w 36 5 Try.underlying36 Try.underlying5 g off len cap zs hz h 9 Try.underlying9

/-- A new row of bytes that is not frozen, with nothing turned below. -/
structure Fresh (W w : World) (g len : Nat) (zs : List Int) : Prop where
  at_ : W.heap.size ≤ g
  row : RowAt w g 0 len zs
  free : ∀ j, w.frozen? ⟨g, j, none⟩ = false
  below : Below W.heap.size W w
/-- What a call answers that gives a new row with bytes. -/
def GaveRow (W : World) (len : Nat) (zs : List Int) (e : Ending) (w : World) : Prop := ∃ g cap, e = .returned (.slice (some ⟨g, 0, none⟩) len cap) ∧ Fresh W w g len zs

theorem own_empty (W : World) : (W.alloc (.cells #[] 5)).ownsRow W.heap.size 5 1 (.slice (some ⟨W.heap.size, 0, none⟩) 0 0) 0 [] :=
  ⟨rfl, .inr ⟨W.heap.size, 0, #[], rfl, Nat.le_refl _, heap_alloc_new W _, Nat.le_refl _, Nat.zero_le _, rfl, rfl⟩⟩
theorem fresh_of_own {W w : World} {v : Value} {len : Nat} {zs : List Int} (hz : zs.length = len) (hl : 0 < len) (h : w.ownsRow W.heap.size 5 1 v len (u8s zs)) (hb : Below W.heap.size W w) :
    ∃ g cap, v = .slice (some ⟨g, 0, none⟩) len cap ∧ Fresh W w g len zs := by
  rcases h.2 with ⟨_, h0⟩ | ⟨g, cap, cur, hv, hg, hh, -⟩
  · omega
  · refine ⟨g, cap, hv, hg, fun j hj => ?_, fun j => by simp [World.frozen?, hh], hb⟩
    have hc := h.cells (g := g) (by rw [hv]; rfl) j (.int .u8 (zs.getD j 0)) (by
      simp only [u8s, List.getElem?_map]
      rw [List.getElem?_eq_getElem (by omega), List.getD_eq_getElem?_getD, List.getElem?_eq_getElem (by omega)]
      rfl)
    rwa [add_lit] at hc
theorem u8s_cells {w : World} {g off len : Nat} {zs : List Int} (hz : zs.length = len) (hr : RowAt w g off len zs) : ∀ j u, (u8s zs)[j]? = some u → w.cell? ⟨g, off + j, none⟩ = some u := by
  intro j u hu
  simp only [u8s, List.getElem?_map] at hu
  have hj : j < zs.length := by
    rcases Nat.lt_or_ge j zs.length with h | h
    · exact h
    · rw [List.getElem?_eq_none h] at hu; cases hu
  rw [List.getElem?_eq_getElem hj] at hu
  rw [hr j (by omega), List.getD_eq_getElem?_getD, List.getElem?_eq_getElem hj, ← hu]
  rfl
theorem u8s_one {zs : List Int} : ∀ u ∈ u8s zs, u.oneCell' = true := by
  intro u hu
  simp only [u8s, List.mem_map] at hu
  obtain ⟨n, _, rfl⟩ := hu
  rfl

/-- A copy of bytes: 'append([]byte{}, b...)', of one byte at least. -/
theorem wpList_clone {W : World} {ops : Array Oper} {rest : List Oper} {o : Oper} {a : Act} {Q : Exit → Act → World → Prop} (hgd : o.guard = none) (s x : Operand)
    (ho : o.op = .call { callee := .builtin .append, args := #[s, x], argTypes := #[36, 36] })
    (hs : a.eval s = .slice (some ⟨W.heap.size, 0, none⟩) 0 0) (g off len cap : Nat) (zs : List Int) (hx : a.eval x = .slice (some ⟨g, off, none⟩) len cap)
    (hz : zs.length = len) (h0 : 0 < len) (hl : len ≤ 1000) (hr : RowAt W g off len zs) (hg : g < W.heap.size)
    (h : ∀ g1 cap1 w1, Fresh W w1 g1 len zs → wpList Try.prog ops Q rest (a.put o.dst (.slice (some ⟨g1, 0, none⟩) len cap1)) w1) :
    wpList Try.prog ops Q (o :: rest) a (W.alloc (.cells #[] 5)) := by
  obtain ⟨i0, hi0, hz0, hz1, hz2⟩ := info_parts u8_info
  refine wpList_append_own_at _ hgd s x 36 ho W.heap.size 5 i0 _ 1 1 Try.underlying36 hi0 hz0 hz1 hz2 rfl (by omega) _ 0 [] hs (own_empty W) ⟨g, off, none⟩ len cap (u8s zs) hx
    (by rw [u8s_length, hz]; omega) (fun j u hu => ?_) u8s_one (by unfold maxLen; omega) (by omega) (by simp) fun v1 w1 hown hgr _ hat => ?_
  · rw [add_lit, World.cell?_alloc_lt _ _ _ hg]
    exact u8s_cells hz hr j u hu
  · have hb : Below W.heap.size W w1 := ((Below.refl _ _).alloc (Nat.le_refl _) _).grown hgr (by simp) (fun k hk => by
      simp [Value.ownBlock] at hk; omega)
    rw [Nat.zero_add, List.nil_append] at hown
    obtain ⟨g1, cap1, rfl, hf⟩ := fresh_of_own hz h0 hown hb
    exact h g1 cap1 w1 hf
end Go.Proofs.Ythpfockaipbhgaa
