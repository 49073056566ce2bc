/-
  Proved here: words for kernel objects in memory, and for a row of bytes that a call makes byte by byte. Conditions: as each says.
-/
import Derived.Test.YtcdpmggjdmibjaaKind
import Derived.Maps.AppendAt
import Derived.Laws.AppendOwnNone
import Derived.Laws.BytesArg
import Derived.Deep.DeepCutAuto
import Derived.OwnWalk
namespace Go.Proofs.Ytcdpmggjdmibjaa
open Go.RowKit

/-- A kernel object. -/
structure Kob where
  typ : Int
  id : Int
  gen : Int
  f : List Int
  path : ByteArray
  up : List Int
/-- A row of integers of a kind, read. -/
def RowI (w : World) (k : IntKind) (a : Option Addr) (zs : List Int) : Prop := 0 < zs.length → ∃ p off, a = some ⟨p, off, none⟩ ∧ p < w.heap.size ∧ ∀ j, j < zs.length → w.cell? ⟨p, off + j, none⟩ = some (.int k (zs.getD j 0))
theorem RowI.stay {w w' : World} {k : IntKind} {a : Option Addr} {zs : List Int} (h : RowI w k a zs) (hb : Below w.heap.size w w') : RowI w' k a zs := by
  intro hn
  obtain ⟨p, off, ha, hp, hc⟩ := h hn
  exact ⟨p, off, ha, Nat.lt_of_lt_of_le hp hb.size, fun j hj => (hb.cell (p := ⟨p, off + j, none⟩) hp).trans (hc j hj)⟩
/-- The thirteen cells of an object. -/
structure ObX (w : World) (X : Array Value) (o : Kob) : Prop where
  size : X.size = 13
  x0 : X[0]? = some (.int .i64 o.typ)
  x1 : X[1]? = some (.int .i64 o.id)
  x2 : X[2]? = some (.int .i64 o.gen)
  xf : ∀ i, i < 8 → X[3 + i]? = some (.int .u64 (o.f.getD i 0))
  x11 : X[11]? = some (.string o.path)
  x12 : ∃ a c, X[12]? = some (.slice a o.up.length c) ∧ RowI w .i64 a o.up
  bf : ∀ i, 0 ≤ o.f.getD i 0 ∧ o.f.getD i 0 ≤ 18446744073709551615
  bp : o.path.size ≤ maxLen
  bu : o.up.length ≤ maxLen
  bz : ∀ j, -9223372036854775808 ≤ o.up.getD j 0 ∧ o.up.getD j 0 ≤ 9223372036854775807
theorem ObX.stay {w w' : World} {X : Array Value} {o : Kob} (h : ObX w X o) (hb : Below w.heap.size w w') : ObX w' X o :=
  ⟨h.size, h.x0, h.x1, h.x2, h.xf, h.x11, by obtain ⟨a, c, h1, h2⟩ := h.x12; exact ⟨a, c, h1, h2.stay hb⟩, h.bf, h.bp, h.bu, h.bz⟩
/-- A box that holds these cells. -/
theorem box_cells (w : World) (X : Array Value) (T : TypeId) (j : Nat) : (w.alloc (.cells X T)).cell? ⟨w.heap.size, j, none⟩ = X[j]? := cell_of_row _ _ _ _ _ _ (heap_alloc_new w _)
theorem box_stay {w wr : World} {X : Array Value} {T : TypeId} (hb : Below (w.alloc (.cells X T)).heap.size (w.alloc (.cells X T)) wr) (j : Nat) : wr.cell? ⟨w.heap.size, j, none⟩ = X[j]? :=
  (hb.cell (p := ⟨w.heap.size, j, none⟩) (by simp)).trans (box_cells w X T j)

/-- A row of bytes that the call has made itself. -/
structure OwnB (W wr : World) (v : Value) (xs : List Int) : Prop where
  own : wr.ownsRow W.heap.size 5 1 v xs.length (u8s xs)
  b : Below W.heap.size W wr
theorem ownB_nil (W : World) : OwnB W W (.slice none 0 0) [] := ⟨World.ownsRow_nil _ _ _ _, Below.refl _ _⟩
theorem u8_info : (Try.prog.info? 5).map (fun i => (i.zero, i.size, i.bytes)) = some (some (.int .u8 0), 1, 1) := by kernel_rfl
theorem add_lit (g off j : Nat) : (⟨g, off, none⟩ : Addr).add j = ⟨g, off + j, none⟩ := by unfold Addr.add; split <;> simp_all
/-- 'append(b, z)'. -/
theorem wpList_byte {W wr : World} {ops : Array Oper} {rest : List Oper} {o : Oper} {a : Act} {Q : Exit → Act → World → Prop} (hgd : o.guard = none) (s x : Operand)
    (ho : o.op = .call { callee := .builtin .append, args := #[s, x], argTypes := #[41, 41] }) {v : Value} {xs : List Int} {z : Int} (h0 : OwnB W wr v xs) (hs : a.eval s = v) (hx : a.eval x = .slice (some ⟨wr.heap.size, 0, none⟩) 1 1)
    (hl : xs.length ≤ 1000) (h : ∀ v' w', OwnB W w' v' (xs ++ [z]) → wpList Try.prog ops Q rest (a.put o.dst v') w') :
    wpList Try.prog ops Q (o :: rest) a (wr.alloc (.cells #[.int .u8 z] 5)) := by
  obtain ⟨i0, hi0, hz0, hz1, hz2⟩ := info_parts u8_info
  have hown : (wr.alloc (.cells #[.int .u8 z] 5)).ownsRow W.heap.size 5 1 v xs.length (u8s xs) := h0.own.alloc _
  refine wpList_append_own_at _ hgd s x 41 ho W.heap.size 5 i0 _ 1 1 Try.underlying41 hi0 hz0 hz1 hz2 rfl (by omega) v xs.length (u8s xs) hs hown ⟨wr.heap.size, 0, none⟩ 1 1 [.int .u8 z] hx rfl
    (fun j u hu => ?_) (fun u hu => by simp at hu; subst hu; rfl) (by unfold maxLen; omega) (by omega) (by have := h0.b.size; simp; omega) fun v1 w1 hown1 hgr _ _ => ?_
  · rw [add_lit, Nat.zero_add, box_cells]
    simpa using hu
  · refine h v1 w1 ⟨?_, ((h0.b.alloc h0.b.size _).grown hgr (by have := h0.b.size; simp; omega) (fun k hk => ?_))⟩
    · rw [List.length_append]
      simpa [u8s] using hown1
    · exact (h0.own.lt k hk).1
/-- What a call answers that gives a new row of bytes, or nil. -/
def GaveB (zs : List Int) (W : World) (e : Ending) (w : World) : Prop := ∃ a c, e = .returned (.slice a zs.length c) ∧ Below W.heap.size W w ∧ (0 < zs.length → ∃ g, a = some ⟨g, 0, none⟩ ∧ W.heap.size ≤ g ∧ g < w.heap.size ∧ RowAt w g 0 zs.length zs)
theorem OwnB.gave {W wr : World} {v : Value} {xs : List Int} (h : OwnB W wr v xs) : ∃ a c, v = .slice a xs.length c ∧ (0 < xs.length → ∃ g, a = some ⟨g, 0, none⟩ ∧ W.heap.size ≤ g ∧ g < wr.heap.size ∧ RowAt wr g 0 xs.length xs) := by
  rcases h.own.2 with ⟨rfl, h0⟩ | ⟨g, cap, cur, hv, hg, hh, -⟩
  · obtain rfl : xs = [] := List.eq_nil_of_length_eq_zero h0
    exact ⟨none, 0, rfl, fun hn => absurd hn (by simp)⟩
  · refine ⟨_, cap, hv, fun hn => ⟨g, rfl, hg, (Array.getElem?_eq_some_iff.1 hh).1, fun j hj => ?_⟩⟩
    have ho := h.own
    subst hv
    rw [Nat.zero_add, ho.cellAt j (by omega), u8s, List.getElem?_map, List.getElem?_eq_getElem hj, List.getD_eq_getElem?_getD, List.getElem?_eq_getElem hj]
    rfl
end Go.Proofs.Ytcdpmggjdmibjaa
