/-
  Proved here: a copy of bytes made by append onto an empty slice literal is a new row with these bytes, and nothing that was there is turned. Conditions: at most 1000 bytes.
-/
import Derived.Test.YtmihmgchbibmoaaMem
import Derived.RowKit3
import Derived.Outline
import Derived.Below
import Derived.OwnWalk
import Derived.Maps.AppendAt
import Derived.Laws.AppendOwnNone
import Derived.Laws.BytesArg
import Derived.Laws.Rows
import Derived.Shelf.Bytes.SlSmallAll
namespace Go.Proofs.Ytmihmgchbibmoaa
open Go.RowKit

theorem u8_info : (Try.prog.info? 5).map (fun i => (i.zero, i.size, i.bytes)) = some (some (.int .u8 0), 1, 1) := by kernel_rfl
theorem add_lit (g off j : Nat) : (⟨g, off, none⟩ : Addr).add j = ⟨g, off + j, none⟩ := by unfold Addr.add; split <;> simp_all

/-- A new row of bytes that is not frozen, with nothing turned below. -/
structure Fresh (W w : World) (g len : Nat) (zs : List Int) : Prop where
  at_ : W.heap.size ≤ g
  row : RowAt w g 0 len zs
  free : ∀ j, w.frozen? ⟨g, j, none⟩ = false
  below : Below W.heap.size W w

theorem Fresh.put {W w : World} {g len : Nat} {zs vs : List Int} {p : Nat} (h : Fresh W w g len zs) (hz : zs.length = len) (hp : p + vs.length ≤ len) :
    Fresh W (w.setCells g (0 + p) (u8s vs)) g len (putL zs p vs) := by
  have hlen := u8s_length vs
  refine ⟨h.at_, fun j hj => ?_, fun j => by rw [World.frozen?_setCells]; exact h.free j, ?_⟩
  · rcases Nat.lt_or_ge j p with hlt | hge
    · rw [World.cell?_setCells_out _ _ _ _ _ (fun _ _ => .inl (by simp; omega)), putL_getD_out (by omega) (.inl hlt)]
      exact h.row j hj
    · rcases Nat.lt_or_ge j (p + vs.length) with hlt2 | hge2
      · obtain ⟨i, rfl⟩ : ∃ i, j = p + i := ⟨j - p, by omega⟩
        have hc := World.cell?_setCells_in g (u8s vs) (0 + p) w (fun j hj => by
          have := h.row (p + j) (by omega)
          rw [show 0 + (p + j) = 0 + p + j by omega] at this
          rw [this]; rfl) i (by omega)
        rw [show 0 + (p + i) = 0 + p + i by omega, hc, putL_getD_in (by omega) (by omega)]
        simp only [u8s, List.getElem_map]
        rw [List.getD_eq_getElem?_getD, List.getElem?_eq_getElem (by omega)]
        rfl
      · rw [World.cell?_setCells_out _ _ _ _ _ (fun _ _ => .inr (by simp; omega)), putL_getD_out (by omega) (.inr hge2)]
        exact h.row j hj
  · have hb := h.below
    have hg := h.at_
    generalize u8s vs = l
    generalize 0 + p = o
    clear h hp hz hlen
    induction l generalizing w o with
    | nil => exact hb
    | cons v r ih => exact ih (hb.setCell (p := ⟨g, o, none⟩) hg v) _

theorem own_empty (W : World) : (W.alloc (.cells #[] 5)).ownsRow W.heap.size 5 1 (.slice (some ⟨W.heap.size, 0, none⟩) 0 0) 0 [] :=
  ⟨rfl, .inr ⟨W.heap.size, 0, #[], rfl, Nat.le_refl _, heap_alloc_new W _, Nat.le_refl _, Nat.zero_le _, rfl, rfl⟩⟩

theorem fresh_of_own {W w : World} {v : Value} {len : Nat} {zs : List Int} (hz : zs.length = len) (hl : 0 < len) (h : w.ownsRow W.heap.size 5 1 v len (u8s zs)) (hb : Below W.heap.size W w) :
    ∃ g cap, v = .slice (some ⟨g, 0, none⟩) len cap ∧ Fresh W w g len zs := by
  rcases h.2 with ⟨_, h0⟩ | ⟨g, cap, cur, hv, hg, hh, -⟩
  · omega
  · refine ⟨g, cap, hv, hg, fun j hj => ?_, fun j => by simp [World.frozen?, hh], hb⟩
    have hc := h.cells (g := g) (by rw [hv]; rfl) j (.int .u8 (zs.getD j 0)) (by
      simp only [u8s, List.getElem?_map]
      rw [List.getElem?_eq_getElem (by omega), List.getD_eq_getElem?_getD, List.getElem?_eq_getElem (by omega)]
      rfl)
    rwa [add_lit] at hc

/-- A copy of bytes: 'append([]byte{}, b...)', of one byte at least. -/
theorem wpList_clone {W : World} {ops : Array Oper} {rest : List Oper} {o : Oper} {a : Act} {Q : Exit → Act → World → Prop} (hgd : o.guard = none) (s x : Operand)
    (ho : o.op = .call { callee := .builtin .append, args := #[s, x], argTypes := #[24, 24] })
    (hs : a.eval s = .slice (some ⟨W.heap.size, 0, none⟩) 0 0) (g off len cap : Nat) (zs : List Int) (hx : a.eval x = .slice (some ⟨g, off, none⟩) len cap)
    (hz : zs.length = len) (h0 : 0 < len) (hl : len ≤ 1000) (hr : RowAt W g off len zs) (hg : g < W.heap.size)
    (h : ∀ g1 cap1 w1, Fresh W w1 g1 len zs → wpList Try.prog ops Q rest (a.put o.dst (.slice (some ⟨g1, 0, none⟩) len cap1)) w1) :
    wpList Try.prog ops Q (o :: rest) a (W.alloc (.cells #[] 5)) := by
  obtain ⟨i0, hi0, hz0, hz1, hz2⟩ := info_parts u8_info
  refine wpList_append_own_at _ hgd s x 24 ho W.heap.size 5 i0 _ 1 1 Try.underlying24 hi0 hz0 hz1 hz2 rfl (by omega) _ 0 [] hs (own_empty W) ⟨g, off, none⟩ len cap (u8s zs) hx
    (by rw [u8s_length, hz]; omega) (fun j u hu => ?_) (fun u hu => ?_) (by unfold maxLen; omega) (by omega) (by simp) fun v1 w1 hown hgr _ hat => ?_
  · rw [add_lit, World.cell?_alloc_lt _ _ _ hg]
    simp only [u8s, List.getElem?_map] at hu
    have hj : j < zs.length := by
      rcases Nat.lt_or_ge j zs.length with h | h
      · exact h
      · rw [List.getElem?_eq_none h] at hu; cases hu
    rw [List.getElem?_eq_getElem hj] at hu
    rw [hr j (by omega), List.getD_eq_getElem?_getD, List.getElem?_eq_getElem hj, ← hu]
    rfl
  · simp only [u8s, List.mem_map] at hu
    obtain ⟨n, _, rfl⟩ := hu
    rfl
  · have hb : Below W.heap.size W w1 := ((Below.refl _ _).alloc (Nat.le_refl _) _).grown hgr (by simp) (fun k hk => by
      simp [Value.ownBlock] at hk; omega)
    rw [Nat.zero_add, List.nil_append] at hown
    obtain ⟨g1, cap1, rfl, hf⟩ := fresh_of_own hz h0 hown hb
    exact h g1 cap1 w1 hf
/-- .. of none. -/
theorem wpList_clone0 {W : World} {ops : Array Oper} {rest : List Oper} {o : Oper} {a : Act} {Q : Exit → Act → World → Prop} (hgd : o.guard = none) (s x : Operand)
    (ho : o.op = .call { callee := .builtin .append, args := #[s, x], argTypes := #[24, 24] })
    (hs : a.eval s = .slice (some ⟨W.heap.size, 0, none⟩) 0 0) (A : Option Addr) (cap : Nat) (hx : a.eval x = .slice A 0 cap) (hA : A = none → cap = 0)
    (h : ∀ A1 cap1 w1, Below W.heap.size W w1 → wpList Try.prog ops Q rest (a.put o.dst (.slice A1 0 cap1)) w1) :
    wpList Try.prog ops Q (o :: rest) a (W.alloc (.cells #[] 5)) := by
  obtain ⟨i0, hi0, hz0, hz1, hz2⟩ := info_parts u8_info
  rcases A with _ | ad
  · obtain rfl := hA rfl
    exact wpList_append_own_none hgd s x 24 ho W.heap.size 5 i0 1 Try.underlying24 hi0 _ 0 [] hs (own_empty W) hx (h _ _ _ ((Below.refl _ _).alloc (Nat.le_refl _) _))
  · refine wpList_append_own_at _ hgd s x 24 ho W.heap.size 5 i0 _ 1 1 Try.underlying24 hi0 hz0 hz1 hz2 rfl (by omega) _ 0 [] hs (own_empty W) ad 0 cap [] hx
      rfl (fun j u hu => by simp at hu) (fun u hu => by simp at hu) (by unfold maxLen; omega) (by omega) (by simp) fun v1 w1 hown hgr _ hat => ?_
    have hb : Below W.heap.size W w1 := ((Below.refl _ _).alloc (Nat.le_refl _) _).grown hgr (by simp) (fun k hk => by
      simp [Value.ownBlock] at hk; omega)
    rcases hown.2 with ⟨rfl, _⟩ | ⟨g1, cap1, cur, rfl, -⟩
    · exact h _ _ _ hb
    · exact h _ _ _ hb
end Go.Proofs.Ytmihmgchbibmoaa
