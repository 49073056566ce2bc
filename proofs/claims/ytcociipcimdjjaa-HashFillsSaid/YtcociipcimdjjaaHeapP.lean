/-
  Proved here: Pop and Push of container/heap, over the free places in memory. Conditions: as each says.
-/
import Derived.Test.YtcociipcimdjjaaHeapD
namespace Go.Proofs.Ytcociipcimdjjaa
open Go.RowKit

theorem int_info : (Try.prog.info? 3).map (fun i => (i.zero, i.size, i.bytes)) = some (some (.int .i64 0), 1, 8) := by kernel_rfl
theorem Only.cell {B : Nat} {W w : World} (h : Only B W w) {p : Addr} (hp : p.block ≠ B) : w.cell? p = W.cell? p := World.cell?_of_block (w := W) (h.block _ hp)
theorem Only.frozen {B : Nat} {W w : World} (h : Only B W w) {p : Addr} (hp : p.block ≠ B) : w.frozen? p = W.frozen? p := World.frozen?_of_block (w := W) (h.block _ hp)
/-- The slice is made shorter by one. -/
theorem ListAt.pop {w : World} {p : Addr} {B n cap : Nat} {l : List Int} (h : ListAt w p B (n + 1) cap l) : ListAt (w.setCell p (.slice (some ⟨B, 0, none⟩) n cap)) p B n cap (l.take n) := by
  obtain ⟨cur, hh, h1, h2, h3, h4⟩ := h.block
  have hl := h.len
  refine ⟨World.cell?_setCell_same _ _ _ h.c, ⟨by rw [ints_length, List.length_take]; omega, .inr ⟨B, cap, cur, rfl, Nat.zero_le _, ?_, by omega, h2, by omega, ?_⟩⟩, h.ne⟩
  · rw [Below.heap_setCell _ _ _ _ (fun e => h.ne e.symm)]
    exact hh
  · rw [Nat.mul_one, ints, List.map_take, ← ints, ← h4, List.take_take, Nat.min_eq_left (by omega)]
def PopM (p : Addr) (B n cap : Nat) (x : Int) (W : World) (e : Ending) (w : World) : Prop := e = .returned (.iface 3 (.int .i64 x)) ∧ w = W.setCell p (.slice (some ⟨B, 0, none⟩) n cap)
theorem pop_free (B n cap : Nat) (p : Addr) (l : List Int) (w : World) (h : ListAt w p B (n + 1) cap l) (hf : w.frozen? p = false) (hn : n ≤ 1000) :
    Calls Try.prog 63 #[.pointer (some p)] w (PopM p B n cap (at0 l n) w) := by
  have hc := h.c
  have h1 := h.row n (by omega)
  obtain ⟨cur, hh, hcap, hmax, -, -⟩ := h.block
  have e1 : ((n + 1 : Nat) : Int) - 1 = (n : Int) := by omega
  obtain ⟨x, hx⟩ : ∃ x, at0 l n = x := ⟨_, rfl⟩
  rw [hx] at h1 ⊢
  unfold maxLen at hmax
  clear hh hx h
  go_enter Try.func63, Try.ntmps63
  go_wp2
  go_ret
  exact ⟨rfl, rfl⟩
/-- What Pop of container/heap gives: the least one; the others stay, a heap. -/
def HeapPop (p : Addr) (B n cap : Nat) (l : List Int) (W : World) (e : Ending) (w : World) : Prop :=
  e = .returned (.iface 3 (.int .i64 (at0 l 0))) ∧ ∃ (W1 : World) (l2 : List Int), Only B W W1 ∧ w = W1.setCell p (.slice (some ⟨B, 0, none⟩) n cap) ∧ ListAt w p B n cap l2 ∧ IsHeap l2 n ∧ (l2 ++ [at0 l 0]).Perm l
theorem pop_perm {l l1 : List Int} {n : Nat} (hl : l.length = n + 1) (hp : l1.Perm (swapL l 0 n)) (hx : at0 l1 n = at0 (swapL l 0 n) n) : (l1.take n ++ [at0 l 0]).Perm l := by
  have h1 : l1.length = n + 1 := by rw [hp.length_eq, swapL_length, hl]
  have e : at0 (swapL l 0 n) n = at0 l 0 := by rw [at0_swap (by omega) (by omega), if_pos rfl]
  have e2 : l1.take n ++ [at0 l 0] = l1 := by
    rw [← e, ← hx, at0_eq (by omega), ← List.take_succ_eq_append_getElem (by omega), List.take_of_length_le (by omega)]
  rw [e2]
  exact hp.trans (swapL_perm (by omega) (by omega))
theorem heap_pop (B n cap : Nat) (p : Addr) (l : List Int) (w : World) (h : ListAt w p B (n + 1) cap l) (hf : w.frozen? p = false) (hn : n < 1000) (hh : IsHeap l (n + 1)) :
    Calls Try.prog 33 #[.iface 71 (.pointer (some p))] w (HeapPop p B n cap l w) := by
  have hm := method_len p w _ _ _ h.c
  have hm2 := method_swap p w _ _ _ h.c
  have hmp := fun W => method_pop p W
  have e1 : ((n + 1 : Nat) : Int) - 1 = (n : Int) := by omega
  have hds : DownAt (swapL l 0 n) n 0 := down_start h.len (by rw [h.len]; exact hh)
  have H := Lib.hid h
  have HD := Lib.hid hds
  have HF := Lib.hid hf
  clear h hds hf hh
  go_enter Try.func33, Try.ntmps33
  go_wp2_with (first
    | (go_at_call 32; refine (len_free _ _ _ _).mono ?_; rintro e w1 ⟨rfl, rfl⟩)
    | (go_at_call 62; refine (swap_free _ 0 n _ _ _ _ _ H.out (by omega) (by omega)).mono ?_; rintro e w2 ⟨rfl, ho2, hL2⟩; have HO2 := Lib.hid ho2; have HL2 := Lib.hid hL2; clear ho2 hL2)
    | (go_at_call 41; refine (down_free _ _ _ n _ _ _ HL2.out (by omega) (by omega) HD.out).mono ?_; rintro e w3 ⟨b3, rfl, l3, ho3, hL3, hp3, hh3, hx3⟩; have HO3 := Lib.hid ho3; have HL3 := Lib.hid hL3; have HP3 := Lib.hid hp3; have HH3 := Lib.hid hh3; have HX3 := Lib.hid (hx3 n (Nat.le_refl _)); clear ho3 hL3 hp3 hh3 hx3)
    | (go_at_call 63; refine (pop_free _ _ _ _ _ _ HL3.out (by rw [HO3.out.frozen HL3.out.ne, HO2.out.frozen HL3.out.ne]; exact HF.out) (by omega)).mono ?_; rintro e w4 ⟨rfl, hw4⟩; have HW4 := Lib.hid hw4; clear hw4))
  go_ret
  have hl := H.out.len
  have hx : at0 l3 n = at0 l 0 := by rw [HX3.out, at0_swap (by omega) (by omega), if_pos rfl]
  refine ⟨by rw [← hx]; rfl, w3, l3.take n, HO2.out.trans HO3.out, HW4.out, by rw [HW4.out]; exact HL3.out.pop, ?_, pop_perm hl HP3.out HX3.out⟩
  have h2 := isHeap_take HH3.out (by rw [HL3.out.len]; omega)
  rwa [List.length_take, Nat.min_eq_left (by rw [HL3.out.len]; omega)] at h2
/-- All but block c, and one more, stays; new blocks may come. -/
structure But2 (c : Nat) (b : Option Nat) (W w : World) : Prop where
  os : w.os = W.os
  tape : w.tape = W.tape
  output : w.output = W.output
  size : W.heap.size ≤ w.heap.size
  block : ∀ k, k < W.heap.size → k ≠ c → some k ≠ b → w.heap[k]? = W.heap[k]?
def appendH (ats : Array TypeId) (ty : TypeId) (args : Array Value) : Sem Value := Builtin.append_ ats ty args
theorem append_veilH (ats : Array TypeId) (ty : TypeId) (args : Array Value) : Builtin.append_ ats ty args = appendH ats ty args := rfl
/-- A list behind a pointer to its slice, which may be nil. -/
structure FreeAt (w : World) (p : Addr) (v : Value) (len : Nat) (l : List Int) : Prop where
  c : w.cell? p = some v
  own : w.ownsRow 0 3 1 v len (ints l)
  ne : some p.block ≠ v.ownBlock
def PushM (p : Addr) (v : Value) (len : Nat) (l : List Int) (x : Int) (W : World) (e : Ending) (w : World) : Prop :=
  e = .returned (.tuple #[]) ∧ ∃ B cap, ListAt w p B (len + 1) cap (l ++ [x]) ∧ But2 p.block v.ownBlock W w ∧ (some B = v.ownBlock ∨ W.heap.size ≤ B) ∧ w.frozen? p = false ∧ ∀ o, o ≠ p.off → w.cell? ⟨p.block, o, none⟩ = W.cell? ⟨p.block, o, none⟩
theorem push_run {w : World} {p : Addr} {v : Value} {len : Nat} {l : List Int} {x : Int} (h : FreeAt w p v len l) (hf : w.frozen? p = false) (hl : len ≤ 1000) :
    ∃ B cap W3, (appendH #[61, 61] 61 #[v, .slice (some ⟨w.heap.size, 0, none⟩) 1 1]).run Try.prog (w.alloc (.cells #[.int .i64 x] 3)).drew = .ok (.slice (some ⟨B, 0, none⟩) (len + 1) cap) W3 ∧
      W3.cell? p = some v ∧ W3.frozen? p = false ∧ ListAt (W3.setCell p (.slice (some ⟨B, 0, none⟩) (len + 1) cap)) p B (len + 1) cap (l ++ [x]) ∧
      But2 p.block v.ownBlock w (W3.setCell p (.slice (some ⟨B, 0, none⟩) (len + 1) cap)) ∧ (some B = v.ownBlock ∨ w.heap.size ≤ B) ∧ ∀ o, o ≠ p.off → (W3.setCell p (.slice (some ⟨B, 0, none⟩) (len + 1) cap)).cell? ⟨p.block, o, none⟩ = w.cell? ⟨p.block, o, none⟩ := by
  obtain ⟨i0, hi0, hz0, hz1, hz2⟩ := info_parts int_info
  have hp := cell_block_lt h.c
  have hown : (w.alloc (.cells #[.int .i64 x] 3)).drew.ownsRow 0 3 1 v len (ints l) := h.own.alloc _
  obtain ⟨v', W3, hrun, hown3, hgr, -, hat⟩ := run_append_own_at (P := Try.prog) (w.alloc (.cells #[.int .i64 x] 3)).drew 0 61 61 3 i0 _ 1 8 Try.underlying61 hi0 hz0 hz1 hz2 rfl (by omega) v len (ints l) hown
    ⟨w.heap.size, 0, none⟩ 1 1 [.int .i64 x] rfl (cell_one_new w (.int .i64 x) 3) (fun u hu => by simp at hu; subst hu; rfl) (by unfold maxLen; omega) (by omega) (by omega)
  have e : ints l ++ [.int .i64 x] = ints (l ++ [x]) := by simp [ints]
  rw [e] at hown3
  obtain ⟨B, cap, rfl⟩ : ∃ B cap, v' = .slice (some ⟨B, 0, none⟩) (len + 1) cap := by
    rcases hown3.2 with ⟨_, h0⟩ | ⟨g, cap, cur, hv, -⟩
    · omega
    · exact ⟨g, cap, hv⟩
  have hbp : W3.heap[p.block]? = w.heap[p.block]? := by
    rw [hgr.block p.block (by simp; omega) h.ne]
    exact Below.heap_alloc _ _ _ hp
  have hat2 : some B = v.ownBlock ∨ w.heap.size ≤ B := by
    rcases hat with h1 | h1
    · exact .inl h1
    · simp [Value.ownBlock] at h1; exact .inr (by omega)
  have hneB : p.block ≠ B := by
    rcases hat2 with h1 | h1
    · intro e2; exact h.ne (by rw [e2]; exact h1)
    · omega
  have hz : w.heap.size + 1 ≤ W3.heap.size := by have := hgr.size; simpa using this
  refine ⟨B, cap, W3, hrun, (World.cell?_of_block (w := w) hbp).trans h.c, (World.frozen?_of_block (w := w) hbp).trans hf, ⟨?_, ?_, hneB⟩, ⟨hgr.os, hgr.tape, hgr.output, by simp [World.setCell]; omega, fun k hk hkc hkb => ?_⟩, hat2, fun o ho => ?_⟩
  · exact World.cell?_setCell_same _ _ _ ((World.cell?_of_block (w := w) hbp).trans h.c)
  · obtain ⟨h1, h2⟩ := hown3
    refine ⟨h1, ?_⟩
    rcases h2 with h2 | ⟨g, cap2, cur, hv, hg, hh, r⟩
    · exact Or.inl h2
    · injection hv with hv1 _ hv3
      injection hv1 with hv1
      injection hv1 with hv1
      subst hv1 hv3
      exact Or.inr ⟨B, cap, cur, rfl, hg, by rw [Below.heap_setCell _ _ _ _ (fun e2 => hneB e2.symm)]; exact hh, r⟩
  · rw [Below.heap_setCell _ _ _ _ hkc, hgr.block k (by simp; omega) hkb]
    exact Below.heap_alloc _ _ _ hk
  · rw [World.cell?_setCell_other _ _ _ _ (by intro e; exact ho (by rw [e]))]
    exact World.cell?_of_block (w := w) hbp
theorem assert_int (x : Int) (W : World) : (Instr.typeAssert (.iface 3 (.int .i64 x)) 20 3 false).run Try.prog W = .ok (.int .i64 x) W := by kernel_rfl
attribute [local go_sem ↓] append_veilH
theorem push_free (p : Addr) (v : Value) (len : Nat) (l : List Int) (x : Int) (w : World) (h : FreeAt w p v len l) (hf : w.frozen? p = false) (hl : len ≤ 1000) :
    Calls Try.prog 64 #[.pointer (some p), .iface 3 (.int .i64 x)] w (PushM p v len l x w) := by
  obtain ⟨B, cap, W3, hrun, hc3, hf3, hL3, hb3, ha3, ho3⟩ := push_run (x := x) h hf hl
  have hc := h.c
  have hc2 : (w.alloc (.cells #[.int .i64 x] 3)).cell? p = some v := by rw [World.cell?_alloc_lt _ _ _ (cell_block_lt hc)]; exact hc
  have HL := Lib.hid hL3
  have HB := Lib.hid hb3
  have HA := Lib.hid ha3
  have HO := Lib.hid ho3
  have hta := assert_int x
  clear h hL3 hb3 ha3 ho3
  go_enter Try.func64, Try.ntmps64
  go_region
  first | go_end0 | refine bodyPost_ret (results_none rfl _ _ _) rfl ?_
  exact ⟨rfl, B, cap, HL.out, HB.out, HA.out, by rw [World.frozen?_setCell]; exact hf3, HO.out⟩
/-- What Push of container/heap gives: one more, a heap. -/
def HeapPush (p : Addr) (v : Value) (len : Nat) (l : List Int) (x : Int) (W : World) (e : Ending) (w : World) : Prop :=
  e = .returned (.tuple #[]) ∧ ∃ (B cap : Nat) (l2 : List Int), ListAt w p B (len + 1) cap l2 ∧ IsHeap l2 (len + 1) ∧ l2.Perm (l ++ [x]) ∧ But2 p.block v.ownBlock W w ∧ (some B = v.ownBlock ∨ W.heap.size ≤ B) ∧ w.frozen? p = false ∧ ∀ o, o ≠ p.off → w.cell? ⟨p.block, o, none⟩ = W.cell? ⟨p.block, o, none⟩
theorem but_only {c B : Nat} {b : Option Nat} {W w1 w : World} (h : But2 c b W w1) (ho : Only B w1 w) (hB : some B = b ∨ W.heap.size ≤ B) : But2 c b W w :=
  ⟨ho.os.trans h.os, ho.tape.trans h.tape, ho.output.trans h.output, by rw [ho.size]; exact h.size, fun k hk hc hb => by
    rw [ho.block k (by rcases hB with e | e
                       · intro e2; exact hb (by rw [e2]; exact e)
                       · omega)]
    exact h.block k hk hc hb⟩
theorem heap_push (p : Addr) (v : Value) (len : Nat) (l : List Int) (x : Int) (w : World) (h : FreeAt w p v len l) (hf : w.frozen? p = false) (hl : len < 1000) (hh : IsHeap l len) :
    Calls Try.prog 29 #[.iface 71 (.pointer (some p)), .iface 3 (.int .i64 x)] w (HeapPush p v len l x w) := by
  have hmp := fun W => method_push p W
  have e1 : ((len + 1 : Nat) : Int) - 1 = (len : Int) := by omega
  have hll : l.length = len := by have := h.own.1; rw [ints_length] at this; omega
  have hu : UpAt (l ++ [x]) (len + 1) len := by have := up_start (x := x) (l := l) (by rw [hll]; exact hh); rwa [hll] at this
  have H := Lib.hid h
  have HU := Lib.hid hu
  clear h hh hu hll
  go_enter Try.func29, Try.ntmps29
  go_wp2_with (first
    | (go_at_call 64; refine (push_free _ _ _ _ _ _ H.out hf (by omega)).mono ?_; rintro e w1 ⟨rfl, B, cap, hL1, hb1, ha1, hf1, ho1⟩; have HO1 := Lib.hid ho1; have hm1 := method_len p w1 _ _ _ hL1.c; have HL1 := Lib.hid hL1; have HB1 := Lib.hid hb1; have HA1 := Lib.hid ha1; clear hL1 hb1 ha1 ho1)
    | (go_at_call 32; refine (len_free _ _ _ _).mono ?_; rintro e w2 ⟨rfl, rfl⟩)
    | (go_at_call 39; refine (up_free _ len _ _ _ _ _ HL1.out (by omega) (by omega) HU.out).mono ?_; rintro e w3 ⟨rfl, l3, ho3, hL3, hp3, hh3⟩; have HO3 := Lib.hid ho3; have HL3 := Lib.hid hL3; have HP3 := Lib.hid hp3; have HH3 := Lib.hid hh3; clear ho3 hL3 hp3 hh3))
  first | go_end0 | refine bodyPost_ret (results_none rfl _ _ _) rfl ?_
  exact ⟨rfl, B, cap, l3, HL3.out, HH3.out, HP3.out, but_only HB1.out HO3.out HA1.out, HA1.out, by rw [HO3.out.frozen HL3.out.ne]; exact hf1, fun o ho => (HO3.out.cell (p := ⟨p.block, o, none⟩) HL3.out.ne).trans (HO1.out o ho)⟩
end Go.Proofs.Ytcociipcimdjjaa
