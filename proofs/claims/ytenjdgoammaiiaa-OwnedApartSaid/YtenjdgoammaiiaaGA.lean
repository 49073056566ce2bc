/-
  Proved here: words for rows of bytes in memory: a row's cells, a new row that is the call's own, a copy of bytes made by append onto an empty slice literal, and their string. Conditions: as each says.
-/
import Derived.Test.YtenjdgoammaiiaaRows
import Derived.WalkKit
import Derived.IntWalk
import Derived.Below
import Derived.OwnWalk
import Derived.Maps.AppendAt
import Derived.Laws.AppendOwnNone
import Derived.Laws.BytesArg
import Derived.Laws.MakeOwn
import Derived.Laws.Rows
import Derived.Lib.Hide
import Derived.ArgAppend
import Derived.WalkSpells
import Derived.Lib.SmallJoins
namespace Go.Proofs.Ytenjdgoammaiiaa
open Go.RowKit
set_option maxRecDepth 100000

def Ret (v : Value) (w : World) (e : Ending) (w' : World) : Prop := e = .returned v ∧ w = w'
theorem ret_bool {a b : Bool} (h : a = b) : Ending.returned (.bool a) = .returned (.bool b) := by rw [h]
theorem ret_i64 {a b : Int} (h : a = b) : Ending.returned (.int .i64 a) = .returned (.int .i64 b) := by rw [h]

/-- The cells of a row of bytes. -/
def RowAt (w : World) (g off len : Nat) (zs : List Int) : Prop := ∀ j, j < len → w.cell? ⟨g, off + j, none⟩ = some (.int .u8 (zs.getD j 0))
def u8s (zs : List Int) : List Value := zs.map (Value.int .u8)
theorem u8s_length (zs : List Int) : (u8s zs).length = zs.length := by simp [u8s]
theorem u8_info : (Try.prog.info? 5).map (fun i => (i.zero, i.size, i.bytes)) = some (some (.int .u8 0), 1, 1) := by kernel_rfl
theorem sl_info : (Try.prog.info? 32).map (fun i => (i.zero, i.size, i.bytes)) = some (some (.slice none 0 0), 1, 24) := by kernel_rfl
theorem add_lit (g off j : Nat) : (⟨g, off, none⟩ : Addr).add j = ⟨g, off + j, none⟩ := by unfold Addr.add; split <;> simp_all

theorem cell_block_lt {w : World} {a : Addr} {v : Value} (h : w.cell? a = some v) : a.block < w.heap.size := World.block_lt_of_cell? w a h
theorem rowAt_below {w w' : World} {B g off len : Nat} {zs : List Int} (h : RowAt w g off len zs) (hg : g < B) (hb : Below B w w') : RowAt w' g off len zs :=
  fun j hj => (hb.cell (p := ⟨g, off + j, none⟩) hg).trans (h j hj)
theorem str_of {w : World} {g off len cap : Nat} {zs : List Int} (hz : zs.length = len) (h : RowAt w g off len zs) :
    (convert 32 9 (.slice (some ⟨g, off, none⟩) len cap)).run Try.prog w = .ok (.string (strOfNums zs)) w :=
  run_convert_bytes_arg w 32 5 Try.underlying32 Try.underlying5 g off len cap zs hz h 9 Try.underlying9

/-- A new row of bytes that is not frozen, with nothing turned below. -/
structure Fresh (W w : World) (g len : Nat) (zs : List Int) : Prop where
  at_ : W.heap.size ≤ g
  row : RowAt w g 0 len zs
  free : ∀ j, w.frozen? ⟨g, j, none⟩ = false
  below : Below W.heap.size W w
/-- What a call answers that gives a new row with bytes. -/
def GaveRow (W : World) (len : Nat) (zs : List Int) (e : Ending) (w : World) : Prop := ∃ g cap, e = .returned (.slice (some ⟨g, 0, none⟩) len cap) ∧ Fresh W w g len zs

theorem own_empty (W : World) : (W.alloc (.cells #[] 5)).ownsRow W.heap.size 5 1 (.slice (some ⟨W.heap.size, 0, none⟩) 0 0) 0 [] :=
  ⟨rfl, .inr ⟨W.heap.size, 0, #[], rfl, Nat.le_refl _, heap_alloc_new W _, Nat.le_refl _, Nat.zero_le _, rfl, rfl⟩⟩
theorem fresh_of_own {W w : World} {v : Value} {len : Nat} {zs : List Int} (hz : zs.length = len) (hl : 0 < len) (h : w.ownsRow W.heap.size 5 1 v len (u8s zs)) (hb : Below W.heap.size W w) :
    ∃ g cap, v = .slice (some ⟨g, 0, none⟩) len cap ∧ Fresh W w g len zs := by
  rcases h.2 with ⟨_, h0⟩ | ⟨g, cap, cur, hv, hg, hh, -⟩
  · omega
  · refine ⟨g, cap, hv, hg, fun j hj => ?_, fun j => by simp [World.frozen?, hh], hb⟩
    have hc := h.cells (g := g) (by rw [hv]; rfl) j (.int .u8 (zs.getD j 0)) (by
      simp only [u8s, List.getElem?_map]
      rw [List.getElem?_eq_getElem (by omega), List.getD_eq_getElem?_getD, List.getElem?_eq_getElem (by omega)]
      rfl)
    rwa [add_lit] at hc
theorem u8s_cells {w : World} {g off len : Nat} {zs : List Int} (hz : zs.length = len) (hr : RowAt w g off len zs) : ∀ j u, (u8s zs)[j]? = some u → w.cell? ⟨g, off + j, none⟩ = some u := by
  intro j u hu
  simp only [u8s, List.getElem?_map] at hu
  have hj : j < zs.length := by
    rcases Nat.lt_or_ge j zs.length with h | h
    · exact h
    · rw [List.getElem?_eq_none h] at hu; cases hu
  rw [List.getElem?_eq_getElem hj] at hu
  rw [hr j (by omega), List.getD_eq_getElem?_getD, List.getElem?_eq_getElem hj, ← hu]
  rfl
theorem u8s_one {zs : List Int} : ∀ u ∈ u8s zs, u.oneCell' = true := by
  intro u hu
  simp only [u8s, List.mem_map] at hu
  obtain ⟨n, _, rfl⟩ := hu
  rfl

/-- A copy of bytes: 'append([]byte{}, b...)', of one byte at least. -/
theorem wpList_clone {W : World} {ops : Array Oper} {rest : List Oper} {o : Oper} {a : Act} {Q : Exit → Act → World → Prop} (hgd : o.guard = none) (s x : Operand)
    (ho : o.op = .call { callee := .builtin .append, args := #[s, x], argTypes := #[32, 32] })
    (hs : a.eval s = .slice (some ⟨W.heap.size, 0, none⟩) 0 0) (g off len cap : Nat) (zs : List Int) (hx : a.eval x = .slice (some ⟨g, off, none⟩) len cap)
    (hz : zs.length = len) (h0 : 0 < len) (hl : len ≤ 1000) (hr : RowAt W g off len zs) (hg : g < W.heap.size)
    (h : ∀ g1 cap1 w1, Fresh W w1 g1 len zs → wpList Try.prog ops Q rest (a.put o.dst (.slice (some ⟨g1, 0, none⟩) len cap1)) w1) :
    wpList Try.prog ops Q (o :: rest) a (W.alloc (.cells #[] 5)) := by
  obtain ⟨i0, hi0, hz0, hz1, hz2⟩ := info_parts u8_info
  refine wpList_append_own_at _ hgd s x 32 ho W.heap.size 5 i0 _ 1 1 Try.underlying32 hi0 hz0 hz1 hz2 rfl (by omega) _ 0 [] hs (own_empty W) ⟨g, off, none⟩ len cap (u8s zs) hx
    (by rw [u8s_length, hz]; omega) (fun j u hu => ?_) u8s_one (by unfold maxLen; omega) (by omega) (by simp) fun v1 w1 hown hgr _ hat => ?_
  · rw [add_lit, World.cell?_alloc_lt _ _ _ hg]
    exact u8s_cells hz hr j u hu
  · have hb : Below W.heap.size W w1 := ((Below.refl _ _).alloc (Nat.le_refl _) _).grown hgr (by simp) (fun k hk => by
      simp [Value.ownBlock] at hk; omega)
    rw [Nat.zero_add, List.nil_append] at hown
    obtain ⟨g1, cap1, rfl, hf⟩ := fresh_of_own hz h0 hown hb
    exact h g1 cap1 w1 hf
end Go.Proofs.Ytenjdgoammaiiaa

/-
  Proved here: what New, Len, Size and Bytes of package array give. Conditions: as each says.
-/
namespace Go.Proofs.Ytenjdgoammaiiaa
open Go.RowKit
set_option maxRecDepth 100000

/-- An array in memory: its box lies in block A, its bytes in block G: n slots of s bytes, L together. -/
structure Arr (w : World) (A G s n L C : Nat) (zs : List Int) : Prop where
  c0 : w.cell? ⟨A, 0, none⟩ = some (.int .i64 s)
  c1 : w.cell? ⟨A, 1, none⟩ = some (.int .i64 n)
  c2 : w.cell? ⟨A, 2, none⟩ = some (.slice (some ⟨G, 0, none⟩) L C)
  row : RowAt w G 0 L zs
  free : ∀ j, w.frozen? ⟨G, j, none⟩ = false
  len : zs.length = L
  ne : A ≠ G
  lt : G < w.heap.size
theorem Arr.ltA {w : World} {A G s n L C : Nat} {zs : List Int} (h : Arr w A G s n L C zs) : A < w.heap.size := cell_block_lt h.c0
theorem Arr.below {w w' : World} {B A G s n L C : Nat} {zs : List Int} (h : Arr w A G s n L C zs) (hA : A < B) (hG : G < B) (hb : Below B w w') : Arr w' A G s n L C zs :=
  ⟨(hb.cell (p := ⟨A, 0, none⟩) hA).trans h.c0, (hb.cell (p := ⟨A, 1, none⟩) hA).trans h.c1, (hb.cell (p := ⟨A, 2, none⟩) hA).trans h.c2, rowAt_below h.row hG hb,
    fun j => (hb.frozen (p := ⟨G, j, none⟩) hG).trans (h.free j), h.len, h.ne, Nat.lt_of_lt_of_le h.lt hb.size⟩
theorem Arr.stay {w w' : World} {A G s n L C : Nat} {zs : List Int} (h : Arr w A G s n L C zs) (hb : Below w.heap.size w w') : Arr w' A G s n L C zs := h.below h.ltA h.lt hb
/-- The numbers that an array has. -/
structure Dim (s n L : Nat) : Prop where
  s0 : 1 ≤ s
  s1 : s ≤ 32
  n0 : 1 ≤ n
  n1 : n ≤ 16
  hL : s * n = L
theorem Dim.pos {s n L : Nat} (h : Dim s n L) : 0 < L := by
  have := Nat.mul_le_mul h.s0 h.n0
  have := h.hL
  omega
theorem Dim.le {s n L : Nat} (h : Dim s n L) : L ≤ 512 := by
  have := Nat.mul_le_mul h.s1 h.n1
  have := h.hL
  omega
theorem Dim.at {s n L k : Nat} (h : Dim s n L) (hk : k < n) : k * s + s ≤ L := by
  have h1 : (k + 1) * s ≤ n * s := Nat.mul_le_mul_right _ hk
  rw [Nat.add_mul, Nat.one_mul, Nat.mul_comm n s, h.hL] at h1
  exact h1
def zeros (L : Nat) : List Int := List.replicate L 0
theorem zeros_length (L : Nat) : (zeros L).length = L := by simp [zeros]
theorem zeros_get (L j : Nat) : (zeros L).getD j 0 = 0 := by
  rw [List.getD_eq_getElem?_getD]
  by_cases h : j < L
  · rw [List.getElem?_eq_getElem (by rw [zeros_length]; exact h)]; simp [zeros]
  · rw [List.getElem?_eq_none (by rw [zeros_length]; omega)]; rfl
theorem made_zero (L : Nat) : madeCells (Value.cells (.int .u8 0)) L = (u8s (zeros L)).toArray := by
  apply Array.ext
  · simp [u8s_length, zeros_length, size_madeCells]
  · intro i h1 h2
    simp [madeCells, Value.cells, u8s, zeros, Nat.mod_one]
theorem make_u8 (w : World) (m : Nat) (h : m ≤ 1000) : (Instr.makeSlice 32 (.int .i64 m) (.int .i64 m)).run Try.prog w = .ok (.slice (some ⟨w.heap.size, 0, none⟩) m m) (w.alloc (.cells (u8s (zeros m)).toArray 5)) := by
  obtain ⟨i0, hi0, hz0, hz1, hz2⟩ := info_parts u8_info
  have hr := run_make (P := Try.prog) w 32 5 i0 _ Try.underlying32 hi0 hz0 .i64 .i64 m m (by omega) (by omega) (by rw [hz2]; omega) (by omega)
  rw [hz1, Int.toNat_natCast, Nat.mul_one, made_zero] at hr
  exact hr
theorem zeros_cells (w : World) (m : Nat) : RowAt (w.alloc (.cells (u8s (zeros m)).toArray 5)) w.heap.size 0 m (zeros m) := by
  intro j hj
  rw [zeros_get]
  rw [World.cell?_alloc_new]
  simp [u8s, zeros, hj]

theorem arr_len (A : Nat) (n : Int) (w : World) (h : w.cell? ⟨A, 1, none⟩ = some (.int .i64 n)) : Calls Try.prog 66 #[.pointer (some ⟨A, 0, none⟩)] w (Ret (.int .i64 n) w) := by
  unfold Ret
  go_enter Try.func66, Try.ntmps66
  go_wp2
  go_ret
  exact ⟨rfl, rfl⟩
theorem arr_size (A : Nat) (s : Int) (w : World) (h : w.cell? ⟨A, 0, none⟩ = some (.int .i64 s)) : Calls Try.prog 61 #[.pointer (some ⟨A, 0, none⟩)] w (Ret (.int .i64 s) w) := by
  unfold Ret
  go_enter Try.func61, Try.ntmps61
  go_wp2
  go_ret
  exact ⟨rfl, rfl⟩
theorem clone_row (g len cap : Nat) (zs : List Int) (w : World) (hz : zs.length = len) (h0 : 0 < len) (hl : len ≤ 1000) (hr : RowAt w g 0 len zs) (hg : g < w.heap.size) :
    Calls Try.prog 83 #[.slice (some ⟨g, 0, none⟩) len cap] w (GaveRow w len zs) := by
  have HZ := Lib.hid hz
  clear hz
  have q := fun (w : World) (a : Option Addr) (n c n' c' : Nat) => Lib.run_eql_slice_nil (P := Try.prog) w 32 5 a n c n' c' Try.underlying32
  go_enter Try.func83, Try.ntmps83
  go_wp2_with (at_builtin; refine wpList_clone rfl _ _ rfl rfl g 0 len cap zs rfl HZ.out h0 hl hr hg ?_; intro g1 cap1 w1 hf)
  go_ret
  exact ⟨_, _, rfl, hf⟩
theorem arr_bytes (A G s n L C : Nat) (zs : List Int) (w : World) (h0 : 0 < L) (hl : L ≤ 1000) (h : Arr w A G s n L C zs) : Calls Try.prog 70 #[.pointer (some ⟨A, 0, none⟩)] w (GaveRow w L zs) := by
  have h2 := h.c2
  go_enter Try.func70, Try.ntmps70
  go_wp2_with (go_at_call 83; refine (clone_row _ _ _ zs _ h.len h0 hl h.row h.lt).mono ?_; rintro e w' ⟨g1, cap1, rfl, hf⟩)
  go_ret
  exact ⟨_, _, rfl, hf⟩

/-- What New gives of an array that can be. -/
def GaveArr (W : World) (s n L : Nat) (e : Ending) (w : World) : Prop :=
  e = .returned (.tuple #[.pointer (some ⟨W.heap.size + 1, 0, none⟩), .int .i64 0]) ∧ Below W.heap.size W w ∧ Arr w (W.heap.size + 1) W.heap.size s n L L (zeros L)
theorem arr_new (s n L : Nat) (w : World) (hd : Dim s n L) : Calls Try.prog 42 #[.int .i64 s, .int .i64 n] w (GaveArr w s n L) := by
  obtain ⟨s0, s1, n0, n1, hL⟩ := hd
  have hle : L ≤ 512 := by have := Nat.mul_le_mul s1 n1; omega
  have hm := make_u8 w L (by omega)
  have hw : IntKind.i64.wrap ((s : Int) * n) = L := by rw [← Int.natCast_mul, hL]; exact IntWalk.i64_in _ (by omega)
  have HL := Lib.hid hL
  clear hL
  go_enter Try.func42, Try.ntmps42
  go_wp2
  clear hm hw
  go_ret2
  refine ⟨rfl, ((Below.refl _ _).alloc (Nat.le_refl _) _).alloc (by simp) _, ?_⟩
  have hz := zeros_cells w L
  refine ⟨?_, ?_, ?_, fun j hj => ?_, fun j => ?_, zeros_length L, by omega, by simp; omega⟩
  · simp [go_sem]
  · simp [go_sem]
  · simp [go_sem]
  · rw [World.cell?_alloc_lt _ _ _ (by simp)]
    exact hz j hj
  · simp [go_sem]
theorem arr_not (s n : Int) (w : World) (h : ¬ (1 ≤ s ∧ s ≤ 32 ∧ 1 ≤ n ∧ n ≤ 16)) : Calls Try.prog 42 #[.int .i64 s, .int .i64 n] w (Ret (.tuple #[.pointer none, .int .i64 22]) w) := by
  unfold Ret
  by_cases h1 : s < 1
  · go_enter Try.func42, Try.ntmps42
    go_wp2
    go_ret2
    exact ⟨rfl, rfl⟩
  · by_cases h2 : 32 < s
    · go_enter Try.func42, Try.ntmps42
      go_wp2
      go_ret2
      exact ⟨rfl, rfl⟩
    · by_cases h3 : n < 1
      · go_enter Try.func42, Try.ntmps42
        go_wp2
        go_ret2
        exact ⟨rfl, rfl⟩
      · have h4 : 16 < n := by omega
        go_enter Try.func42, Try.ntmps42
        go_wp2
        go_ret2
        exact ⟨rfl, rfl⟩
def mayB (s n : Int) : Bool := decide (1 ≤ s) && decide (s ≤ 32) && decide (1 ≤ n) && decide (n ≤ 16)
theorem may_yes {s n : Int} (h : mayB s n = true) : 1 ≤ s ∧ s ≤ 32 ∧ 1 ≤ n ∧ n ≤ 16 := by
  simpa [mayB, and_assoc] using h
theorem may_no {s n : Int} (h : mayB s n = false) : ¬ (1 ≤ s ∧ s ≤ 32 ∧ 1 ≤ n ∧ n ≤ 16) := by
  intro h1
  simp [mayB, h1] at h
end Go.Proofs.Ytenjdgoammaiiaa
