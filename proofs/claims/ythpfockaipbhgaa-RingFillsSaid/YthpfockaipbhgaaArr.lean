/-
  Proved here: what New, Len, Size and Bytes of package array give. Conditions: as each says.
-/
import Derived.Test.YthpfockaipbhgaaBase
import Derived.WalkSpells
import Derived.Lib.SmallJoins
namespace Go.Proofs.Ythpfockaipbhgaa
open Go.RowKit

/-- An array in memory: its box lies in block A, its bytes in block G: n slots of s bytes, L together. -/
structure Arr (w : World) (A G s n L C : Nat) (zs : List Int) : Prop where
  c0 : w.cell? ⟨A, 0, none⟩ = some (.int .i64 s)
  c1 : w.cell? ⟨A, 1, none⟩ = some (.int .i64 n)
  c2 : w.cell? ⟨A, 2, none⟩ = some (.slice (some ⟨G, 0, none⟩) L C)
  row : RowAt w G 0 L zs
  free : ∀ j, w.frozen? ⟨G, j, none⟩ = false
  len : zs.length = L
  ne : A ≠ G
  lt : G < w.heap.size
theorem Arr.ltA {w : World} {A G s n L C : Nat} {zs : List Int} (h : Arr w A G s n L C zs) : A < w.heap.size := cell_block_lt h.c0
theorem Arr.below {w w' : World} {B A G s n L C : Nat} {zs : List Int} (h : Arr w A G s n L C zs) (hA : A < B) (hG : G < B) (hb : Below B w w') : Arr w' A G s n L C zs :=
  ⟨(hb.cell (p := ⟨A, 0, none⟩) hA).trans h.c0, (hb.cell (p := ⟨A, 1, none⟩) hA).trans h.c1, (hb.cell (p := ⟨A, 2, none⟩) hA).trans h.c2, rowAt_below h.row hG hb,
    fun j => (hb.frozen (p := ⟨G, j, none⟩) hG).trans (h.free j), h.len, h.ne, Nat.lt_of_lt_of_le h.lt hb.size⟩
theorem Arr.stay {w w' : World} {A G s n L C : Nat} {zs : List Int} (h : Arr w A G s n L C zs) (hb : Below w.heap.size w w') : Arr w' A G s n L C zs := h.below h.ltA h.lt hb
/-- The numbers that an array has. -/
structure Dim (s n L : Nat) : Prop where
  s0 : 1 ≤ s
  s1 : s ≤ 32
  n0 : 1 ≤ n
  n1 : n ≤ 16
  hL : s * n = L
theorem Dim.pos {s n L : Nat} (h : Dim s n L) : 0 < L := by
  have := Nat.mul_le_mul h.s0 h.n0
  have := h.hL
  omega
theorem Dim.le {s n L : Nat} (h : Dim s n L) : L ≤ 512 := by
  have := Nat.mul_le_mul h.s1 h.n1
  have := h.hL
  omega
theorem Dim.at {s n L k : Nat} (h : Dim s n L) (hk : k < n) : k * s + s ≤ L := by
  have h1 : (k + 1) * s ≤ n * s := Nat.mul_le_mul_right _ hk
  rw [Nat.add_mul, Nat.one_mul, Nat.mul_comm n s, h.hL] at h1
  exact h1
def zeros (L : Nat) : List Int := List.replicate L 0
theorem zeros_length (L : Nat) : (zeros L).length = L := by simp [zeros]
theorem zeros_get (L j : Nat) : (zeros L).getD j 0 = 0 := by
  rw [List.getD_eq_getElem?_getD]
  by_cases h : j < L
  · rw [List.getElem?_eq_getElem (by rw [zeros_length]; exact h)]; simp [zeros]
  · rw [List.getElem?_eq_none (by rw [zeros_length]; omega)]; rfl
theorem made_zero (L : Nat) : madeCells (Value.cells (.int .u8 0)) L = (u8s (zeros L)).toArray := by
  apply Array.ext
  · simp [u8s_length, zeros_length, size_madeCells]
  · intro i h1 h2
    simp [madeCells, Value.cells, u8s, zeros, Nat.mod_one]
theorem make_u8 (w : World) (m : Nat) (h : m ≤ 1000) : (Instr.makeSlice 36 (.int .i64 m) (.int .i64 m)).run Try.prog w = .ok (.slice (some ⟨w.heap.size, 0, none⟩) m m) (w.alloc (.cells (u8s (zeros m)).toArray 5)) := by
  obtain ⟨i0, hi0, hz0, hz1, hz2⟩ := info_parts u8_info
  have hr := run_make (P := Try.prog) w 36 5 i0 _ Try.underlying36 hi0 hz0 .i64 .i64 m m (by omega) (by omega) (by rw [hz2]; omega) (by omega)
  rw [hz1, Int.toNat_natCast, Nat.mul_one, made_zero] at hr
  exact hr
theorem zeros_cells (w : World) (m : Nat) : RowAt (w.alloc (.cells (u8s (zeros m)).toArray 5)) w.heap.size 0 m (zeros m) := by
  intro j hj
  rw [zeros_get]
  rw [World.cell?_alloc_new]
  simp [u8s, zeros, hj]

/-- What New gives of an array that can be. -/
def GaveArr (W : World) (s n L : Nat) (e : Ending) (w : World) : Prop :=
  e = .returned (.tuple #[.pointer (some ⟨W.heap.size + 1, 0, none⟩), .int .i64 0]) ∧ Below W.heap.size W w ∧ Arr w (W.heap.size + 1) W.heap.size s n L L (zeros L)
def mayB (s n : Int) : Bool := decide (1 ≤ s) && decide (s ≤ 32) && decide (1 ≤ n) && decide (n ≤ 16)
theorem may_yes {s n : Int} (h : mayB s n = true) : 1 ≤ s ∧ s ≤ 32 ∧ 1 ≤ n ∧ n ≤ 16 := by
  simpa [mayB, and_assoc] using h
theorem may_no {s n : Int} (h : mayB s n = false) : ¬ (1 ≤ s ∧ s ≤ 32 ∧ 1 ≤ n ∧ n ≤ 16) := by
  intro h1
  simp [mayB, h1] at h
end Go.Proofs.Ythpfockaipbhgaa
