/-
  Proved here: Bytes of package inst returns a new row with the instructions' bytes. Conditions: at most 200 instructions.
-/
import Derived.Test.YtmihmgchbibmoaaWrite
import Derived.Deep.RegionHeld
import Derived.Laws.MakeOwn
namespace Go.Proofs.Ytmihmgchbibmoaa
open Go.RowKit

/-- n bytes that are 0, in cells. -/
def zeroCells (n : Nat) : Array Value := madeCells #[.int .u8 0] n
theorem zeroCells_at (n j : Nat) (h : j < n) : (zeroCells n)[j]? = some (.int .u8 0) := by
  have e : (Array.range n)[j]? = some j := by simp [h]
  simp only [zeroCells, madeCells, Array.getElem?_map, e, Option.map_some]
  simp [Nat.mod_one]
theorem run_zeros (n : Nat) (k : Int) (hk : k = n) (h : n ≤ 100000) (w : World) :
    (Instr.makeSlice 24 (.int .i64 k) (.int .i64 k)).run Try.prog w = .ok (.slice (some ⟨w.heap.size, 0, none⟩) n n) (w.alloc (.cells (zeroCells n) 5)) := by
  obtain ⟨i0, hi0, hz0, hz1, hz2⟩ := info_parts u8_info
  subst hk
  have hr := run_make (P := Try.prog) w 24 5 i0 _ Try.underlying24 hi0 hz0 .i64 .i64 n n (by omega) (by omega) (by rw [hz2]; omega) (by omega)
  simp only [Int.toNat_natCast, hz1, Nat.mul_one] at hr
  exact hr
theorem fresh_zeros (W w : World) (hb : Below W.heap.size W w) (n : Nat) : Fresh W (w.alloc (.cells (zeroCells n) 5)) w.heap.size n (List.replicate n 0) where
  at_ := hb.size
  row := fun j hj => by
    have h : (w.alloc (.cells (zeroCells n) 5)).heap[w.heap.size]? = some (.cells (zeroCells n) 5) := heap_alloc_new w _
    simp only [World.cell?, h]
    rw [Nat.zero_add, List.getD_eq_getElem?_getD, List.getElem?_replicate, if_pos hj]
    exact zeroCells_at n j hj
  free := fun j => by
    have h : (w.alloc (.cells (zeroCells n) 5)).heap[w.heap.size]? = some (.cells (zeroCells n) 5) := heap_alloc_new w _
    simp only [World.frozen?, h]
    simp
  below := hb.alloc hb.size _

/-- The cells of instructions in a row. -/
def InsRow (w : World) (g off : Nat) (l : List Ins) : Prop := ∀ j, j < l.length →
  w.cell? ⟨g, off + j * 5, none⟩ = some (.int .u8 (l.getD j .zero).op) ∧ w.cell? ⟨g, off + j * 5 + 1, none⟩ = some (.int .u8 (l.getD j .zero).dst) ∧
  w.cell? ⟨g, off + j * 5 + 2, none⟩ = some (.int .u8 (l.getD j .zero).src) ∧ w.cell? ⟨g, off + j * 5 + 3, none⟩ = some (.int .i16 (l.getD j .zero).off) ∧
  w.cell? ⟨g, off + j * 5 + 4, none⟩ = some (.int .i32 (l.getD j .zero).imm)
theorem InsRow.below {W w w' : World} {g off : Nat} {l : List Ins} (h : InsRow w g off l) (hb : Below W.heap.size w w') (hg : g < W.heap.size) : InsRow w' g off l := by
  intro j hj
  obtain ⟨h0, h1, h2, h3, h4⟩ := h j hj
  exact ⟨(hb.cell (p := ⟨g, _, none⟩) hg).trans h0, (hb.cell (p := ⟨g, _, none⟩) hg).trans h1, (hb.cell (p := ⟨g, _, none⟩) hg).trans h2, (hb.cell (p := ⟨g, _, none⟩) hg).trans h3, (hb.cell (p := ⟨g, _, none⟩) hg).trans h4⟩
/-- A slice of instructions. -/
def InsAt (w : World) (A : Option Addr) (l : List Ins) : Prop := l.length = 0 ∨ ∃ g off, A = some ⟨g, off, none⟩ ∧ g < w.heap.size ∧ InsRow w g off l
/-- What is answered: a new row of bytes. -/
def GaveRow (W : World) (len : Nat) (zs : List Int) (e : Ending) (w : World) : Prop := ∃ g cap, e = .returned (.slice (some ⟨g, 0, none⟩) len cap) ∧ Fresh W w g len zs

theorem Fresh.drew {W w : World} {g len : Nat} {zs : List Int} (h : Fresh W w g len zs) : Fresh W w.drew g len zs :=
  ⟨h.at_, h.row, h.free, h.below.drew⟩
theorem wrote_next {W w w' : World} {g len : Nat} {zs : List Int} {v : Value} {e : Ending} (h : Wrote W w g len zs v e w') : e = .returned v ∧ Fresh W w' g len zs := ⟨h.1, h.2.1⟩
theorem box_far {w w2 : World} {g T : Nat} {x : Ins} (h : (w.alloc (.cells #[.int .u8 x.op, .int .u8 x.dst, .int .u8 x.src, .int .i16 x.off, .int .i32 x.imm] T)).drew.grownBy w2 (some g)) (hg : g < w.heap.size) :
    w2.cell? ⟨w.heap.size, 0, none⟩ = some (.int .u8 x.op) ∧ w2.cell? ⟨w.heap.size, 1, none⟩ = some (.int .u8 x.dst) ∧ w2.cell? ⟨w.heap.size, 2, none⟩ = some (.int .u8 x.src) ∧
      w2.cell? ⟨w.heap.size, 3, none⟩ = some (.int .i16 x.off) ∧ w2.cell? ⟨w.heap.size, 4, none⟩ = some (.int .i32 x.imm) := by
  refine ⟨?_, ?_, ?_, ?_, ?_⟩
  all_goals
    rw [h.cell_far _ (by simp) (by simp; omega)]
    simp [go_sem]
/-- .. as long as its room. -/
def GaveFull (W : World) (len : Nat) (zs : List Int) (e : Ending) (w : World) : Prop := ∃ g, e = .returned (.slice (some ⟨g, 0, none⟩) len len) ∧ Fresh W w g len zs
theorem bytes_full (w : World) (A : Option Addr) (len cap : Nat) (l : List Ins) (hl : l.length = len) (h200 : len ≤ 200) (hfit : ∀ x ∈ l, x.Fit) (hr : InsAt w A l) :
    Calls Try.prog 8 #[.slice A len cap] w (GaveFull w (8 * len) (bytesOf l)) := by
  have hmk := run_zeros (8 * len) (8 * (len : Int)) (by omega) (by omega)
  have HL := Lib.hid hl
  clear hl
  go_enter Try.func8, Try.ntmps8
  go_wp2
  clear hmk
  go_loopw [12] (fun i wr => ∃ k : Nat, k ≤ len ∧ i = .int .i64 k ∧ Fresh w wr w.heap.size (8 * len) (upTo l k)) (fun i _ => len - (intOf i).toNat)
  case atStart =>
    refine ⟨0, by omega, rfl, ?_⟩
    have e : upTo l 0 = List.replicate (8 * len) 0 := by simp [upTo, bytesOf, HL.out]
    rw [e]
    exact fresh_zeros w w (Below.refl _ _) _
  case round =>
    obtain ⟨k, hk, rfl, hf⟩ := hrel
    by_cases hlt : k < len
    · have hll := HL.out
      obtain ⟨g, off, rfl, hg, hrow⟩ : ∃ g off, A = some ⟨g, off, none⟩ ∧ g < w.heap.size ∧ InsRow w g off l := by
        rcases hr with h | h
        · omega
        · exact h
      have hgr : g < wr.heap.size := Nat.lt_of_lt_of_le hg hf.below.size
      obtain ⟨c0, c1, c2, c3, c4⟩ := (hrow.below hf.below hg) k (by omega)
      have hxf : (l.getD k .zero).Fit := by
        rw [List.getD_eq_getElem?_getD, List.getElem?_eq_getElem (by omega)]
        exact hfit _ (List.getElem_mem _)
      have hput := upTo_put l k (by omega)
      have hup := upTo_length l k (by omega)
      obtain ⟨x, hx⟩ : ∃ x, l.getD k .zero = x := ⟨_, rfl⟩
      rw [hx] at c0 c1 c2 c3 c4 hxf hput
      obtain ⟨zs, hzs⟩ : ∃ zs, upTo l k = zs := ⟨_, rfl⟩
      rw [hzs] at hput hup hf
      have HP := Lib.hid hput
      have HU2 := Lib.hid (show zs.length = 8 * len by rw [hup, hll])
      have HU := Lib.hid hup
      have HF := Lib.hid hf
      have HX := Lib.hid hx
      have HZ := Lib.hid hzs
      have HA := Lib.hid hrow
      clear hx hzs hput hup hf hll hrow hfit hr
      go_wp2
      have hf1 := (HF.out.alloc (HF.out.lt (by omega)) (.cells #[.int .u8 x.op, .int .u8 x.dst, .int .u8 x.src, .int .i16 x.off, .int .i32 x.imm] 36)).drew
      have e1 : IntKind.i64.wrap (8 * (k : Int)) = 8 * (k : Int) := IntWalk.i64_in _ (by omega)
      have e2 : (0 : Int) ≤ 8 * (k : Int) := by omega
      have e3 : (8 * (k : Int)).toNat = 8 * k := by omega
      have e4 : 8 * k ≤ 8 * len := by omega
      have e7 : w.heap.size < wr.heap.size := HF.out.lt (by omega)
      have e6 : ¬ (8 * len = 8 * k) := by omega
      have e5 : 8 * (k : Int) ≤ 8 * (len : Int) := by omega
      go_region_held (fun w' => w'.cell? ⟨wr.heap.size, 0, none⟩ = some (.int .u8 x.op) ∧ w'.cell? ⟨wr.heap.size, 1, none⟩ = some (.int .u8 x.dst) ∧ w'.cell? ⟨wr.heap.size, 2, none⟩ = some (.int .u8 x.src) ∧
          w'.cell? ⟨wr.heap.size, 3, none⟩ = some (.int .i16 x.off) ∧ w'.cell? ⟨wr.heap.size, 4, none⟩ = some (.int .i32 x.imm)) (first | exact hS2 | go_keep)
        (first | (go_at_call 16; refine (write_one w _ w.heap.size (8 * len) (8 * k) (8 * len - 8 * k) _ zs x hxf hf1 HU2.out (by omega) (by omega) (by omega)).mono ?_; rintro e w2 ⟨rfl, hf2, hg2⟩; rw [HP.out] at hf2; have HF2 := Lib.hid hf2; have hS2 := box_far hg2 (by omega); clear hf2 hg2))
      go_wp2
      go_roundw
      case rel => exact ⟨k + 1, by omega, by go_num, HF2.out⟩
      case measure => simp [intOf]; omega
    · obtain rfl : k = len := by omega
      have hup : upTo l k = bytesOf l := by
        have := upTo_all l
        rwa [HL.out] at this
      rw [hup] at hf
      have HF := Lib.hid hf
      clear hf hup hr
      go_wp2
      go_ret
      exact ⟨_, rfl, HF.out⟩
theorem bytes_inst (w : World) (A : Option Addr) (len cap : Nat) (l : List Ins) (hl : l.length = len) (h200 : len ≤ 200) (hfit : ∀ x ∈ l, x.Fit) (hr : InsAt w A l) :
    Calls Try.prog 8 #[.slice A len cap] w (GaveRow w (8 * len) (bytesOf l))  :=
  (bytes_full w A len cap l hl h200 hfit hr).mono fun _ _ ⟨g, he, hf⟩ => ⟨g, _, he, hf⟩
end Go.Proofs.Ytmihmgchbibmoaa
