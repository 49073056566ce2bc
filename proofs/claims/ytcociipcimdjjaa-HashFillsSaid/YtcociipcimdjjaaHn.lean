/-
  Proved here: what New of the program's map gives. Conditions: as each lemma says.
-/
import Derived.Test.YtcociipcimdjjaaHf
import Derived.LoopTactic
namespace Go.Proofs.Ytcociipcimdjjaa
open Go.RowKit

/-- The free slots under way. -/
def rowK (n k : Nat) : List Int := (List.range n).map fun j => if j < k then (j : Int) else 0
theorem rowK_length (n k : Nat) : (rowK n k).length = n := by simp [rowK]
theorem rowK_zero (n : Nat) : rowK n 0 = List.replicate n 0 := by
  apply List.ext_getElem
  · simp [rowK]
  · intro i h1 h2
    simp [rowK]
theorem rowK_all (n : Nat) : rowK n n = (List.range n).map Int.ofNat := by
  refine List.map_congr_left fun j hj => ?_
  rw [if_pos (List.mem_range.1 hj)]
  rfl
theorem rowK_set {n k : Nat} : (rowK n k).set k (k : Int) = rowK n (k + 1) := by
  apply List.ext_getElem
  · simp [rowK]
  · intro i h1 h2
    rw [List.getElem_set]
    simp only [rowK, List.getElem_map, List.getElem_range]
    by_cases e : k = i
    · subst e; simp
    · rw [if_neg e]
      by_cases h : i < k
      · rw [if_pos h, if_pos (by omega)]
      · rw [if_neg h, if_neg (by omega)]
theorem made_int (m : Nat) : madeCells (Value.cells (.int .i64 0)) m = (ints (List.replicate m 0)).toArray := by
  apply Array.ext
  · simp [size_madeCells, ints]
  · intro i h1 h2
    simp [madeCells, Value.cells, Nat.mod_one, ints]
theorem make_free (w : World) (m : Nat) (h : m ≤ 1000) : (Instr.makeSlice 61 (.int .i64 m) (.int .i64 m)).run Try.prog w = .ok (.slice (some ⟨w.heap.size, 0, none⟩) m m) (w.alloc (.cells (ints (rowK m 0)).toArray 3)) := by
  obtain ⟨i0, hi0, hz0, hz1, hz2⟩ := info_parts int_info
  have hr := run_make (P := Try.prog) w 61 3 i0 _ Try.underlying61 hi0 hz0 .i64 .i64 m m (by omega) (by omega) (by rw [hz2]; omega) (by omega)
  rw [hz1, Int.toNat_natCast, Nat.mul_one, made_int, ← rowK_zero] at hr
  exact hr
def AllFree (n : Nat) (W : World) (e : Ending) (w : World) : Prop :=
  e = .returned (.slice (some ⟨W.heap.size, 0, none⟩) n n) ∧ w.heap[W.heap.size]? = some (.cells (ints ((List.range n).map Int.ofNat)).toArray 3 (0, 0)) ∧ Below W.heap.size W w ∧ w.heap.size = W.heap.size + 1
theorem all_free (n : Nat) (w : World) (hn : n ≤ 1000) : Calls Try.prog 22 #[.int .i64 n] w (AllFree n w) := by
  have hmk := make_free w n hn
  have hB0 : (w.alloc (.cells (ints (rowK n 0)).toArray 3)).heap[w.heap.size]? = some (.cells (ints (rowK n 0)).toArray 3 (0, 0)) := heap_alloc_new w _
  have hb0 : Below w.heap.size w (w.alloc (.cells (ints (rowK n 0)).toArray 3)) := (Below.refl _ _).alloc (Nat.le_refl _) _
  have HB0 := Lib.hid hB0
  have Hb0 := Lib.hid hb0
  unfold AllFree
  clear hB0 hb0
  go_enter Try.func22, Try.ntmps22
  go_wp2
  go_loopw [9] (fun v wr => ∃ k : Nat, k ≤ n ∧ v = .int .i64 k ∧ wr.heap[w.heap.size]? = some (.cells (ints (rowK n k)).toArray 3 (0, 0)) ∧ Below w.heap.size w wr ∧ wr.heap.size = w.heap.size + 1) (fun v _ => n - (intOf v).toNat)
  case atStart => exact ⟨0, by omega, rfl, HB0.out, Hb0.out, by simp⟩
  case round =>
    obtain ⟨k, hk, rfl, hbl, hb, hz⟩ := hrel
    have Hb := Lib.hid hb
    have HZ := Lib.hid hz
    clear hb hz
    by_cases hlt : k < n
    · have hc : wr.cell? ⟨w.heap.size, k, none⟩ = some (.int .i64 0) := by
        simp [World.cell?, hbl, ints, rowK, hlt]
      have hf : wr.frozen? ⟨w.heap.size, k, none⟩ = false := by simp [World.frozen?, hbl]
      have hnew : (wr.setCell ⟨w.heap.size, k, none⟩ (.int .i64 (k : Int))).heap[w.heap.size]? = some (.cells (ints (rowK n (k + 1))).toArray 3 (0, 0)) := by
        rw [← rowK_set]
        simp [World.setCell, Array.getElem?_modify, hbl, ints, List.map_set]
      have HN := Lib.hid hnew
      clear hbl hnew hmk
      go_wp2
      go_roundw
      case rel => exact ⟨k + 1, by omega, by go_num, HN.out, Hb.out.setCell (p := ⟨w.heap.size, k, none⟩) (Nat.le_refl _) _, by simp [World.setCell]; exact HZ.out⟩
      case measure => simp [intOf]; omega
    · obtain rfl : k = n := by omega
      rw [rowK_all] at hbl
      have HBL := Lib.hid hbl
      clear hbl hmk
      go_wp2
      go_ret
      exact ⟨rfl, HBL.out, Hb.out, HZ.out⟩
theorem hm_new_not (key s n : Int) (w : World) (h : ¬ (1 ≤ s ∧ s ≤ 32 ∧ 1 ≤ n ∧ n ≤ 16 ∧ 1 ≤ key ∧ key ≤ 8)) : Calls Try.prog 6 #[.int .i64 key, .int .i64 s, .int .i64 n] w (fun e w' => e = .returned (.tuple #[.pointer none, .int .i64 22]) ∧ Below w.heap.size w w') := by
  by_cases h1 : 1 ≤ s ∧ s ≤ 32 ∧ 1 ≤ n ∧ n ≤ 16
  · obtain ⟨a1, a2, a3, a4⟩ := h1
    obtain ⟨s', rfl⟩ := Int.eq_ofNat_of_zero_le (show 0 ≤ s by omega)
    obtain ⟨n', rfl⟩ := Int.eq_ofNat_of_zero_le (show 0 ≤ n by omega)
    have hd : Dim s' n' (s' * n') := ⟨by omega, by omega, by omega, by omega, rfl⟩
    by_cases h2 : key < 1
    · have hq : decide (key < 1) = true := by simpa using h2
      clear h
      go_enter Try.func6, Try.ntmps6
      go_wp2_with (go_at_call 21; refine (arr_new s' n' (s' * n') _ hd).mono ?_; rintro e w1 ⟨rfl, hb, -⟩; have HB := Lib.hid hb; clear hb)
      go_ret2
      exact ⟨rfl, HB.out⟩
    · have h3 : 8 < key := by omega
      have hq : decide (key < 1) = false := by simpa using h2
      have hq2 : decide (8 < key) = true := by simpa using h3
      clear h
      go_enter Try.func6, Try.ntmps6
      go_wp2_with (go_at_call 21; refine (arr_new s' n' (s' * n') _ hd).mono ?_; rintro e w1 ⟨rfl, hb, -⟩; have HB := Lib.hid hb; clear hb)
      go_ret2
      exact ⟨rfl, HB.out⟩
  · clear h
    go_enter Try.func6, Try.ntmps6
    go_wp2_with (go_at_call 21; refine (arr_not s n _ h1).mono ?_; rintro e w1 ⟨rfl, rfl⟩)
    go_ret2
    exact ⟨rfl, Below.refl _ _⟩
theorem hm_new (key s n L : Nat) (w : World) (hd : Dim s n L) (hk : 1 ≤ key) (hk8 : key ≤ 8) : Calls Try.prog 6 #[.int .i64 (key : Int), .int .i64 (s : Int), .int .i64 (n : Int)] w (NewP (PM key s n L) n L w) := by
  have hmm := @run_makeMap Try.prog
  have hn1 := hd.n1
  have HD := Lib.hid hd
  clear hd
  unfold NewP
  go_enter Try.func6, Try.ntmps6
  go_wp2_with (first
    | (go_at_call 21; refine (arr_new s n L _ HD.out).mono ?_; rintro e w1 ⟨rfl, hb, ha⟩; have HB1 := Lib.hid hb; have HA1 := Lib.hid ha; clear hb ha)
    | (go_at_call 22; refine (all_free n _ (by omega)).mono ?_; rintro e w3 ⟨rfl, hbl, hb3, hz3⟩; have HBL := Lib.hid hbl; have HB3 := Lib.hid hb3; have HZ3 := Lib.hid hz3; clear hbl hb3 hz3))
  go_ret2
  have hz2 : (w1.alloc (.map #[] 0)).heap.size = w1.heap.size + 1 := by simp
  have hb3 := HB3.out
  have hz3 := HZ3.out
  have hbl := HBL.out
  rw [hz2] at hb3 hz3 hbl
  have ha := HA1.out
  have hal := ha.lt
  have haA := ha.ltA
  have hb1 := HB1.out
  have hm2 : (w1.alloc (.map #[] 0)).ownsMap Try.prog 9 (plainElem (H := Unit) Try.prog 3) w1.heap.size 0 (.map []) := World.ownsMap_made w1 _ _ _
  have hm3 := ownsMap_kept hm2 (hb3.block w1.heap.size (by omega))
  obtain ⟨box, hbox⟩ : ∃ box, (#[.int .i64 (key : Int), .pointer (some ⟨w.heap.size + 1, 0, none⟩), .map (some w1.heap.size), .slice (some ⟨w1.heap.size + 1, 0, none⟩) n n] : Array Value) = box := ⟨_, rfl⟩
  have hb4 : Below w3.heap.size w3 (w3.alloc (.cells box 64)) := (Below.refl _ _).alloc (Nat.le_refl _) _
  have hw12 : Below w1.heap.size w1 (w1.alloc (.map #[] 0)) := (Below.refl _ _).alloc (Nat.le_refl _) _
  have hw13 : Below w1.heap.size w1 w3 := hw12.trans (hb3.mono (by omega))
  have hw14 : Below w1.heap.size w1 (w3.alloc (.cells box 64)) := hw13.trans (hb4.mono hw13.size)
  have hnb : (w3.alloc (.cells box 64)).heap[w3.heap.size]? = some (.cells box 64 (0, 0)) := heap_alloc_new w3 _
  have hbl4 := (hb4.block (w1.heap.size + 1) (by omega)).trans hbl
  have hm4 := ownsMap_kept hm3 (hb4.block w1.heap.size (by omega))
  have ha4 := ha.stay hw14
  have hbw4 : Below w.heap.size w (w3.alloc (.cells box 64)) := hb1.trans (hw14.mono (by omega))
  have hs1 := hb1.size
  have hdle := HD.out.le
  refine ⟨w3.heap.size, HmS w3.heap.size (w.heap.size + 1) w.heap.size w1.heap.size (.slice (some ⟨w1.heap.size + 1, 0, none⟩) n n), rfl, ⟨w.heap.size + 1, w.heap.size, L, w1.heap.size, .slice (some ⟨w1.heap.size + 1, 0, none⟩) n n, n, (List.range n).map Int.ofNat, .map [], ?_, fun b => Iff.rfl⟩, by rw [hbox]; exact hbw4, ?_⟩
  · rw [hbox]
    refine ⟨?_, ?_, ?_, ⟨?_, ⟨by simp [ints], .inr ⟨w1.heap.size + 1, n, _, rfl, Nat.zero_le _, hbl4, Nat.le_refl _, by unfold maxLen; omega, by simp [ints], by rw [Nat.mul_one, List.toList_toArray]; exact List.take_of_length_le (by simp [ints])⟩⟩, fun e => by injection e with e; simp only at e; omega⟩, ?_, isHeap_range n, ?_, ha4, Nat.le_refl _, by unfold maxLen; omega, hm4.mono (Nat.zero_le _), agr_new n, uniq_new n, by simp [noKeys], fun y hy hne => ?_, fun e => by injection e with e; simp only at e; omega, fun e => by injection e with e; simp only at e; omega⟩
    · unfold World.cell?; simp only [hnb]; rw [← hbox]; rfl
    · unfold World.cell?; simp only [hnb]; rw [← hbox]; rfl
    · unfold World.cell?; simp only [hnb]; rw [← hbox]; rfl
    · unfold World.cell?; simp only [hnb]; rw [← hbox]; rfl
    · unfold World.frozen?; simp only [hnb]; simp
    · unfold noKeys
      rw [freeK_new]
    · unfold noKeys at hy
      exact absurd (List.eq_of_mem_replicate hy) hne
  · rintro b (h1 | h1 | h1 | h1 | h1)
    · omega
    · omega
    · omega
    · omega
    · injection h1 with h1
      simp only at h1
      omega
end Go.Proofs.Ytcociipcimdjjaa
