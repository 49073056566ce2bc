/-
  Proved here: what Kind and Count of package hooks give, and the document's Kind and Row. Conditions: as each says.
-/
import Derived.Test.YtcdpmggjdmibjaaOf
import Derived.Deep.QuietTactic
import Derived.BigQuiet
namespace Go.Proofs.Ytcdpmggjdmibjaa
open Go.RowKit

/-- A byte of a hook's words. -/
theorem word_cell {w : World} {p k j : Nat} (h : w.heap[p]? = some (.cells (u8s (kindL k)).toArray 5 (0, 0))) (hj : j < (kindL k).length) : w.cell? ⟨p, j, none⟩ = some (.int .u8 ((kindL k).getD j 0)) := by
  rw [cell_of_row _ _ _ _ _ _ h]
  simp [u8s, hj]
theorem kind_yes (k j : Nat) (w : World) (h1 : 1 ≤ k) (h2 : k ≤ 16) (hj : j < (kindL k).length) : Calls Try.prog 27 #[.int .i64 k, .int .i64 j] w (Tells (.tuple #[.int .u8 ((kindL k).getD j 0), .bool true]) w) := by
  generalize hn : (kindL k).length = n at hj
  generalize hv : (kindL k).getD j 0 = v
  have HN := Lib.hid hn
  have HV := Lib.hid hv
  clear hn hv
  go_enter Try.func27, Try.ntmps27
  go_wp2_with (go_at_call 21; refine (of_yes k _ h1 h2).mono ?_; rintro e w' ⟨p, rfl, hp, hr, hb⟩; rw [HN.out]; have hpl : p < w'.heap.size := (Array.getElem?_eq_some_iff.1 hr).1; have hcell := word_cell hr (j := j) (by rw [HN.out]; exact hj); rw [HV.out] at hcell; have hcell' : ∀ o, (w'.alloc o).cell? ⟨p, j, none⟩ = some (.int .u8 v) := (fun o => (World.cell?_alloc_lt _ _ _ hpl).trans hcell); have HB := Lib.hid hb; have HR := Lib.hid hr; clear hb hr hcell)
  go_ret2
  exact ⟨rfl, HB.out.trans ((Below.refl _ _).alloc HB.out.size _)⟩
theorem kind_out (k : Nat) (j : Int) (w : World) (h1 : 1 ≤ k) (h2 : k ≤ 16) (hj : ¬ (0 ≤ j ∧ j < (kindL k).length)) : Calls Try.prog 27 #[.int .i64 k, .int .i64 j] w (Tells (.tuple #[.int .u8 0, .bool false]) w) := by
  generalize hn : (kindL k).length = n at hj
  have HN := Lib.hid hn
  clear hn
  by_cases h0 : j < 0
  · clear hj
    go_enter Try.func27, Try.ntmps27
    go_wp2_with (go_at_call 21; refine (of_yes k _ h1 h2).mono ?_; rintro e w' ⟨p, rfl, hp, hr, hb⟩; rw [HN.out]; have HB := Lib.hid hb; clear hb hr)
    go_ret2
    exact ⟨rfl, HB.out.trans ((Below.refl _ _).alloc HB.out.size _)⟩
  · have h3 : (n : Int) ≤ j := by omega
    clear hj
    go_enter Try.func27, Try.ntmps27
    go_wp2_with (go_at_call 21; refine (of_yes k _ h1 h2).mono ?_; rintro e w' ⟨p, rfl, hp, hr, hb⟩; rw [HN.out]; have HB := Lib.hid hb; clear hb hr)
    go_ret2
    exact ⟨rfl, HB.out.trans ((Below.refl _ _).alloc HB.out.size _)⟩
theorem kind_none (k j : Int) (w : World) (h : ¬ (1 ≤ k ∧ k ≤ 16)) : Calls Try.prog 27 #[.int .i64 k, .int .i64 j] w (Tells (.tuple #[.int .u8 0, .bool false]) w) := by
  by_cases h0 : j < 0
  · go_enter Try.func27, Try.ntmps27
    go_wp2_with (go_at_call 21; refine (of_no k _ h).mono ?_; rintro e w' ⟨rfl, hb⟩; have HB := Lib.hid hb; clear hb)
    go_ret2
    exact ⟨rfl, HB.out.trans ((Below.refl _ _).alloc HB.out.size _)⟩
  · have h3 : (0 : Int) ≤ j := by omega
    clear h0
    go_enter Try.func27, Try.ntmps27
    go_wp2_with (go_at_call 21; refine (of_no k _ h).mono ?_; rintro e w' ⟨rfl, hb⟩; have HB := Lib.hid hb; clear hb)
    go_ret2
    exact ⟨rfl, HB.out.trans ((Below.refl _ _).alloc HB.out.size _)⟩

/-- The kind of a letter. -/
def lettI (c : Int) : Int := if c = 116 then 1 else if c = 105 then 2 else if c = 109 then 6 else 0
/-- The cells of a row of a text for each hook. -/
def strCells (f : Nat → ByteArray) : List Value := (List.range 17).map fun k => .string (f k)
theorem strCells_at (f : Nat → ByteArray) (k : Nat) (h : k < 17) : (strCells f)[k]? = some (.string (f k)) := by
  simp [strCells, h]
theorem row_no (k : Int) (w : World) (h : ¬ (1 ≤ k ∧ k ≤ 16)) : Calls Try.prog 11 #[.int .i64 k] w (Tells (.tuple #[.string { data := #[] }, .string { data := #[] }, .int .u64 0]) w) := by
  by_cases h1 : k < 1
  · go_enter Try.func11, Try.ntmps11
    go_wp2
    exact bodyPost_ret (v := .tuple #[.string { data := #[] }, .string { data := #[] }, .int .u64 0]) (by simp [results, Try.results11, go_sem]) rfl ⟨rfl, ((Below.refl _ _).alloc (Nat.le_refl _) _).alloc (by simp) _⟩
  · have h2 : 16 < k := by omega
    go_enter Try.func11, Try.ntmps11
    go_wp2
    exact bodyPost_ret (v := .tuple #[.string { data := #[] }, .string { data := #[] }, .int .u64 0]) (by simp [results, Try.results11, go_sem]) rfl ⟨rfl, ((Below.refl _ _).alloc (Nat.le_refl _) _).alloc (by simp) _⟩
theorem below_drews {B : Nat} {a w : World} (h : Below B a w) (n : Nat) : Below B a (w.drewN n) := ⟨h.os, h.tape, h.output, h.size, h.block⟩
theorem most_is (k : Nat) (h1 : 1 ≤ k) (h2 : k ≤ 16) : mostI k = if k = 11 then 12 else if 12 ≤ k ∧ k ≤ 14 then 1 else 40 := by
  have h : ∀ i : Fin 17, 1 ≤ i.val → mostI i.val = if i.val = 11 then 12 else if 12 ≤ i.val ∧ i.val ≤ 14 then 1 else 40 := by decide +kernel
  exact h ⟨k, by omega⟩ h1
theorem two_rows (w : World) : (w.alloc (.cells #[.string { data := #[] }, .string { data := #[111, 112, 101, 110] }, .string { data := #[97, 99, 99, 101, 115, 115] }, .string { data := #[99, 114, 101, 97, 116, 101] }, .string { data := #[108, 105, 110, 107] }, .string { data := #[117, 110, 108, 105, 110, 107] }, .string { data := #[114, 101, 110, 97, 109, 101] }, .string { data := #[115, 101, 116, 97, 116, 116, 114] }, .string { data := #[101, 120, 101, 99] }, .string { data := #[109, 109, 97, 112] }, .string { data := #[109, 112, 114, 111, 116, 101, 99, 116] }, .string { data := #[102, 111, 114, 107] }, .string { data := #[107, 105, 108, 108] }, .string { data := #[112, 116, 114, 97, 99, 101] }, .string { data := #[115, 101, 116, 105, 100] }, .string { data := #[99, 104, 100, 105, 114] }, .string { data := #[103, 101, 116, 97, 116, 116, 114] }] 9)).alloc (.cells #[.string { data := #[] }, .string { data := #[116, 105, 110] }, .string { data := #[116, 105, 110] }, .string { data := #[116, 105, 110, 110] }, .string { data := #[116, 105, 105] }, .string { data := #[116, 105, 105, 110] }, .string { data := #[116, 105, 105, 105, 109] }, .string { data := #[116, 105, 110, 110, 110] }, .string { data := #[116, 105, 109] }, .string { data := #[116, 109, 110] }, .string { data := #[116, 109, 110, 110] }, .string { data := #[116, 110] }, .string { data := #[116, 116, 110] }, .string { data := #[116, 116, 110] }, .string { data := #[116, 110, 110] }, .string { data := #[116, 105] }, .string { data := #[116, 105, 110] }] 9) = (w.alloc (.cells (strCells nameB).toArray 9)).alloc (.cells (strCells lettB).toArray 9) := by kernel_rfl
set_option maxHeartbeats 1000000 in
theorem row_yes (k : Nat) (w : World) (h1 : 1 ≤ k) (h2 : k ≤ 16) : Calls Try.prog 11 #[.int .i64 k] w (Tells (.tuple #[.string (nameB k), .string (lettB k), .int .u64 (mostI k)]) w) := by
  obtain ⟨W, hW⟩ : ∃ W, (w.alloc (.cells (strCells nameB).toArray 9)).alloc (.cells (strCells lettB).toArray 9) = W := ⟨_, rfl⟩
  have hc1 : W.cell? ⟨w.heap.size, k, none⟩ = some (.string (nameB k)) := by
    rw [← hW, World.cell?_alloc_lt _ _ _ (by simp), cell_of_row _ _ _ _ _ _ (heap_alloc_new _ _)]
    simpa using strCells_at nameB k (by omega)
  have hc2 : W.cell? ⟨w.heap.size + 1, k, none⟩ = some (.string (lettB k)) := by
    have e : w.heap.size + 1 = (w.alloc (.cells (strCells nameB).toArray 9)).heap.size := by simp
    rw [← hW, e, cell_of_row _ _ _ _ _ _ (heap_alloc_new _ _)]
    simpa using strCells_at lettB k (by omega)
  have hb : Below w.heap.size w W := by rw [← hW]; exact ((Below.refl _ _).alloc (Nat.le_refl _) _).alloc (by simp) _
  have hrow := (two_rows w).trans hW
  have HW := Lib.hid hb
  clear hb hW
  have hm := most_is k h1 h2
  by_cases k11 : k = 11
  · subst k11
    rw [if_pos rfl] at hm
    rw [hm]
    clear hm
    go_enter Try.func11, Try.ntmps11
    go_upto_region 3 with (fail)
    clear hrow
    go_wp2
    go_quiet (fail)
    go_wp2
    exact bodyPost_ret (v := .tuple #[.string (nameB 11), .string (lettB 11), .int .u64 12]) (by simp [results, Try.results11, go_sem]) rfl ⟨rfl, below_drews HW.out _⟩
  · by_cases k12 : 12 ≤ k ∧ k ≤ 14
    · rw [if_neg k11, if_pos k12] at hm
      rw [hm]
      clear hm
      obtain ⟨k12, k14⟩ := k12
      go_enter Try.func11, Try.ntmps11
      go_upto_region 3 with (fail)
      clear hrow
      go_wp2
      go_quiet (fail)
      go_wp2
      exact bodyPost_ret (v := .tuple #[.string (nameB k), .string (lettB k), .int .u64 1]) (by simp [results, Try.results11, go_sem]) rfl ⟨rfl, below_drews HW.out _⟩
    · rw [if_neg k11, if_neg k12] at hm
      rw [hm]
      clear hm
      by_cases k13 : k < 12
      · clear k12
        go_enter Try.func11, Try.ntmps11
        go_upto_region 3 with (fail)
        clear hrow
        go_wp2
        go_quiet (fail)
        go_wp2
        exact bodyPost_ret (v := .tuple #[.string (nameB k), .string (lettB k), .int .u64 40]) (by simp [results, Try.results11, go_sem]) rfl ⟨rfl, below_drews HW.out _⟩
      · have k15 : 14 < k := by omega
        clear k12 k13
        go_enter Try.func11, Try.ntmps11
        go_upto_region 3 with (fail)
        clear hrow
        go_wp2
        go_quiet (fail)
        go_wp2
        exact bodyPost_ret (v := .tuple #[.string (nameB k), .string (lettB k), .int .u64 40]) (by simp [results, Try.results11, go_sem]) rfl ⟨rfl, below_drews HW.out _⟩
end Go.Proofs.Ytcdpmggjdmibjaa
