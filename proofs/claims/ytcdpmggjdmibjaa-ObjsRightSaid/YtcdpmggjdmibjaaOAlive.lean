/-
  Proved here: the document's examples of objs come out, over whatever package keeps the contracts. Conditions: Acts17.
-/
import Derived.Test.YtcdpmggjdmibjaaOActs
namespace Go.Proofs.Ytcdpmggjdmibjaa
open Go.RowKit

/-- Each cell is one. -/
theorem all_one {X : Array Value} (h : ∀ i, i < X.size → ∃ v, X[i]? = some v ∧ v.oneCell' = true) : X.all (·.oneCell') = true := by
  rw [Array.all_eq_true]
  intro i hi
  obtain ⟨v, hv, ho⟩ := h i hi
  rw [Array.getElem?_eq_getElem hi] at hv
  injection hv with hv
  rw [hv]
  exact ho
theorem CxX.one {w : World} {C : Array Value} {c : Cx} (h : CxX w C c) : C.all (·.oneCell') = true := by
  refine all_one fun i hi => ?_
  rw [h.size] at hi
  obtain ⟨a, k, h9, -⟩ := h.c9
  by_cases h0 : i = 0
  · subst h0; exact ⟨_, h.c0, rfl⟩
  · by_cases h8 : i < 9
    · obtain ⟨j, rfl⟩ : ∃ j, i = 1 + j := ⟨i - 1, by omega⟩
      exact ⟨_, h.cw j (by omega), rfl⟩
    · by_cases e9 : i = 9
      · subst e9; exact ⟨_, h9, rfl⟩
      · obtain rfl : i = 10 := by omega
        exact ⟨_, h.c10, rfl⟩
/-- The store of a whole context into its new box, and the load of one. -/
theorem put_ctx {w : World} {C : Array Value} {c : Cx} (h : CxX w C c) (W : World) : (storeCells ⟨W.heap.size, 0, none⟩ C.toList).run Try.prog (W.alloc (.cells #[.int .i64 0, .int .u64 0, .int .u64 0, .int .u64 0, .int .u64 0, .int .u64 0, .int .u64 0, .int .u64 0, .int .u64 0, .slice none 0 0, .int .u64 0] 26)) = .ok () (W.alloc (.cells C 26)) :=
  run_storeCells_new W 26 _ C (by rw [h.size]; kernel_rfl) (by rw [h.size]; rfl) h.one
def loadCxV (v : Value) : Sem Value := Instr.loadAt 26 v
theorem loadCx_veil (v : Value) : Instr.loadAt 26 v = loadCxV v := rfl
theorem run_loadCx (w : World) (b : Nat) (C : Array Value) (T : TypeId) (fz : Nat × Nat) (h : w.heap[b]? = some (.cells C T fz)) (hs : C.size = 11) : (loadCxV (.pointer (some ⟨b, 0, none⟩))).run Try.prog w = .ok (.agg C) w := by
  unfold loadCxV
  simp only [Instr.loadAt, Instr.sureAddr, Sem.run_bind, Sem.run_pure, Result.andThen_ok]
  exact run_loadVar_row w b T 26 C fz _ h Try.underlying26 rfl (by rw [hs]; kernel_rfl)
def objT : Kob := ⟨1, 0, 0, [0, 0, 0, 0, 0, 0, 0, 0], ⟨#[]⟩, []⟩
theorem objT_x (w : World) : ObX w #[.int .i64 1, .int .i64 0, .int .i64 0, .int .u64 0, .int .u64 0, .int .u64 0, .int .u64 0, .int .u64 0, .int .u64 0, .int .u64 0, .int .u64 0, .string { data := #[] }, .slice none 0 0] objT :=
  ⟨rfl, rfl, rfl, rfl, fun i hi => match i, hi with
    | 0, _ => rfl
    | 1, _ => rfl
    | 2, _ => rfl
    | 3, _ => rfl
    | 4, _ => rfl
    | 5, _ => rfl
    | 6, _ => rfl
    | 7, _ => rfl
    | n + 8, h => absurd h (by omega), rfl, ⟨none, 0, rfl, fun h => absurd h (by decide)⟩, fun i => match i with
    | 0 => by decide
    | 1 => by decide
    | 2 => by decide
    | 3 => by decide
    | 4 => by decide
    | 5 => by decide
    | 6 => by decide
    | 7 => by decide
    | n + 8 => by show 0 ≤ (0 : Int) ∧ (0 : Int) ≤ 18446744073709551615; omega, by show 0 ≤ maxLen; omega, by show 0 ≤ maxLen; omega, fun j => by show -9223372036854775808 ≤ (0 : Int) ∧ (0 : Int) ≤ 9223372036854775807; omega⟩
def objI : Kob := ⟨2, 0, 0, [3, 1, 420, 0, 0, 0, 0, 0], ⟨#[]⟩, []⟩
theorem objI_x (w : World) : ObX w #[.int .i64 2, .int .i64 0, .int .i64 0, .int .u64 3, .int .u64 1, .int .u64 420, .int .u64 0, .int .u64 0, .int .u64 0, .int .u64 0, .int .u64 0, .string { data := #[] }, .slice none 0 0] objI :=
  ⟨rfl, rfl, rfl, rfl, fun i hi => match i, hi with
    | 0, _ => rfl
    | 1, _ => rfl
    | 2, _ => rfl
    | 3, _ => rfl
    | 4, _ => rfl
    | 5, _ => rfl
    | 6, _ => rfl
    | 7, _ => rfl
    | n + 8, h => absurd h (by omega), rfl, ⟨none, 0, rfl, fun h => absurd h (by decide)⟩, fun i => match i with
    | 0 => by decide
    | 1 => by decide
    | 2 => by decide
    | 3 => by decide
    | 4 => by decide
    | 5 => by decide
    | 6 => by decide
    | 7 => by decide
    | n + 8 => by show 0 ≤ (0 : Int) ∧ (0 : Int) ≤ 18446744073709551615; omega, by show 0 ≤ maxLen; omega, by show 0 ≤ maxLen; omega, fun j => by show -9223372036854775808 ≤ (0 : Int) ∧ (0 : Int) ≤ 9223372036854775807; omega⟩
def partT : Pt := ⟨false, true, objT, 0⟩
theorem partT_x (w : World) : PtX w #[.bool false, .bool true, .int .i64 1, .int .i64 0, .int .i64 0, .int .u64 0, .int .u64 0, .int .u64 0, .int .u64 0, .int .u64 0, .int .u64 0, .int .u64 0, .int .u64 0, .string { data := #[] }, .slice none 0 0, .int .u64 0] partT :=
  ⟨rfl, rfl, rfl, ⟨_, objT_x w, fun j hj => match j, hj with
    | 0, _ => rfl
    | 1, _ => rfl
    | 2, _ => rfl
    | 3, _ => rfl
    | 4, _ => rfl
    | 5, _ => rfl
    | 6, _ => rfl
    | 7, _ => rfl
    | 8, _ => rfl
    | 9, _ => rfl
    | 10, _ => rfl
    | 11, _ => rfl
    | 12, _ => rfl
    | n + 13, h => absurd h (by omega)⟩, rfl, by decide⟩
def partI : Pt := ⟨false, true, objI, 0⟩
theorem partI_x (w : World) : PtX w #[.bool false, .bool true, .int .i64 2, .int .i64 0, .int .i64 0, .int .u64 3, .int .u64 1, .int .u64 420, .int .u64 0, .int .u64 0, .int .u64 0, .int .u64 0, .int .u64 0, .string { data := #[] }, .slice none 0 0, .int .u64 0] partI :=
  ⟨rfl, rfl, rfl, ⟨_, objI_x w, fun j hj => match j, hj with
    | 0, _ => rfl
    | 1, _ => rfl
    | 2, _ => rfl
    | 3, _ => rfl
    | 4, _ => rfl
    | 5, _ => rfl
    | 6, _ => rfl
    | 7, _ => rfl
    | 8, _ => rfl
    | 9, _ => rfl
    | 10, _ => rfl
    | 11, _ => rfl
    | 12, _ => rfl
    | n + 13, h => absurd h (by omega)⟩, rfl, by decide⟩

theorem two_parts (w : World) : PtRow (w.alloc (.cells #[.bool false, .bool true, .int .i64 1, .int .i64 0, .int .i64 0, .int .u64 0, .int .u64 0, .int .u64 0, .int .u64 0, .int .u64 0, .int .u64 0, .int .u64 0, .int .u64 0, .string { data := #[] }, .slice none 0 0, .int .u64 0, .bool false, .bool true, .int .i64 2, .int .i64 0, .int .i64 0, .int .u64 3, .int .u64 1, .int .u64 420, .int .u64 0, .int .u64 0, .int .u64 0, .int .u64 0, .int .u64 0, .string { data := #[] }, .slice none 0 0, .int .u64 0] 49)) (some ⟨w.heap.size, 0, none⟩) [partT, partI] := by
  intro _
  refine ⟨w.heap.size, 0, rfl, by simp, fun i hi => ?_⟩
  match i, hi with
  | 0, _ => exact ⟨_, partT_x _, fun j hj => by rw [box_cells]; exact (match j, hj with
    | 0, _ => rfl
    | 1, _ => rfl
    | 2, _ => rfl
    | 3, _ => rfl
    | 4, _ => rfl
    | 5, _ => rfl
    | 6, _ => rfl
    | 7, _ => rfl
    | 8, _ => rfl
    | 9, _ => rfl
    | 10, _ => rfl
    | 11, _ => rfl
    | 12, _ => rfl
    | 13, _ => rfl
    | 14, _ => rfl
    | 15, _ => rfl
    | n + 16, h => absurd h (by omega))⟩
  | 1, _ => exact ⟨_, partI_x _, fun j hj => by rw [box_cells]; exact (match j, hj with
    | 0, _ => rfl
    | 1, _ => rfl
    | 2, _ => rfl
    | 3, _ => rfl
    | 4, _ => rfl
    | 5, _ => rfl
    | 6, _ => rfl
    | 7, _ => rfl
    | 8, _ => rfl
    | 9, _ => rfl
    | 10, _ => rfl
    | 11, _ => rfl
    | 12, _ => rfl
    | 13, _ => rfl
    | 14, _ => rfl
    | 15, _ => rfl
    | n + 16, h => absurd h (by omega))⟩
  | n + 2, h => exact absurd h (by simp)
theorem make_two (A : Acts17) (hm : mayB 15 [partT, partI] = true) (a : Option Addr) (k : Nat) (w : World) (h : PtRow w a [partT, partI]) : Calls Try.prog 19 #[.int .i64 15, .int .u64 9, .slice a 2 k] w (GaveCx 15 9 [partT, partI] w) :=
  A.make_yes 15 9 [partT, partI] a k w h (by simp) (by intro j hj; match j, hj with
  | 0, _ => decide
  | 1, _ => decide
  | n + 2, h => exact absurd h (by simp)) (by omega) (by omega) hm
attribute [local go_sem ↓] loadCx_veil loadObj_veil
set_option maxHeartbeats 1000000 in
set_option maxRecDepth 100000 in
theorem alive17 (A : Acts17) (w : World) : Calls Try.prog 6 #[] w (Tells (.bool true) w) := by
  have hload : loadO objI 16 2 = .tuple #[.int .u64 420, .bool true] := by kernel_rfl
  have hmay : mayB 15 [partT, partI] = true := by decide +kernel
  have HLO := Lib.hid hload
  have HM := Lib.hid hmay
  clear hload hmay
  have hld0 := run_loadObj (w.alloc (.cells #[.int .i64 2, .int .i64 0, .int .i64 0, .int .u64 3, .int .u64 1, .int .u64 420, .int .u64 0, .int .u64 0, .int .u64 0, .int .u64 0, .int .u64 0, .string { data := #[] }, .slice none 0 0] 38)) w.heap.size _ 38 (0, 0) (heap_alloc_new _ _) rfl
  go_enter Try.func6, Try.ntmps6
  go_wp2_with fail
  clear hld0
  have hp := two_parts (w.alloc (.cells #[.int .i64 2, .int .i64 0, .int .i64 0, .int .u64 3, .int .u64 1, .int .u64 420, .int .u64 0, .int .u64 0, .int .u64 0, .int .u64 0, .int .u64 0, .string { data := #[] }, .slice none 0 0] 38))
  rw [World.size_alloc] at hp
  refine (make_two A HM.out _ 2 _ hp).mono ?_
  clear hp
  rintro e w1 ⟨C, cx, rfl, hC, hm, hb⟩
  have hput := put_ctx hC
  have hsz := hC.size
  have h1 := (hC.cw 0 (by omega)).trans (by rw [hm.words 0 (by omega)])
  have h2 := (hC.cw 1 (by omega)).trans (by rw [hm.words 1 (by omega)])
  have h10 := hC.c10.trans (by rw [hm.now])
  have hR : rightB cx = true := made_right hm HM.out
  have hbs := hb.size
  rw [World.size_alloc, World.size_alloc] at hbs
  have hbox : w1.heap[w.heap.size]? = some (.cells #[.int .i64 2, .int .i64 0, .int .i64 0, .int .u64 3, .int .u64 1, .int .u64 420, .int .u64 0, .int .u64 0, .int .u64 0, .int .u64 0, .int .u64 0, .string { data := #[] }, .slice none 0 0] 38 (0, 0)) := (hb.block w.heap.size (by simp; omega)).trans ((Below.heap_alloc _ _ _ (by simp)).trans (heap_alloc_new _ _))
  have hw1 : Below w.heap.size w w1 := (((Below.refl _ _).alloc (Nat.le_refl _) _).alloc (by simp) _).trans (hb.mono (by simp; omega))
  have hld1 := run_loadObj (w1.alloc (.cells C 26)) w.heap.size _ 38 (0, 0) ((Below.heap_alloc _ _ _ (by omega)).trans hbox) rfl
  have HC := Lib.hid hC
  have H1 := Lib.hid h1
  have H2 := Lib.hid h2
  have H10 := Lib.hid h10
  have HR := Lib.hid hR
  have HW1 := Lib.hid hw1
  clear hC hm hb hR h1 h2 h10 hw1 hbox
  go_wp2_with fail
  clear hld1 hput
  refine (A.load _ objI 16 2 _ (objI_x _) (by omega) (by omega)).mono ?_
  rintro e w2 ⟨rfl, hb2⟩
  rw [HLO.out]
  have hc1 := (box_stay hb2 1).trans H1.out
  have hc2 := (box_stay hb2 2).trans H2.out
  have hc10 := (box_stay hb2 10).trans H10.out
  have hbx : w2.heap[w1.heap.size]? = some (.cells C 26 (0, 0)) := (hb2.block w1.heap.size (by simp)).trans (heap_alloc_new _ _)
  have hld2 := run_loadCx w2 w1.heap.size C 26 (0, 0) hbx hsz
  have HC2 := Lib.hid (HC.out.stay (below_box hb2))
  have HB2 := Lib.hid hb2
  clear hb2 hbx
  go_wp2_with fail
  refine (A.right C cx _ HC2.out).mono ?_
  rintro e w3 ⟨rfl, hb3⟩
  rw [HR.out]
  have HB3 := Lib.hid hb3
  clear hb3 hld2 hc1 hc2 hc10
  go_wp2
  go_ret
  exact ⟨rfl, (HW1.out.trans ((below_box HB2.out).mono HW1.out.size)).trans (HB3.out.mono (Nat.le_trans HW1.out.size (below_box HB2.out).size))⟩
end Go.Proofs.Ytcdpmggjdmibjaa
