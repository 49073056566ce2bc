/-
  Proved here: what Row, Arg and Ret of the document's helpers give. Conditions: as each says.
-/
import Derived.Test.YthjdmnbpidoifaaRows
import Derived.Test.YthjdmnbpidoifaaHTab
import Derived.WalkKit
import Derived.IntWalk
import Derived.Outline
import Derived.Below
import Derived.Lib.Hide
import Derived.Deep.QuietTactic
import Derived.BigQuiet
import Derived.Laws.Rows
namespace Go.Proofs.Ythjdmnbpidoifaa
open Go.RowKit

def Ret (v : Value) (w : World) (e : Ending) (w' : World) : Prop := e = .returned v ∧ w = w'
def Tells (v : Value) (W : World) (e : Ending) (w : World) : Prop := e = .returned v ∧ Below W.heap.size W w
theorem ret_same {k : FuncId} {args : Array Value} {v : Value} {w : World} (h : Calls Try.prog k args w (Ret v w)) : Calls Try.prog k args w fun e w' => e = .returned v ∧ w' = w :=
  h.mono fun _ _ h => ⟨h.1, h.2.symm⟩
theorem ret_bool {a b : Bool} (h : a = b) : Ending.returned (.bool a) = .returned (.bool b) := by rw [h]
theorem ret_u8 {a b : Int} (h : a = b) : Ending.returned (.int .u8 a) = .returned (.int .u8 b) := by rw [h]
/-- A slice of integers of a kind, in memory that came at block B or later; if it has none, it may be nil. -/
def SlRow (w : World) (B : Nat) (k : IntKind) (a : Option Addr) (zs : List Int) : Prop := 0 < zs.length → ∃ p off, a = some ⟨p, off, none⟩ ∧ B ≤ p ∧ p < w.heap.size ∧ ∀ j, j < zs.length → w.cell? ⟨p, off + j, none⟩ = some (.int k (zs.getD j 0)) ∧ w.frozen? ⟨p, off + j, none⟩ = false
theorem SlRow.stay {w w' : World} {B : Nat} {k : IntKind} {a : Option Addr} {zs : List Int} (h : SlRow w B k a zs) (hb : Below w.heap.size w w') : SlRow w' B k a zs := by
  intro hn
  obtain ⟨p, off, ha, hB, hp, hc⟩ := h hn
  exact ⟨p, off, ha, hB, Nat.lt_of_lt_of_le hp hb.size, fun j hj => ⟨(hb.cell (p := ⟨p, off + j, none⟩) hp).trans (hc j hj).1, (hb.frozen (p := ⟨p, off + j, none⟩) hp).trans (hc j hj).2⟩⟩
theorem SlRow.later {w : World} {B B' : Nat} {k : IntKind} {a : Option Addr} {zs : List Int} (h : SlRow w B k a zs) (hB : B' ≤ B) : SlRow w B' k a zs := by
  intro hn
  obtain ⟨p, off, ha, hp, h'⟩ := h hn
  exact ⟨p, off, ha, Nat.le_trans hB hp, h'⟩
theorem hcell_new (w : World) (zs : List Int) (j : Nat) (hj : j < zs.length) : (w.alloc (.cells (zs.map (Value.int .i64)).toArray 3)).cell? ⟨w.heap.size, 0 + j, none⟩ = some (.int .i64 (zs.getD j 0)) ∧ (w.alloc (.cells (zs.map (Value.int .i64)).toArray 3)).frozen? ⟨w.heap.size, 0 + j, none⟩ = false := by
  have hh := heap_alloc_new w (.cells (zs.map (Value.int .i64)).toArray 3 (0, 0))
  constructor
  · rw [Nat.zero_add, cell_of_row _ _ _ _ _ _ hh]
    simp [hj]
  · unfold World.frozen?
    rw [hh]
    simp
/-- What the document's Row gives of a helper that there is. -/
def GaveRow (k : Nat) (w : World) (e : Ending) (w' : World) : Prop := ∃ a c, e = .returned (.tuple #[.string (hnameB k), .string (hargB k), .slice a (hmapL k).length c, .int .u8 (hretC k)]) ∧ Below w.heap.size w w' ∧ SlRow w' w.heap.size .i64 a (hmapL k)
theorem hrow_1 (w : World) : Calls Try.prog 8 #[.int .i64 1] w (GaveRow 1 w) := by
  go_enter Try.func8, Try.ntmps8
  go_wp2
  exact bodyPost_ret (v := .tuple #[.string (hnameB 1), .string (hargB 1), .slice (some ⟨w.heap.size, 0, none⟩) 2 2, .int .u8 (hretC 1)]) (by simp [results, Try.results8, go_sem]; exact ⟨rfl, rfl, rfl⟩) rfl ⟨some ⟨w.heap.size, 0, none⟩, 2, rfl, ((Below.refl _ _).alloc (Nat.le_refl _) _), fun hn => ⟨w.heap.size, 0, rfl, Nat.le_refl _, by simp, fun j hj => hcell_new w (hmapL 1) j hj⟩⟩
theorem hrow_2 (w : World) : Calls Try.prog 8 #[.int .i64 2] w (GaveRow 2 w) := by
  go_enter Try.func8, Try.ntmps8
  go_wp2
  exact bodyPost_ret (v := .tuple #[.string (hnameB 2), .string (hargB 2), .slice (some ⟨w.heap.size, 0, none⟩) 2 2, .int .u8 (hretC 2)]) (by simp [results, Try.results8, go_sem]; exact ⟨rfl, rfl, rfl⟩) rfl ⟨some ⟨w.heap.size, 0, none⟩, 2, rfl, ((Below.refl _ _).alloc (Nat.le_refl _) _), fun hn => ⟨w.heap.size, 0, rfl, Nat.le_refl _, by simp, fun j hj => hcell_new w (hmapL 2) j hj⟩⟩
theorem hrow_3 (w : World) : Calls Try.prog 8 #[.int .i64 3] w (GaveRow 3 w) := by
  go_enter Try.func8, Try.ntmps8
  go_wp2
  exact bodyPost_ret (v := .tuple #[.string (hnameB 3), .string (hargB 3), .slice (some ⟨w.heap.size, 0, none⟩) 1 1, .int .u8 (hretC 3)]) (by simp [results, Try.results8, go_sem]; exact ⟨rfl, rfl, rfl⟩) rfl ⟨some ⟨w.heap.size, 0, none⟩, 1, rfl, ((Below.refl _ _).alloc (Nat.le_refl _) _), fun hn => ⟨w.heap.size, 0, rfl, Nat.le_refl _, by simp, fun j hj => hcell_new w (hmapL 3) j hj⟩⟩
theorem hrow_4 (w : World) : Calls Try.prog 8 #[.int .i64 4] w (GaveRow 4 w) := by
  go_enter Try.func8, Try.ntmps8
  go_wp2
  exact bodyPost_ret (v := .tuple #[.string (hnameB 4), .string (hargB 4), .slice (some ⟨w.heap.size, 0, none⟩) 1 1, .int .u8 (hretC 4)]) (by simp [results, Try.results8, go_sem]; exact ⟨rfl, rfl, rfl⟩) rfl ⟨some ⟨w.heap.size, 0, none⟩, 1, rfl, ((Below.refl _ _).alloc (Nat.le_refl _) _), fun hn => ⟨w.heap.size, 0, rfl, Nat.le_refl _, by simp, fun j hj => hcell_new w (hmapL 4) j hj⟩⟩
theorem hrow_5 (w : World) : Calls Try.prog 8 #[.int .i64 5] w (GaveRow 5 w) := by
  go_enter Try.func8, Try.ntmps8
  go_wp2
  exact bodyPost_ret (v := .tuple #[.string (hnameB 5), .string (hargB 5), .slice (some ⟨w.heap.size, 0, none⟩) 1 1, .int .u8 (hretC 5)]) (by simp [results, Try.results8, go_sem]; exact ⟨rfl, rfl, rfl⟩) rfl ⟨some ⟨w.heap.size, 0, none⟩, 1, rfl, ((Below.refl _ _).alloc (Nat.le_refl _) _), fun hn => ⟨w.heap.size, 0, rfl, Nat.le_refl _, by simp, fun j hj => hcell_new w (hmapL 5) j hj⟩⟩
theorem hrow_6 (w : World) : Calls Try.prog 8 #[.int .i64 6] w (GaveRow 6 w) := by
  go_enter Try.func8, Try.ntmps8
  go_wp2
  exact bodyPost_ret (v := .tuple #[.string (hnameB 6), .string (hargB 6), .slice (some ⟨w.heap.size, 0, none⟩) 1 1, .int .u8 (hretC 6)]) (by simp [results, Try.results8, go_sem]; exact ⟨rfl, rfl, rfl⟩) rfl ⟨some ⟨w.heap.size, 0, none⟩, 1, rfl, ((Below.refl _ _).alloc (Nat.le_refl _) _), fun hn => ⟨w.heap.size, 0, rfl, Nat.le_refl _, by simp, fun j hj => hcell_new w (hmapL 6) j hj⟩⟩
theorem hrow_7 (w : World) : Calls Try.prog 8 #[.int .i64 7] w (GaveRow 7 w) := by
  go_enter Try.func8, Try.ntmps8
  go_wp2
  exact bodyPost_ret (v := .tuple #[.string (hnameB 7), .string (hargB 7), .slice (some ⟨w.heap.size, 0, none⟩) 1 1, .int .u8 (hretC 7)]) (by simp [results, Try.results8, go_sem]; exact ⟨rfl, rfl, rfl⟩) rfl ⟨some ⟨w.heap.size, 0, none⟩, 1, rfl, ((Below.refl _ _).alloc (Nat.le_refl _) _), fun hn => ⟨w.heap.size, 0, rfl, Nat.le_refl _, by simp, fun j hj => hcell_new w (hmapL 7) j hj⟩⟩
theorem hrow_8 (w : World) : Calls Try.prog 8 #[.int .i64 8] w (GaveRow 8 w) := by
  go_enter Try.func8, Try.ntmps8
  go_wp2
  exact bodyPost_ret (v := .tuple #[.string (hnameB 8), .string (hargB 8), .slice (some ⟨w.heap.size, 0, none⟩) 1 1, .int .u8 (hretC 8)]) (by simp [results, Try.results8, go_sem]; exact ⟨rfl, rfl, rfl⟩) rfl ⟨some ⟨w.heap.size, 0, none⟩, 1, rfl, ((Below.refl _ _).alloc (Nat.le_refl _) _), fun hn => ⟨w.heap.size, 0, rfl, Nat.le_refl _, by simp, fun j hj => hcell_new w (hmapL 8) j hj⟩⟩
theorem hrow_9 (w : World) : Calls Try.prog 8 #[.int .i64 9] w (GaveRow 9 w) := by
  go_enter Try.func8, Try.ntmps8
  go_wp2
  exact bodyPost_ret (v := .tuple #[.string (hnameB 9), .string (hargB 9), .slice none 0 0, .int .u8 (hretC 9)]) (by simp [results, Try.results8, go_sem]; exact ⟨rfl, rfl, rfl⟩) rfl ⟨none, 0, rfl, (Below.refl _ _), fun hn => absurd hn (by decide)⟩
theorem hrow_10 (w : World) : Calls Try.prog 8 #[.int .i64 10] w (GaveRow 10 w) := by
  go_enter Try.func8, Try.ntmps8
  go_wp2
  exact bodyPost_ret (v := .tuple #[.string (hnameB 10), .string (hargB 10), .slice none 0 0, .int .u8 (hretC 10)]) (by simp [results, Try.results8, go_sem]; exact ⟨rfl, rfl, rfl⟩) rfl ⟨none, 0, rfl, (Below.refl _ _), fun hn => absurd hn (by decide)⟩
theorem hrow_11 (w : World) : Calls Try.prog 8 #[.int .i64 11] w (GaveRow 11 w) := by
  go_enter Try.func8, Try.ntmps8
  go_wp2
  exact bodyPost_ret (v := .tuple #[.string (hnameB 11), .string (hargB 11), .slice none 0 0, .int .u8 (hretC 11)]) (by simp [results, Try.results8, go_sem]; exact ⟨rfl, rfl, rfl⟩) rfl ⟨none, 0, rfl, (Below.refl _ _), fun hn => absurd hn (by decide)⟩
theorem hrow_12 (w : World) : Calls Try.prog 8 #[.int .i64 12] w (GaveRow 12 w) := by
  go_enter Try.func8, Try.ntmps8
  go_wp2
  exact bodyPost_ret (v := .tuple #[.string (hnameB 12), .string (hargB 12), .slice none 0 0, .int .u8 (hretC 12)]) (by simp [results, Try.results8, go_sem]; exact ⟨rfl, rfl, rfl⟩) rfl ⟨none, 0, rfl, (Below.refl _ _), fun hn => absurd hn (by decide)⟩
theorem hrow_13 (w : World) : Calls Try.prog 8 #[.int .i64 13] w (GaveRow 13 w) := by
  go_enter Try.func8, Try.ntmps8
  go_wp2
  exact bodyPost_ret (v := .tuple #[.string (hnameB 13), .string (hargB 13), .slice none 0 0, .int .u8 (hretC 13)]) (by simp [results, Try.results8, go_sem]; exact ⟨rfl, rfl, rfl⟩) rfl ⟨none, 0, rfl, (Below.refl _ _), fun hn => absurd hn (by decide)⟩

theorem hrow_yes (k : Nat) (w : World) (h1 : 1 ≤ k) (h2 : k ≤ 13) : Calls Try.prog 8 #[.int .i64 k] w (GaveRow k w) := match k, h1, h2 with
  | 1, _, _ => hrow_1 w
  | 2, _, _ => hrow_2 w
  | 3, _, _ => hrow_3 w
  | 4, _, _ => hrow_4 w
  | 5, _, _ => hrow_5 w
  | 6, _, _ => hrow_6 w
  | 7, _, _ => hrow_7 w
  | 8, _, _ => hrow_8 w
  | 9, _, _ => hrow_9 w
  | 10, _, _ => hrow_10 w
  | 11, _, _ => hrow_11 w
  | 12, _, _ => hrow_12 w
  | 13, _, _ => hrow_13 w
  | n + 14, _, h => absurd h (by omega)
theorem hrow_no (k : Int) (w : World) (h : ¬ (1 ≤ k ∧ k ≤ 13)) : Calls Try.prog 8 #[.int .i64 k] w (Ret (.tuple #[.string { data := #[] }, .string { data := #[] }, .slice none 0 0, .int .u8 0]) w) := by
  have k1 : (k == 1) = false := by simp; omega
  have k2 : (k == 2) = false := by simp; omega
  have k3 : (k == 3) = false := by simp; omega
  have k4 : (k == 4) = false := by simp; omega
  have k5 : (k == 5) = false := by simp; omega
  have k6 : (k == 6) = false := by simp; omega
  have k7 : (k == 7) = false := by simp; omega
  have k8 : (k == 8) = false := by simp; omega
  have k9 : (k == 9) = false := by simp; omega
  have k10 : (k == 10) = false := by simp; omega
  have k11 : (k == 11) = false := by simp; omega
  have k12 : (k == 12) = false := by simp; omega
  have k13 : (k == 13) = false := by simp; omega
  clear h
  go_enter Try.func8, Try.ntmps8
  go_wp2
  exact bodyPost_ret (v := .tuple #[.string { data := #[] }, .string { data := #[] }, .slice none 0 0, .int .u8 0]) (by simp [results, Try.results8, go_sem]) rfl ⟨rfl, rfl⟩
end Go.Proofs.Ythjdmnbpidoifaa
