/-
  Proved here: what within and withinSigned of package num make of what is known behind a pointer. Conditions: the pointer's block holds it.
-/
import Derived.Test.YtbljijbmjccalaaHNumBv
import Derived.RegionTactic
import Derived.BigRegion
namespace Go.Proofs.Ytbljijbmjccalaa
open Go.RowKit

/-- Block g holds this, as what is known under way. -/
def AtK (g : Nat) (k : K) (W : World) : Prop :=
  W.heap[g]? = some (.cells #[.int .u64 (u k.v), .int .u64 (u k.m), .int .u64 (u k.a), .int .u64 (u k.b), .int .i64 (s k.c), .int .i64 (s k.d)] 74)
theorem at_cells {g : Nat} {k : K} {W : World} (h : AtK g k W) :
    W.cell? ⟨g, 0, none⟩ = some (.int .u64 (u k.v)) ∧ W.cell? ⟨g, 1, none⟩ = some (.int .u64 (u k.m)) ∧ W.cell? ⟨g, 2, none⟩ = some (.int .u64 (u k.a)) ∧ W.cell? ⟨g, 3, none⟩ = some (.int .u64 (u k.b)) ∧
    W.cell? ⟨g, 4, none⟩ = some (.int .i64 (s k.c)) ∧ W.cell? ⟨g, 5, none⟩ = some (.int .i64 (s k.d)) := by
  unfold AtK at h
  refine ⟨?_, ?_, ?_, ?_, ?_, ?_⟩ <;> simp [World.cell?, h]
theorem at_free {g : Nat} {k : K} {W : World} (h : AtK g k W) (o : Nat) (ho : o < 6) : W.frozen? ⟨g, o, none⟩ = false := by
  unfold AtK at h
  have : o = 0 ∨ o = 1 ∨ o = 2 ∨ o = 3 ∨ o = 4 ∨ o = 5 := by omega
  rcases this with rfl | rfl | rfl | rfl | rfl | rfl <;> simp [World.frozen?, h]
theorem at_lt {g : Nat} {k : K} {W : World} (h : AtK g k W) : g < W.heap.size := (Array.getElem?_eq_some_iff.1 h).1
theorem at_drew {g : Nat} {k : K} {W : World} (h : AtK g k W) : AtK g k W.drew := h
theorem at_v {g : Nat} {k : K} {W : World} (h : AtK g k W) (x : B64) : AtK g ⟨x, k.m, k.a, k.b, k.c, k.d⟩ (W.setCell ⟨g, 0, none⟩ (.int .u64 (u x))) := by
  unfold AtK at *
  simp [World.setCell, Array.getElem?_modify, h]
theorem at_m {g : Nat} {k : K} {W : World} (h : AtK g k W) (x : B64) : AtK g ⟨k.v, x, k.a, k.b, k.c, k.d⟩ (W.setCell ⟨g, 1, none⟩ (.int .u64 (u x))) := by
  unfold AtK at *
  simp [World.setCell, Array.getElem?_modify, h]
theorem at_a {g : Nat} {k : K} {W : World} (h : AtK g k W) (x : B64) : AtK g ⟨k.v, k.m, x, k.b, k.c, k.d⟩ (W.setCell ⟨g, 2, none⟩ (.int .u64 (u x))) := by
  unfold AtK at *
  simp [World.setCell, Array.getElem?_modify, h]
theorem at_b {g : Nat} {k : K} {W : World} (h : AtK g k W) (x : B64) : AtK g ⟨k.v, k.m, k.a, x, k.c, k.d⟩ (W.setCell ⟨g, 3, none⟩ (.int .u64 (u x))) := by
  unfold AtK at *
  simp [World.setCell, Array.getElem?_modify, h]
theorem at_c {g : Nat} {k : K} {W : World} (h : AtK g k W) (x : B64) : AtK g ⟨k.v, k.m, k.a, k.b, x, k.d⟩ (W.setCell ⟨g, 4, none⟩ (.int .i64 (s x))) := by
  unfold AtK at *
  simp [World.setCell, Array.getElem?_modify, h]
theorem at_d {g : Nat} {k : K} {W : World} (h : AtK g k W) (x : B64) : AtK g ⟨k.v, k.m, k.a, k.b, k.c, x⟩ (W.setCell ⟨g, 5, none⟩ (.int .i64 (s x))) := by
  unfold AtK at *
  simp [World.setCell, Array.getElem?_modify, h]
theorem below_set {g : Nat} {w W : World} (h : Below g w W) (o : Nat) (x : Value) : Below g w (W.setCell ⟨g, o, none⟩ x) := h.setCell (Nat.le_refl _) x
/-- Returns r; block g holds k; no block below g has turned. -/
def Turns (r : Value) (g : Nat) (k : K) (w : World) (e : Ending) (w' : World) : Prop := e = .returned r ∧ AtK g k w' ∧ Below g w w'
attribute [local go_sem] u_and u_or u_xor u_andNot u_add u_sub s_conv u_conv max_u min_u max_s min_s

theorem within_num (g : Nat) (k : K) (lo hi : B64) (w : World) (h : AtK g k w) : Calls Try.prog 51 #[.pointer (some ⟨g, 0, none⟩), .int .u64 (u lo), .int .u64 (u hi)] w (Turns (.tuple #[]) g (k.inU lo hi) w) := by
  unfold Turns
  obtain ⟨c0, c1, c2, c3, c4, c5⟩ := at_cells h
  have f2 := at_free h 2 (by omega)
  have f3 := at_free h 3 (by omega)
  have HH := Lib.hid h
  clear h
  go_enter Try.func51, Try.ntmps51
  go_wp2
  go_region
  all_goals
    go_end0
    exact ⟨rfl, at_b (at_a HH.out _) _, (below_set (below_set (Below.refl _ _) _ _) _ _).drew⟩
theorem withinSigned_num (g : Nat) (k : K) (lo hi : B64) (w : World) (h : AtK g k w) : Calls Try.prog 52 #[.pointer (some ⟨g, 0, none⟩), .int .i64 (s lo), .int .i64 (s hi)] w (Turns (.tuple #[]) g (k.inS lo hi) w) := by
  unfold Turns
  obtain ⟨c0, c1, c2, c3, c4, c5⟩ := at_cells h
  have f4 := at_free h 4 (by omega)
  have f5 := at_free h 5 (by omega)
  have HH := Lib.hid h
  clear h
  go_enter Try.func52, Try.ntmps52
  go_wp2
  go_region
  all_goals
    go_end0
    exact ⟨rfl, at_d (at_c HH.out _) _, (below_set (below_set (Below.refl _ _) _ _) _ _).drew⟩
end Go.Proofs.Ytbljijbmjccalaa
