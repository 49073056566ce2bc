/-
  Proved here: what All, Const, Refine, refined, Bounds and Signed of package num return. Conditions: none.
-/
import Derived.Test.YtbljijbmjccalaaQ2
namespace Go.Proofs.Ytbljijbmjccalaa
open Go.RowKit
attribute [local go_sem] u_and u_or u_xor u_andNot u_add u_sub s_conv u_conv max_u min_u max_s min_s

/-- What is known, as a value. -/
def numV (k : K) : Value := .agg #[.int .u64 (u k.v), .int .u64 (u k.m), .int .u64 (u k.a), .int .u64 (u k.b), .int .i64 (s k.c), .int .i64 (s k.d)]
theorem numV_all : numV allK = .agg #[.int .u64 0, .int .u64 18446744073709551615, .int .u64 0, .int .u64 18446744073709551615, .int .i64 (-9223372036854775808), .int .i64 9223372036854775807] := by
  unfold numV allK
  simp only [u_0, u_full, s_half, s_most]
/-- Block g holds this, as a struct of the document's type. -/
def NumAt (g : Nat) (k : K) (W : World) : Prop :=
  W.heap[g]? = some (.cells #[.int .u64 (u k.v), .int .u64 (u k.m), .int .u64 (u k.a), .int .u64 (u k.b), .int .i64 (s k.c), .int .i64 (s k.d)] 26)
theorem num_cells {g : Nat} {k : K} {W : World} (h : NumAt g k W) :
    W.cell? ⟨g, 0, none⟩ = some (.int .u64 (u k.v)) ∧ W.cell? ⟨g, 1, none⟩ = some (.int .u64 (u k.m)) ∧ W.cell? ⟨g, 2, none⟩ = some (.int .u64 (u k.a)) ∧ W.cell? ⟨g, 3, none⟩ = some (.int .u64 (u k.b)) ∧
    W.cell? ⟨g, 4, none⟩ = some (.int .i64 (s k.c)) ∧ W.cell? ⟨g, 5, none⟩ = some (.int .i64 (s k.d)) := by
  unfold NumAt at h
  refine ⟨?_, ?_, ?_, ?_, ?_, ?_⟩ <;> simp [World.cell?, h]
theorem num_free {g : Nat} {k : K} {W : World} (h : NumAt g k W) : W.frozen? ⟨g, 0, none⟩ = false ∧ W.frozen? ⟨g, 1, none⟩ = false ∧ W.frozen? ⟨g, 2, none⟩ = false ∧ W.frozen? ⟨g, 3, none⟩ = false ∧ W.frozen? ⟨g, 4, none⟩ = false ∧ W.frozen? ⟨g, 5, none⟩ = false := by
  unfold NumAt at h
  refine ⟨?_, ?_, ?_, ?_, ?_, ?_⟩ <;> simp [World.frozen?, h]
theorem num_lt {g : Nat} {k : K} {W : World} (h : NumAt g k W) : g < W.heap.size := (Array.getElem?_eq_some_iff.1 h).1
theorem num_keep {g : Nat} {k : K} {W W' : World} (h : NumAt g k W) (hb : Below W.heap.size W W') : NumAt g k W' := (hb.block _ (num_lt h)).trans h

theorem below_six {g : Nat} {w W : World} (h : Below g w W) (a b c d e f : Value) : Below g w ((((((W.setCell ⟨g, 0, none⟩ a).setCell ⟨g, 1, none⟩ b).setCell ⟨g, 2, none⟩ c).setCell ⟨g, 3, none⟩ d).setCell ⟨g, 4, none⟩ e).setCell ⟨g, 5, none⟩ f) :=
  below_set (below_set (below_set (below_set (below_set (below_set h _ _) _ _) _ _) _ _) _ _) _ _
theorem all_num (w : World) : Calls Try.prog 46 #[] w (Gives (numV allK) w) := by
  rw [numV_all]
  unfold Gives
  go_enter Try.func46, Try.ntmps46
  go_wp2_with (go_at_call 59; refine (all_lit _).mono ?_; rintro e w1 ⟨rfl, hb⟩; obtain ⟨hc, hf⟩ := bcell hb; have HB := Lib.hid ((below_box _ _).trans (hb.mono (by simp))); clear hb)
  exact bodyPost_ret (v := .agg #[.int .u64 0, .int .u64 18446744073709551615, .int .u64 0, .int .u64 18446744073709551615, .int .i64 (-9223372036854775808), .int .i64 9223372036854775807]) (by simp [results, Try.results46, go_sem, hc]) rfl ⟨rfl, below_six HB.out _ _ _ _ _ _⟩
end Go.Proofs.Ytbljijbmjccalaa
